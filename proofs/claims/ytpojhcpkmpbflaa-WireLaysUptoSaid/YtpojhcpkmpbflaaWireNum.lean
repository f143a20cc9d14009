/- wire.numbers: it answers as the document says; old memory is as it was. -/
import Derived.Test.YtpojhcpkmpbflaaWireP
import Derived.Test.YtpojhcpkmpbflaaOctList
import Derived.Test.YtpojhcpkmpbflaaMem
set_option linter.unusedVariables false
set_option linter.unusedSimpArgs false
namespace Go.Proofs.Ytpojhcpkmpbflaa
open Go.RowKit Copyhold

theorem textElem : Elem Try.prog 27 9 (.string ByteArray.empty) 1 16 := ⟨Try.underlying27, by kernel_rfl, by kernel_rfl, by decide⟩

theorem join_row (v : Value) (xs : List (List UInt8)) (w : World) (hr : Row w v (xs.map strV)) (h0 : 0 < xs.length) (hn : xs.length ≤ 100000000) (hlen : xs.flatten.length ≤ 140737488355328) :
    Calls Try.prog 51 #[v, .string ⟨#[]⟩] w fun e w' => e = .returned (.string ⟨xs.flatten.toArray⟩) ∧ Below w.heap.size w w' := by
  obtain ⟨A, c, rfl⟩ := hr.shape
  rw [List.length_map] at hr ⊢
  obtain ⟨bk, o, rfl, hbk, hcap, hcl⟩ := hr.at 0 (x := strV xs[0]) (by rw [List.getElem?_map, List.getElem?_eq_getElem h0]; rfl)
  have hj := Try.strings_Join bk o c (xs.map fun l => ⟨l.toArray⟩) ⟨#[]⟩ w (fun j x hx => by
      rw [List.getElem?_map] at hx
      cases hg : xs[j]? with
      | none => rw [hg] at hx; cases hx
      | some y => rw [hg] at hx; cases hx; exact hcl j (strV y) (by rw [List.getElem?_map, hg]; rfl)) hbk (by rw [List.length_map]; omega) (by simpa using hcap)
  have e : Lib.join ((xs.map fun l => (⟨l.toArray⟩ : ByteArray)).map (·.data.toList)) (⟨#[]⟩ : ByteArray).data.toList = xs.flatten := by
    rw [List.map_map]
    show List.intercalate [] _ = _
    rw [intercalate_nil]
    congr 1
    exact List.map_id xs
  rw [e, List.length_map] at hj
  exact hj hlen

theorem sl_one (w : World) (v : Value) (t : TypeId) : Sl (w.alloc (.cells #[v] t)) 1 (.slice (some ⟨w.heap.size, 0, none⟩) 1 1) 1 [v] :=
  ⟨_, 1, rfl, Nat.le_refl _, rfl, fun _ => ⟨w.heap.size, 0, rfl, by simp, fun j y hj => by
    rw [Nat.zero_add, cell_new]
    simpa using hj⟩⟩

def NumsIn (w : World) (v : Value) (zs : List Int) : Prop := Sl w 1 v zs.length (zs.map (Value.int .i64))

set_option maxRecDepth 100000 in
set_option maxHeartbeats 4000000 in
theorem wire_numbers (v : Value) (zs : List Int) (w : World) (hv : NumsIn w v zs) (h0 : 0 < zs.length) (hn : zs.length ≤ 100) (hz : ∀ z ∈ zs, I64 z) :
    Calls Try.prog 27 #[v] w fun e w' => e = .returned (.string ⟨(numsB zs).toArray⟩) ∧ Below w.heap.size w w' := by
  obtain ⟨A, c, rfl, -, -⟩ := hv.shape
  have HV := Lib.hid hv
  have HZ := Lib.hid hz
  clear hv hz
  go_enter Try.func27, Try.ntmps27
  go_wp2_with fail
  go_loopw [3, 8] (fun sp si wr => ∃ k : Nat, si = .int .i64 k ∧ k ≤ zs.length ∧ wr.ownsRow w.heap.size 9 1 sp k (((zs.take k).map wholeB).map strV) ∧ Below w.heap.size w wr) (fun _ si _ => zs.length - (intOf si).toNat)
  case atStart => exact ⟨0, rfl, Nat.zero_le _, World.ownsRow_nil _ _ _ _, Below.refl _ _⟩
  case round =>
    obtain ⟨k, rfl, hk, hown, hb⟩ := hrel
    have HO := Lib.hid hown
    have HB := Lib.hid hb
    clear hown hb
    by_cases hlt : k < zs.length
    · obtain ⟨b, off, rfl, hbk, _, _, hcs⟩ := (HV.out.below HB.out).at h0
      have hc := hcs k (.int .i64 zs[k]) (by rw [List.getElem?_map, List.getElem?_eq_getElem hlt]; rfl)
      obtain ⟨z1, z2⟩ := HZ.out zs[k] (List.getElem_mem hlt)
      obtain ⟨f1, f2⟩ := fold_bd _ z1 z2
      have hst : ((zs.take (k + 1)).map wholeB).map strV = ((zs.take k).map wholeB).map strV ++ [strV (wholeB zs[k])] := by
        rw [List.take_succ_eq_append_getElem hlt]; simp only [List.map_append, List.map_cons, List.map_nil]
      have HST := Lib.hid hst
      have hi1 : (k : Int) < (zs.length : Int) := by omega
      have hwd : wholeB zs[k] = numB (foldN zs[k]).toNat := rfl
      have HWD := Lib.hid hwd
      clear hcs hst hwd
      generalize zs[k] = z at *
      generalize hfz : foldN z = fz at *
      have HFZ := Lib.hid hfz
      clear hfz
      go_wp2_with fail
      refine (octet_Fold z _ z1 z2).mono ?_
      rintro e w1 ⟨rfl, rfl⟩
      rw [HFZ.out]
      go_wp2_with fail
      refine (octet_Num fz _ f1 f2).mono ?_
      rintro e w2 ⟨rfl, hb2⟩
      rw [← HWD.out]
      have HO2 := Lib.hid (owns_below HO.out hb2)
      have HB2 := Lib.hid (below_trans HB.out hb2 HB.out.size)
      clear hb2
      obtain ⟨v', w', hrun, ho', hg', hb'⟩ := append_sl textElem (w2.alloc (.cells #[.string ⟨(wholeB z).toArray⟩] 9)) w.heap.size 27 _ _ _ (HO2.out.alloc _) _ 1 [.string ⟨(wholeB z).toArray⟩] (sl_one w2 (.string ⟨(wholeB z).toArray⟩) _) (fun u hu => by simp at hu; subst hu; rfl) (by unfold maxLen; omega) (by omega) (by have := HB2.out.size; simp; omega)
      have HO3 := Lib.hid ho'
      have HB3 := Lib.hid ((HB2.out.alloc HB2.out.size _).grown hg' (by have := HB2.out.size; simp; omega) (fun g hg => (own_block_ge HO2.out g hg).1))
      clear ho' hg' hb'
      go_wp2_with (at_builtin; refine wpList_append_run rfl _ _ _ rfl _ _ _ _ rfl rfl hrun ?_)
      go_roundw
      case rel => exact ⟨k + 1, by go_num, by omega, by rw [HST.out]; exact HO3.out, HB3.out⟩
      case measure => simp [intOf]; omega
    · obtain rfl : k = zs.length := by omega
      have hfin : (zs.take zs.length).map wholeB = zs.map wholeB := by rw [List.take_length]
      have hrow := Row.of_owns HO.out
      rw [hfin] at hrow
      have hl := numsB_len zs HZ.out
      have HJ := Lib.hid (join_row u3 (zs.map wholeB) wr hrow (by simpa using h0) (by rw [List.length_map]; omega) (by show (numsB zs).length ≤ _; omega))
      have HN : Hid ((zs.map wholeB).flatten = numsB zs) := Lib.hid rfl
      clear hfin hrow hl
      go_wp2_with fail
      refine HJ.out.mono ?_
      rintro e w2 ⟨rfl, hb2⟩
      rw [HN.out]
      have HB2 := Lib.hid (below_trans HB.out hb2 HB.out.size)
      clear hb2
      go_wp2_with fail
      go_ret
      exact ⟨rfl, HB2.out⟩
end Go.Proofs.Ytpojhcpkmpbflaa
