/- octet.List: for texts of fewer than 2^31 bytes in all it returns their bytes; old memory is as it was. -/
import Derived.Test.YtpojhcpkmpbflaaOctText
namespace Go.Proofs.Ytpojhcpkmpbflaa
open Go.RowKit Copyhold

theorem info_string : (Try.prog.info? 9).map (fun i => (i.zero, i.size, i.bytes)) = some (some (.string ByteArray.empty), 1, 16) := by kernel_rfl

def ListRel (w : World) (ls : List (List UInt8)) (k : Nat) (v : Value) (wr : World) : Prop :=
  wr.ownsRow w.heap.size 9 1 v (k + 1) ((numB ls.length :: (ls.take k).map textB).map strV) ∧ Below w.heap.size w wr

theorem flat_len (ls : List (List UInt8)) (h : (ls.map List.length).sum + ls.length ≤ 2147483648) : (listB ls).length ≤ (ls.map List.length).sum + 10 * ls.length + 10 := by
  have h0 := numB_len10 ls.length (by omega)
  have h1 : ∀ l : List (List UInt8), (l.map List.length).sum ≤ 2147483648 → ((l.map textB).flatten).length ≤ (l.map List.length).sum + 10 * l.length := by
    intro l
    induction l with
    | nil => simp
    | cons x r ih =>
      intro hx
      simp only [List.map_cons, List.sum_cons] at hx
      have := textB_len x (by omega)
      have := ih (by omega)
      simp only [List.map_cons, List.flatten_cons, List.length_append, List.sum_cons, List.length_cons]
      omega
  have := h1 ls (by omega)
  simp only [listB, List.length_append]
  omega

theorem len_le_sum {ls : List (List UInt8)} {x : List UInt8} (h : x ∈ ls) : x.length ≤ (ls.map List.length).sum := by
  induction ls with
  | nil => cases h
  | cons y r ih =>
    simp only [List.map_cons, List.sum_cons]
    rcases List.mem_cons.1 h with rfl | h
    · omega
    · have := ih h; omega

set_option maxHeartbeats 800000 in
theorem octet_List (v : Value) (ls : List (List UInt8)) (w : World) (hv : Row w v (ls.map strV)) (hlen : (ls.map List.length).sum + ls.length ≤ 2147483648) :
    Calls Try.prog 33 #[v] w fun e w' => e = .returned (.string ⟨(listB ls).toArray⟩) ∧ Below w.heap.size w w' := by
  obtain ⟨i0, hi, hz0, hz1, hz2⟩ := info_parts info_string
  obtain ⟨a, c, rfl⟩ := hv.shape
  rw [List.length_map] at hv ⊢
  have hfl := flat_len ls hlen
  have HV := Lib.hid hv; clear hv
  have hll : ls.length ≤ 2147483648 := by omega
  have HL := Lib.hid hlen; clear hlen
  go_enter Try.func33, Try.ntmps33
  go_wp2_with fail
  refine (octet_Num _ _ (by omega) (by omega)).mono ?_
  rintro e w1 ⟨rfl, hb1⟩
  rw [Int.toNat_natCast]
  have hs1 := hb1.size
  go_wp2_with fail
  go_loopw [3, 13] (fun v i wr => ∃ k : Nat, k ≤ ls.length ∧ i = .int .i64 k ∧ ListRel w ls k v wr) (fun _ i _ => ls.length - (intOf i).toNat)
  case atStart => exact ⟨0, Nat.zero_le _, rfl, owns_built #[.string ⟨(numB ls.length).toArray⟩] hs1 (by simp [maxLen]), hb1.alloc hs1 _⟩
  case round =>
    obtain ⟨k, hk, rfl, hown, hb⟩ := hrel
    have hsz := hb.size
    by_cases hlt : k < ls.length
    · obtain ⟨b, off, rfl, hbk, _, hcs⟩ := HV.out.at k (x := strV ls[k]) (by simp [hlt])
      have hc := hcs k (strV ls[k]) (by simp [hlt])
      have hcell : wr.cell? ⟨b, off + k, none⟩ = some (.string ⟨(ls[k]).toArray⟩) := (hb.cell (p := ⟨b, off + k, none⟩) hbk).trans hc
      have hmem : ls[k] ∈ ls := List.getElem_mem hlt
      have hxl := len_le_sum hmem
      have hx2 : (ls[k]).length ≤ 2147483648 := by have := HL.out; omega
      have htk : ((numB ls.length :: (ls.take (k + 1)).map textB).map strV) = ((numB ls.length :: (ls.take k).map textB).map strV) ++ [.string ⟨(textB ls[k]).toArray⟩] := by
        rw [List.take_succ_eq_append_getElem hlt, List.map_append, ← List.cons_append, List.map_append]; rfl
      have HT := Lib.hid htk
      clear hcs hc hmem hxl htk
      generalize ls[k] = x at *
      go_wp2_with fail
      refine (octet_Text x _ (by omega)).mono ?_
      rintro e w2 ⟨rfl, hb2⟩
      have hs2 := hb2.size
      have hown2 := owns_below hown hb2
      go_wp2_with (at_builtin; refine wpList_append_own _ rfl _ _ 27 rfl w.heap.size 9 i0 (.string ByteArray.empty) 1 16 Try.underlying27 hi hz0 hz1 hz2 rfl (by decide) _ _ _ rfl (hown2.alloc _) ⟨w2.heap.size, 0, none⟩ 1 1 [.string ⟨(textB x).toArray⟩] rfl rfl (cell_one_new _ _ _) (fun x hx => by simp at hx; subst hx; rfl) (by unfold maxLen; omega) (by omega) (by simp; omega) ?_; intro v' w3 hown' hgrow3 hnil3; clear hnil3)
      go_roundw
      case rel => exact ⟨k + 1, by omega, by go_num, by rw [ListRel, HT.out]; exact ⟨hown', ((hb.trans (hb2.mono hsz)).alloc (by omega) _).grown hgrow3 (by simp; omega) (fun q hq => (hown.lt q hq).1)⟩⟩
      case measure => simp [intOf]; omega
    · obtain rfl : k = ls.length := by omega
      rw [List.take_length] at hown
      obtain ⟨g, cap, rfl, hgb, hcap, hcells⟩ : ∃ g cap, u3 = .slice (some ⟨g, 0, none⟩) (ls.length + 1) cap ∧ g < wr.heap.size ∧ ls.length + 1 ≤ cap ∧ ∀ (j : Nat) x, (numB ls.length :: ls.map textB)[j]? = some x → wr.cell? ⟨g, 0 + j, none⟩ = some (.string ⟨x.toArray⟩) := by
        rcases Row.of_owns hown with ⟨_, _, _, h⟩ | ⟨g, off, cap, h, _, hc, hbk, hcell⟩
        · simp at h
        · rcases hown.2 with ⟨_, h'⟩ | ⟨g', cap', cur, h', _⟩
          · omega
          · rw [h] at h'
            simp only [Value.slice.injEq, Option.some.injEq, Addr.mk.injEq, and_true] at h'
            obtain ⟨⟨rfl, rfl⟩, _, rfl⟩ := h'
            refine ⟨g, cap, by simpa using h, hbk, by simpa using hc, fun j x hx => hcell j (strV x) ?_⟩
            rw [List.getElem?_map, hx]; rfl
      have HC := Lib.hid hcells
      clear hcells hown
      have hfe : (numB ls.length :: ls.map textB).flatten = listB ls := by simp [listB]
      have HFE := Lib.hid hfe
      clear hfe
      go_wp2_with fail
      have hL := octet_lay g 0 cap (numB ls.length :: ls.map textB) wr HC.out hgb (by simp; omega) (by simpa using hcap) (by rw [HFE.out]; have := HL.out; omega)
      rw [List.length_cons, List.length_map, HFE.out] at hL
      refine hL.mono ?_
      rintro e w2 ⟨rfl, hb2⟩
      go_wp2_with fail
      go_ret
      exact ⟨rfl, hb.trans (hb2.mono hsz)⟩
end Go.Proofs.Ytpojhcpkmpbflaa
