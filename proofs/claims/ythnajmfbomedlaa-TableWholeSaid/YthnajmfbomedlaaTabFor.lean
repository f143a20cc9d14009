/- table.Forget's function: what a row is, forgotten up to a number; old memory is as it was. -/
import Derived.Test.YthnajmfbomedlaaTabDec
set_option linter.unusedVariables false
set_option linter.unusedSimpArgs false
namespace Go.Proofs.Ythnajmfbomedlaa
open Go.RowKit Copyhold

def decC (d : Int × Bool) : List Value := [.int .i64 d.1, .bool d.2]

theorem decs_ok {w : World} {k : Nat} {v : Value} {l : List (Int × Bool)} (h : SlOf DecR w k v l) : ∀ d ∈ l, i64ok d.1 := by
  obtain ⟨css, _, h2, h3⟩ := h
  intro d hd
  obtain ⟨i, hi, rfl⟩ := List.mem_iff_getElem.1 hd
  exact (h3 i _ _ (List.getElem?_eq_getElem (by omega)) (List.getElem?_eq_getElem hi)).2.2
theorem decs_fit (l : List (Int × Bool)) (h : ∀ d ∈ l, i64ok d.1) : Fit DecR 2 (l.map decC) l := by
  refine ⟨by simp, fun i cs a hc ha => ?_⟩
  rw [List.getElem?_map, ha] at hc
  simp only [Option.map_some, Option.some.injEq] at hc
  subst hc
  exact ⟨rfl, rfl, h a (List.mem_of_getElem? ha)⟩

theorem app_dec {w3 : World} {base n : Nat} {sv : Value} {xs : List Value} (d : Int × Bool) (ho : w3.ownsRow base 65 2 sv n xs) (hn : n ≤ 1000000) (hbase : base ≤ w3.heap.size) :
    ∃ v' w4, (Builtin.append_ #[61, 61] 61 #[sv, .slice (some ⟨w3.heap.size, 0, none⟩) 1 1]).run Try.prog (w3.alloc (.cells #[.int .i64 d.1, .bool d.2] 65)) = .ok v' w4 ∧ w4.ownsRow base 65 2 v' (n + 1) (xs ++ decC d) ∧
      (∀ b, b < base → w4.heap[b]? = w3.heap[b]?) ∧ w3.heap.size ≤ w4.heap.size ∧ (∀ (B : Nat) (a : World), Below B a w3 → B ≤ base → Below B a w4) := by
  have hsl : Sl (w3.alloc (.cells #[.int .i64 d.1, .bool d.2] 65)) 2 (.slice (some ⟨w3.heap.size, 0, none⟩) 1 1) 1 (decC d) := sl_one (w := w3) (t := 65) (decC d)
  obtain ⟨v', w4, hrun, h1, h2, _⟩ := append_sl decElem _ base 61 sv n _ (ho.alloc _) _ 1 _ hsl (fun u hu => by simp [decC] at hu; rcases hu with rfl | rfl <;> rfl) (by unfold maxLen; omega) (by omega) (by simp; omega)
  refine ⟨v', w4, hrun, h1, fun b hb => ?_, ?_, fun B a hb hB => ?_⟩
  · rw [h2.block b (by simp; omega) (fun e => by have := (own_block_ge ho b e.symm).1; omega)]
    exact heap_alloc_old _ _ (by omega)
  · have := h2.size
    simp at this
    omega
  · exact (hb.alloc (Nat.le_trans hB hbase) _).grown h2 (by simp; omega) (fun g hg => Nat.le_trans hB (own_block_ge ho g hg).1)

/-- the decisions above a number, of the first k -/
def aboveK (l : List (Int × Bool)) (M : Int) (k : Nat) : List (Int × Bool) := (l.take k).filter (fun d => decide (M < d.1))
def above (l : List (Int × Bool)) (M : Int) : List (Int × Bool) := l.filter (fun d => decide (M < d.1))
theorem aboveK_step (l : List (Int × Bool)) (M : Int) (k : Nat) (h : k < l.length) : aboveK l M (k + 1) = if M < l[k].1 then aboveK l M k ++ [l[k]] else aboveK l M k := by
  unfold aboveK
  rw [List.take_succ_eq_append_getElem h, List.filter_append]
  by_cases hd : M < l[k].1 <;> simp [hd]
theorem aboveK_le (l : List (Int × Bool)) (M : Int) (k : Nat) : (aboveK l M k).length ≤ l.length := by
  unfold aboveK
  exact Nat.le_trans (List.length_filter_le _ _) (by rw [List.length_take]; omega)

set_option maxRecDepth 100000 in
set_option maxHeartbeats 8000000 in
theorem forget_up (r : TRow) (A : Option Addr) (c : Nat) (dn M : Int) (p7 : Nat) (w : World) (hsl : SlOf DecR w 2 (.slice A r.l.length c) r.l) (hll : r.l.length ≤ 100000)
    (h7 : w.cell? ⟨p7, 0, none⟩ = some (.int .i64 dn)) (s1 : -9223372036854775808 ≤ dn) (s2 : dn ≤ 9223372036854775807) (d1 : -9223372036854775808 ≤ r.done) (d2 : r.done ≤ 9223372036854775807) (hM : M = max r.done dn) :
    Calls Try.prog 36 #[.agg #[.int .i64 r.client, .int .i64 r.epoch, .int .i64 r.done, .slice A r.l.length c], .pointer (some ⟨p7, 0, none⟩)] w (RowIs w ⟨r.client, r.epoch, M, above r.l M⟩) := by
  obtain ⟨cl, ep, dd, l⟩ := r
  simp only at hsl hll d1 d2 hM ⊢
  have m1 : -9223372036854775808 ≤ M := by omega
  have m2 : M ≤ 9223372036854775807 := by omega
  obtain ⟨W2, hW2⟩ : ∃ W2, W2 = (w.alloc (.cells #[.int .i64 cl, .int .i64 ep, .int .i64 M, .slice A l.length c] 63)).alloc (.cells #[.int .i64 0, .int .i64 0, .int .i64 0, .slice none 0 0] 63) := ⟨_, rfl⟩
  have hb0 : Below w.heap.size w (w.alloc (.cells #[.int .i64 cl, .int .i64 ep, .int .i64 M, .slice A l.length c] 63)) := (Below.refl _ _).alloc (Nat.le_refl _) _
  have HB2 := Lib.hid (show Below w.heap.size w W2 from by rw [hW2]; exact hb0.alloc (by simp) _)
  have HT2 := Lib.hid (show TBox W2 w.heap.size 63 #[.int .i64 cl, .int .i64 ep, .int .i64 M, .slice A l.length c] from by
    rw [hW2]
    exact (TBox.new _ _ _).below ((Below.refl _ _).alloc (Nat.le_refl _) _))
  have HG2 := Lib.hid (show TBox W2 (w.heap.size + 1) 63 #[.int .i64 0, .int .i64 0, .int .i64 0, .slice none 0 0] from by
    rw [hW2]
    have h := TBox.new (w.alloc (.cells #[.int .i64 cl, .int .i64 ep, .int .i64 M, .slice A l.length c] 63)) 63 #[.int .i64 0, .int .i64 0, .int .i64 0, .slice none 0 0]
    rw [show (w.alloc (.cells #[.int .i64 cl, .int .i64 ep, .int .i64 M, .slice A l.length c] 63)).heap.size = w.heap.size + 1 from by simp] at h
    exact h)
  have HSL := Lib.hid hsl
  have HOK := Lib.hid (decs_ok hsl)
  have hp7 := cell_lt h7
  have HW2 := Lib.hid hW2
  have HM := Lib.hid hM
  have hmx : max dd dn = M := hM.symm
  clear hsl hb0 hW2 hM
  have hcases : (dd < M ∧ M = dn) ∨ (M = dd ∧ M = dn) ∨ (M = dd ∧ dn < M) := by omega
  clear hmx
  rcases hcases with ⟨hlt, rfl⟩ | ⟨rfl, rfl⟩ | ⟨rfl, hlt⟩
  all_goals
    go_enter Try.func36, Try.ntmps36
    go_wp2_with fail
    rw [← HW2.out]
    clear h7
    go_loopw [4, 15] (fun sl si wr => ∃ k : Nat, si = .int .i64 k ∧ k ≤ l.length ∧ wr.ownsRow (w.heap.size + 2) 65 2 sl (aboveK l M k).length ((aboveK l M k).flatMap decC) ∧ TBox wr w.heap.size 63 #[.int .i64 cl, .int .i64 ep, .int .i64 M, .slice A l.length c] ∧ TBox wr (w.heap.size + 1) 63 #[.int .i64 0, .int .i64 0, .int .i64 0, .slice none 0 0] ∧ Below w.heap.size w wr) (fun _ si _ => l.length - (intOf si).toNat)
    case atStart => exact ⟨0, rfl, Nat.zero_le _, World.ownsRow_nil _ _ _ _, HT2.out, HG2.out, HB2.out⟩
    case round =>
      obtain ⟨k, rfl, hk, hown, ht, hg, hb⟩ := hrel
      have HX := Lib.hid (And.intro hown (And.intro ht (And.intro hg hb)))
      have p2 : wr.cell? ⟨w.heap.size, 2, none⟩ = some (.int .i64 M) := ht.cell 2
      have hsw : w.heap.size + 1 < wr.heap.size := hg.lt
      have hsw0 : w.heap.size < wr.heap.size := by omega
      clear hown ht hg hb
      by_cases hkl : k < l.length
      · obtain ⟨b, off, cs, rfl, hbk, hcl, ⟨hcs, hz⟩, hcc⟩ := SlOf.at (HSL.out.below HX.out.2.2.2) k (List.getElem?_eq_getElem hkl)
        subst hcs
        have k0 : wr.cell? ⟨b, off + k * 2, none⟩ = some (.int .i64 l[k].1) := hcc 0 _ rfl
        have k1 : wr.cell? ⟨b, off + k * 2 + 1, none⟩ = some (.bool l[k].2) := by have := hcc 1 _ rfl; rwa [← Nat.add_assoc] at this
        have hst := aboveK_step l M k hkl
        have hle := aboveK_le l M k
        obtain ⟨z1, z2⟩ := hz
        generalize l[k] = d at *
        obtain ⟨d0, db⟩ := d
        simp only at k0 k1 hst z1 z2
        obtain ⟨w3, hw3⟩ : ∃ w3, w3 = wr.alloc (.cells #[.int .i64 d0, .bool db] 65) := ⟨_, rfl⟩
        have hs3 : w3.heap.size = wr.heap.size + 1 := by rw [hw3]; simp
        have b3 : Below wr.heap.size wr w3 := by rw [hw3]; exact (Below.refl _ _).alloc (Nat.le_refl _) _
        by_cases hd : M < d0
        · rw [if_pos hd] at hst
          obtain ⟨v', w4, hrun, ho4, hk4, hs4, hb4⟩ := app_dec (w3 := w3) (base := w.heap.size + 2) (d0, db) (by rw [hw3]; exact HX.out.1.alloc _) (by omega) (by omega)
          have t4 : TBox w4 w.heap.size 63 #[.int .i64 cl, .int .i64 ep, .int .i64 M, .slice (some ⟨b, off, none⟩) l.length c] := by
            have := HX.out.2.1.below b3
            unfold TBox at this ⊢
            rw [hk4 _ (by omega)]
            exact this
          have g4 : TBox w4 (w.heap.size + 1) 63 #[.int .i64 0, .int .i64 0, .int .i64 0, .slice none 0 0] := by
            have := HX.out.2.2.1.below b3
            unfold TBox at this ⊢
            rw [hk4 _ (by omega)]
            exact this
          have HY := Lib.hid (And.intro ho4 (And.intro t4 (And.intro g4 (hb4 _ _ (below_trans HX.out.2.2.2 b3 HX.out.2.2.2.size) (by omega)))))
          have HST := Lib.hid hst
          simp only [hs3] at hrun
          rw [hw3] at hrun
          clear hst hw3 hs3 b3 ho4 t4 g4 hb4 hk4 hcc hcl
          go_wp2_with (at_builtin; refine wpList_append_run rfl _ _ _ rfl _ _ _ _ rfl rfl hrun ?_)
          go_roundw
          case rel => exact ⟨k + 1, by go_num, by omega, by rw [HST.out, List.length_append, List.flatMap_append]; simpa using HY.out.1, HY.out.2.1, HY.out.2.2.1, HY.out.2.2.2⟩
          case measure => simp [intOf]; omega
        · rw [if_neg hd] at hst
          have HST := Lib.hid hst
          have HY := Lib.hid (And.intro (HX.out.1.alloc (.cells #[.int .i64 d0, .bool db] 65)) (And.intro (HX.out.2.1.below b3) (And.intro (HX.out.2.2.1.below b3) (below_trans HX.out.2.2.2 b3 HX.out.2.2.2.size))))
          have hd' : d0 ≤ M := by omega
          rw [hw3] at HY
          clear hst hw3 hs3 b3 hcc hcl
          go_wp2_with fail
          go_roundw
          case rel => exact ⟨k + 1, by go_num, by omega, by rw [HST.out]; exact HY.out.1, HY.out.2.1, HY.out.2.2.1, HY.out.2.2.2⟩
          case measure => simp [intOf]; omega
      · have hfin : aboveK l M k = above l M := by unfold aboveK above; rw [List.take_of_length_le (by omega)]
        have hown := HX.out.1
        rw [hfin] at hown
        obtain ⟨A5, c5, he5, -, -⟩ := (Sl.of_owns hown).shape
        have HO5 := Lib.hid (And.intro (Sl.of_owns hown) (At.of_owns hown))
        rw [he5] at HO5
        subst he5
        have f3 : wr.frozen? ⟨w.heap.size, 3, none⟩ = false := HX.out.2.1.free 3
        have q0 : wr.cell? ⟨w.heap.size, 0, none⟩ = some (.int .i64 cl) := HX.out.2.1.cell 0
        have q1 : wr.cell? ⟨w.heap.size, 1, none⟩ = some (.int .i64 ep) := HX.out.2.1.cell 1
        have q3 : wr.cell? ⟨w.heap.size, 3, none⟩ = some (.slice A l.length c) := HX.out.2.1.cell 3
        have g0 : wr.cell? ⟨w.heap.size + 1, 0, none⟩ = some (.int .i64 0) := HX.out.2.2.1.cell 0
        have g1 : wr.cell? ⟨w.heap.size + 1, 1, none⟩ = some (.int .i64 0) := HX.out.2.2.1.cell 1
        have g2 : wr.cell? ⟨w.heap.size + 1, 2, none⟩ = some (.int .i64 0) := HX.out.2.2.1.cell 2
        have g3 : wr.cell? ⟨w.heap.size + 1, 3, none⟩ = some (.slice none 0 0) := HX.out.2.2.1.cell 3
        have k0 := HX.out.2.2.1.free 0
        have k1 := HX.out.2.2.1.free 1
        have k2 := HX.out.2.2.1.free 2
        have k3 := HX.out.2.2.1.free 3
        have HLL := Lib.hid (show above l M = above l M from rfl)
        clear hfin hown
        generalize hab : above l M = ab at *
        have HAB := Lib.hid hab
        clear hab
        go_wp2_with fail
        refine bodyPost_ret (v := .agg #[.int .i64 cl, .int .i64 ep, .int .i64 M, .slice A5 ab.length c5]) (by simp [results, Try.results36, go_sem, g0, g1, g2, g3]) rfl ⟨A5, c5, rfl, ?_, ?_⟩
        · refine (decs_fit ab (fun d hd => HOK.out d (by rw [← HAB.out] at hd; unfold above at hd; exact (List.mem_filter.1 hd).1))).slOf ?_
          rw [← List.flatMap_def]
          refine Sl.frame HO5.out.1 HO5.out.2 (fun b hb _ => ?_) (by simp)
          have hb' : w.heap.size + 2 ≤ b := hb
          repeat rw [heap_setCell_far _ _ _ _ (by simp; omega)]
        · exact ((((HX.out.2.2.2.setCell (p := ⟨w.heap.size, 3, none⟩) (Nat.le_refl _) _).setCell (p := ⟨w.heap.size + 1, 0, none⟩) (Nat.le_succ _) _).setCell (p := ⟨w.heap.size + 1, 1, none⟩) (Nat.le_succ _) _).setCell (p := ⟨w.heap.size + 1, 2, none⟩) (Nat.le_succ _) _).setCell (p := ⟨w.heap.size + 1, 3, none⟩) (Nat.le_succ _) _
end Go.Proofs.Ythnajmfbomedlaa
