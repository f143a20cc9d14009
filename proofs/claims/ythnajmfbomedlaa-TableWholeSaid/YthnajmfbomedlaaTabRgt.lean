/- table.rightRow: it answers as the document says; old memory is as it was. -/
import Derived.Test.YthnajmfbomedlaaTabRight
set_option linter.unusedVariables false
set_option linter.unusedSimpArgs false
namespace Go.Proofs.Ythnajmfbomedlaa
open Go.RowKit Copyhold

def upB : Int → List (Int × Bool) → Bool
  | _, [] => true
  | m, d :: l => decide (m < d.1) && upB d.1 l
def rowB (r : TRow) : Bool := decide (1 ≤ r.epoch) && (decide (0 ≤ r.done) && (decide (r.l.length ≤ 256) && upB r.done r.l))
def allB : Int → List TRow → Bool
  | _, [] => true
  | m, r :: rs => decide (m < r.client) && (rowB r && allB r.client rs)
theorem upB_iff : ∀ (l : List (Int × Bool)) (m : Int), upB m l = true ↔ (∀ d ∈ l, m < d.1) ∧ SrtD l
  | [], m => by simp [upB, SrtD]
  | d :: l, m => by
    rw [upB, Bool.and_eq_true, decide_eq_true_iff, upB_iff l d.1]
    unfold SrtD
    rw [List.pairwise_cons]
    constructor
    · rintro ⟨h1, h2, h3⟩
      refine ⟨fun q hq => ?_, h2, h3⟩
      rcases List.mem_cons.1 hq with rfl | hq
      · exact h1
      · have := h2 q hq; omega
    · rintro ⟨h1, h2, h3⟩
      exact ⟨h1 d List.mem_cons_self, h2, h3⟩
theorem allB_iff : ∀ (rs : List TRow) (m : Int), allB m rs = true ↔ (∀ r ∈ rs, m < r.client) ∧ SrtC rs ∧ ∀ r ∈ rs, rowB r = true
  | [], m => by simp [allB, SrtC]
  | r :: rs, m => by
    rw [allB, Bool.and_eq_true, Bool.and_eq_true, decide_eq_true_iff, allB_iff rs r.client]
    unfold SrtC
    rw [List.pairwise_cons]
    constructor
    · rintro ⟨h1, h0, h2, h3, h4⟩
      refine ⟨fun q hq => ?_, ⟨h2, h3⟩, fun q hq => ?_⟩
      · rcases List.mem_cons.1 hq with rfl | hq
        · exact h1
        · have := h2 q hq; omega
      · rcases List.mem_cons.1 hq with rfl | hq
        · exact h0
        · exact h4 q hq
    · rintro ⟨h1, ⟨h2, h3⟩, h4⟩
      exact ⟨h1 r List.mem_cons_self, h4 r List.mem_cons_self, h2, h3, fun q hq => h4 q (List.mem_cons_of_mem _ hq)⟩
theorem good_b (rs : List TRow) : goodB rs = (decide (rs.length ≤ 64) && allB (-1) rs) := by
  have key : Good rs ↔ (decide (rs.length ≤ 64) && allB (-1) rs) = true := by
    rw [Bool.and_eq_true, decide_eq_true_iff, allB_iff]
    unfold Good
    have hrow : ∀ r : TRow, GoodR r ↔ -1 < r.client ∧ rowB r = true := fun r => by
      unfold GoodR rowB
      simp only [Bool.and_eq_true, decide_eq_true_iff, upB_iff]
      constructor
      · rintro ⟨a1, a2, a3, a4, a5, a6⟩
        exact ⟨by omega, a2, a3, a4, a6, a5⟩
      · rintro ⟨a1, a2, a3, a4, a6, a5⟩
        exact ⟨by omega, a2, a3, a4, a5, a6⟩
    constructor
    · rintro ⟨h1, h2, h3⟩
      exact ⟨h1, fun r hr => ((hrow r).1 (h3 r hr)).1, h2, fun r hr => ((hrow r).1 (h3 r hr)).2⟩
    · rintro ⟨h1, h4, h2, h3⟩
      exact ⟨h1, h2, fun r hr => (hrow r).2 ⟨h4 r hr, h3 r hr⟩⟩
  by_cases h : Good rs
  · rw [goodB_true h, key.1 h]
  · rw [goodB_false h]
    cases hb : (decide (rs.length ≤ 64) && allB (-1) rs) with
    | false => rfl
    | true => exact absurd (key.2 hb) h

set_option maxRecDepth 100000 in
set_option maxHeartbeats 8000000 in
theorem table_rightRow (r : TRow) (A : Option Addr) (c : Nat) (w : World) (hsl : SlOf DecR w 2 (.slice A r.l.length c) r.l) (hll : r.l.length ≤ 100000) (hok : i64ok r.epoch ∧ i64ok r.done) :
    Calls Try.prog 26 #[.agg #[.int .i64 r.client, .int .i64 r.epoch, .int .i64 r.done, .slice A r.l.length c]] w fun e w' => e = .returned (.bool (rowB r)) ∧ Below w.heap.size w w' := by
  obtain ⟨cl, ep, dn, l⟩ := r
  obtain ⟨⟨e1, e2⟩, d1, d2⟩ := hok
  simp only at hsl hll e1 e2 d1 d2 ⊢
  obtain ⟨W1, hW1⟩ : ∃ W1, W1 = w.alloc (.cells #[.int .i64 cl, .int .i64 ep, .int .i64 dn, .slice A l.length c] 63) := ⟨_, rfl⟩
  have HB1 := Lib.hid (show Below w.heap.size w W1 from by rw [hW1]; exact (Below.refl _ _).alloc (Nat.le_refl _) _)
  have HW1 := Lib.hid hW1
  have HSL := Lib.hid hsl
  clear hsl hW1
  rcases (show ep < 1 ∨ ¬ ep < 1 ∧ dn < 0 ∨ ¬ ep < 1 ∧ ¬ dn < 0 ∧ 256 < l.length ∨ ¬ ep < 1 ∧ ¬ dn < 0 ∧ ¬ 256 < l.length from by omega) with q | ⟨q, q1⟩ | ⟨q, q1, q2⟩ | ⟨q, q1, q2⟩
  · have hF : rowB ⟨cl, ep, dn, l⟩ = false := by simp [rowB]; omega
    rw [hF]
    clear hF HSL
    go_enter Try.func26, Try.ntmps26
    go_wp2_with fail
    rw [← HW1.out]
    go_ret
    exact ⟨rfl, HB1.out⟩
  · have hF : rowB ⟨cl, ep, dn, l⟩ = false := by simp [rowB]; omega
    rw [hF]
    clear hF HSL
    go_enter Try.func26, Try.ntmps26
    go_wp2_with fail
    rw [← HW1.out]
    go_ret
    exact ⟨rfl, HB1.out⟩
  · have hF : rowB ⟨cl, ep, dn, l⟩ = false := by simp [rowB]; omega
    have q2' : (256 : Int) < (l.length : Int) := by omega
    rw [hF]
    clear hF HSL
    go_enter Try.func26, Try.ntmps26
    go_wp2_with fail
    rw [← HW1.out]
    go_ret
    exact ⟨rfl, HB1.out⟩
  · have hF : rowB ⟨cl, ep, dn, l⟩ = upB dn l := by
      have h1 : decide (1 ≤ ep) = true := decide_eq_true_iff.2 (by omega)
      have h2 : decide (0 ≤ dn) = true := decide_eq_true_iff.2 (by omega)
      have h3 : decide (l.length ≤ 256) = true := decide_eq_true_iff.2 (by omega)
      unfold rowB
      simp only [h1, h2, h3, Bool.true_and]
    have q2' : (l.length : Int) ≤ 256 := by omega
    rw [hF]
    clear hF
    go_enter Try.func26, Try.ntmps26
    go_wp2_with fail
    rw [← HW1.out]
    go_loopw [3, 25] (fun sm si wr => ∃ (k : Nat) (m : Int), si = .int .i64 k ∧ sm = .int .i64 m ∧ k ≤ l.length ∧ -9223372036854775808 ≤ m ∧ m ≤ 9223372036854775807 ∧ upB dn l = upB m (l.drop k) ∧ Below w.heap.size w wr) (fun _ si _ => l.length - (intOf si).toNat)
    case atStart => exact ⟨0, dn, rfl, rfl, Nat.zero_le _, d1, d2, rfl, HB1.out⟩
    case round =>
      obtain ⟨k, m, rfl, rfl, hk, m1, m2, hup, hb⟩ := hrel
      have HU := Lib.hid (And.intro hup hb)
      have hbs := hb.size
      clear hup hb
      by_cases hkl : k < l.length
      · obtain ⟨b, off, rfl, hbk, k0, k1, o1, o2⟩ := decs_at (HSL.out.below HU.out.2) k hkl
        have hki : (k : Int) < (l.length : Int) := by omega
        have hst : upB m (l.drop k) = (decide (m < l[k].1) && upB l[k].1 (l.drop (k + 1))) := by
          rw [List.drop_eq_getElem_cons hkl, upB]
        generalize l[k] = d at *
        obtain ⟨x, y⟩ := d
        simp only at k0 k1 o1 o2 hst
        obtain ⟨W3, hW3⟩ : ∃ W3, W3 = wr.alloc (.cells #[.int .i64 x, .bool y] 65) := ⟨_, rfl⟩
        have HB3 := Lib.hid (show Below w.heap.size w W3 from by rw [hW3]; exact HU.out.2.alloc hbs _)
        have HW3 := Lib.hid hW3
        clear hW3
        by_cases hx : x ≤ m
        · have hF : upB dn l = false := by rw [HU.out.1, hst, decide_eq_false (by omega), Bool.false_and]
          have HF := Lib.hid hF
          clear hF hst
          go_wp2_with fail
          rw [← HW3.out]
          go_ret
          exact ⟨by rw [HF.out]; rfl, HB3.out⟩
        · have HN := Lib.hid (show upB dn l = upB x (l.drop (k + 1)) from by rw [HU.out.1, hst, decide_eq_true (by omega), Bool.true_and])
          clear hst
          go_wp2_with fail
          rw [← HW3.out]
          go_roundw
          case rel => exact ⟨k + 1, x, by go_num, rfl, by omega, o1, o2, HN.out, HB3.out⟩
          case measure => simp [intOf]; omega
      · have hF : upB dn l = true := by rw [HU.out.1, List.drop_eq_nil_of_le (by omega)]; rfl
        have HF := Lib.hid hF
        clear hF
        go_wp2_with fail
        go_ret
        exact ⟨by rw [HF.out]; rfl, HU.out.2⟩
end Go.Proofs.Ythnajmfbomedlaa
