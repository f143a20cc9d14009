/- span.Around: over spans of whole numbers it answers as the document says; memory is as it was. -/
import Derived.Test.YtcckbiaigcideaaSpanLaw
set_option linter.unusedVariables false
namespace Go.Proofs.Ytcckbiaigcideaa
open Go.RowKit Copyhold

def aroundD (a b c d : Nat) : Nat × Nat := if d = 0 then (a, b) else if b = 0 then (c, d) else (min a c, max (a + b) (c + d) - min a c)

theorem order_zero (n : Nat) (h : n < 2 ^ 53) (h0 : n ≠ 0) : FloatKind.f64.format.order (fl n) 0 = some .gt := by
  have h1 : FloatKind.f64.format.order (fl n) (fl 0) = some (compare n 0) := fl_order n 0 h (by decide)
  rw [Nat.compare_eq_gt.2 (by omega)] at h1
  exact h1
theorem order_zz : FloatKind.f64.format.order 0 0 = some .eq := by decide +kernel

/-- what Around answers -/
def AroundIs (w : World) (o : Nat × Nat) (e : Ending) (w' : World) : Prop := e = .returned (.complex .f64 (fl o.1) (fl o.2)) ∧ w = w'

theorem around_1 (a b c : Nat) (w : World) (h : a + b ≤ 1099511627776) :
    Calls Try.prog 20 #[.complex .f64 (fl a) (fl b), .complex .f64 (fl c) 0] w (AroundIs w (a, b)) := by
  have hz := order_zz
  go_enter Try.func20, Try.ntmps20
  go_wp2_with fail
  go_ret
  exact ⟨rfl, rfl⟩

theorem around_2 (a c d : Nat) (w : World) (h : c + d ≤ 1099511627776) (hd : d ≠ 0) :
    Calls Try.prog 20 #[.complex .f64 (fl a) 0, .complex .f64 (fl c) (fl d)] w (AroundIs w (c, d)) := by
  have hz := order_zz
  have hz2 := order_zero d (by omega) hd
  go_enter Try.func20, Try.ntmps20
  go_wp2_with fail
  go_ret
  exact ⟨rfl, rfl⟩

set_option maxHeartbeats 1000000 in
theorem around_3 (a b c d : Nat) (w : World) (h : a + b ≤ 1099511627776) (h' : c + d ≤ 1099511627776) (hb : b ≠ 0) (hd : d ≠ 0) (p : (a : Int) ≤ c) (q : (c : Int) + d ≤ (a : Int) + b) :
    Calls Try.prog 20 #[.complex .f64 (fl a) (fl b), .complex .f64 (fl c) (fl d)] w (AroundIs w (a, b)) := by
  have hz := order_zero b (by omega) hb
  have hz2 := order_zero d (by omega) hd
  go_enter Try.func20, Try.ntmps20
  go_wp2_with fail
  refine (span_ends a b _ (by omega) (by omega)).mono ?_
  rintro e w1 ⟨rfl, rfl⟩
  go_wp2_with fail
  refine (span_ends c d _ (by omega) (by omega)).mono ?_
  rintro e w1 ⟨rfl, rfl⟩
  go_wp2_with fail
  refine (span_lay' _ _ a b _ rfl (by omega)).mono ?_
  rintro e w1 ⟨rfl, rfl⟩
  go_wp2_with fail
  go_ret
  exact ⟨rfl, rfl⟩

set_option maxHeartbeats 1000000 in
theorem around_4 (a b c d : Nat) (w : World) (h : a + b ≤ 1099511627776) (h' : c + d ≤ 1099511627776) (hb : b ≠ 0) (hd : d ≠ 0) (p : (a : Int) ≤ c) (q : (a : Int) + b < (c : Int) + d) :
    Calls Try.prog 20 #[.complex .f64 (fl a) (fl b), .complex .f64 (fl c) (fl d)] w (AroundIs w (a, (c + d - a))) := by
  have hz := order_zero b (by omega) hb
  have hz2 := order_zero d (by omega) hd
  go_enter Try.func20, Try.ntmps20
  go_wp2_with fail
  refine (span_ends a b _ (by omega) (by omega)).mono ?_
  rintro e w1 ⟨rfl, rfl⟩
  go_wp2_with fail
  refine (span_ends c d _ (by omega) (by omega)).mono ?_
  rintro e w1 ⟨rfl, rfl⟩
  go_wp2_with fail
  refine (span_lay' _ _ a (c + d - a) _ rfl (by omega)).mono ?_
  rintro e w1 ⟨rfl, rfl⟩
  go_wp2_with fail
  go_ret
  exact ⟨rfl, rfl⟩

set_option maxHeartbeats 1000000 in
theorem around_5 (a b c d : Nat) (w : World) (h : a + b ≤ 1099511627776) (h' : c + d ≤ 1099511627776) (hb : b ≠ 0) (hd : d ≠ 0) (p : (c : Int) < a) (q : (c : Int) + d ≤ (a : Int) + b) :
    Calls Try.prog 20 #[.complex .f64 (fl a) (fl b), .complex .f64 (fl c) (fl d)] w (AroundIs w (c, (a + b - c))) := by
  have hz := order_zero b (by omega) hb
  have hz2 := order_zero d (by omega) hd
  go_enter Try.func20, Try.ntmps20
  go_wp2_with fail
  refine (span_ends a b _ (by omega) (by omega)).mono ?_
  rintro e w1 ⟨rfl, rfl⟩
  go_wp2_with fail
  refine (span_ends c d _ (by omega) (by omega)).mono ?_
  rintro e w1 ⟨rfl, rfl⟩
  go_wp2_with fail
  refine (span_lay' _ _ c (a + b - c) _ rfl (by omega)).mono ?_
  rintro e w1 ⟨rfl, rfl⟩
  go_wp2_with fail
  go_ret
  exact ⟨rfl, rfl⟩

set_option maxHeartbeats 1000000 in
theorem around_6 (a b c d : Nat) (w : World) (h : a + b ≤ 1099511627776) (h' : c + d ≤ 1099511627776) (hb : b ≠ 0) (hd : d ≠ 0) (p : (c : Int) < a) (q : (a : Int) + b < (c : Int) + d) :
    Calls Try.prog 20 #[.complex .f64 (fl a) (fl b), .complex .f64 (fl c) (fl d)] w (AroundIs w (c, d)) := by
  have hz := order_zero b (by omega) hb
  have hz2 := order_zero d (by omega) hd
  go_enter Try.func20, Try.ntmps20
  go_wp2_with fail
  refine (span_ends a b _ (by omega) (by omega)).mono ?_
  rintro e w1 ⟨rfl, rfl⟩
  go_wp2_with fail
  refine (span_ends c d _ (by omega) (by omega)).mono ?_
  rintro e w1 ⟨rfl, rfl⟩
  go_wp2_with fail
  refine (span_lay' _ _ c d _ rfl (by omega)).mono ?_
  rintro e w1 ⟨rfl, rfl⟩
  go_wp2_with fail
  go_ret
  exact ⟨rfl, rfl⟩

theorem span_Around (a b c d : Nat) (w : World) (h : a + b ≤ 1099511627776) (h' : c + d ≤ 1099511627776) :
    Calls Try.prog 20 #[.complex .f64 (fl a) (fl b), .complex .f64 (fl c) (fl d)] w (AroundIs w (aroundD a b c d)) := by
  by_cases hd : d = 0
  · subst hd
    have e : aroundD a b c 0 = (a, b) := if_pos rfl
    rw [e]
    exact around_1 a b c w h
  · by_cases hb : b = 0
    · subst hb
      have e : aroundD a 0 c d = (c, d) := by unfold aroundD; rw [if_neg hd, if_pos rfl]
      rw [e]
      exact around_2 a c d w h' hd
    · have e : aroundD a b c d = (min a c, max (a + b) (c + d) - min a c) := by unfold aroundD; rw [if_neg hd, if_neg hb]
      rw [e]
      rcases Nat.lt_or_ge c a with p | p <;> rcases Nat.lt_or_ge (a + b) (c + d) with q | q
      · rw [show min a c = c from by omega, show max (a + b) (c + d) = c + d from by omega, show c + d - c = d from by omega]
        exact around_6 a b c d w h h' hb hd (by omega) (by omega)
      · rw [show min a c = c from by omega, show max (a + b) (c + d) = a + b from by omega]
        exact around_5 a b c d w h h' hb hd (by omega) (by omega)
      · rw [show min a c = a from by omega, show max (a + b) (c + d) = c + d from by omega]
        exact around_4 a b c d w h h' hb hd (by omega) (by omega)
      · rw [show min a c = a from by omega, show max (a + b) (c + d) = a + b from by omega, show a + b - a = b from by omega]
        exact around_3 a b c d w h h' hb hd (by omega) (by omega)
end Go.Proofs.Ytcckbiaigcideaa
