/- span.Both: over spans of whole numbers it answers as the document says; memory is as it was. -/
import Derived.Test.YtcckbiaigcideaaSpanMore
set_option linter.unusedVariables false
namespace Go.Proofs.Ytcckbiaigcideaa
open Go.RowKit Copyhold

theorem span_lay' (x y : Int) (m n : Nat) (w : World) (hx : x = m) (hy : y = n) :
    Calls Try.prog 29 #[.int .i64 x, .int .i64 y] w fun e w' => e = .returned (.complex .f64 (fl m) (fl n)) ∧ w = w' := by
  subst hx hy
  exact span_lay m n w

/-- what Both answers -/
def BothIs (w : World) (o : Option (Nat × Nat)) (e : Ending) (w' : World) : Prop :=
  w = w' ∧ match o with
    | some (x, y) => e = .returned (.tuple #[.complex .f64 (fl x) (fl y), .bool true])
    | none => e = .returned (.tuple #[.complex .f64 0 0, .bool false])

set_option maxHeartbeats 1000000 in
theorem both_1 (a b c d : Nat) (w : World) (h : a + b ≤ 1099511627776) (h' : c + d ≤ 1099511627776) (p : (c : Int) ≤ a) (q : (a : Int) + b ≤ (c : Int) + d) (r : (a : Int) < (a : Int) + b) :
    Calls Try.prog 16 #[.complex .f64 (fl a) (fl b), .complex .f64 (fl c) (fl d)] w (BothIs w (some (a, b))) := by
  go_enter Try.func16, Try.ntmps16
  go_wp2_with fail
  refine (span_ends a b _ (by omega) (by omega)).mono ?_
  rintro e w1 ⟨rfl, rfl⟩
  go_wp2_with fail
  refine (span_ends c d _ (by omega) (by omega)).mono ?_
  rintro e w1 ⟨rfl, rfl⟩
  go_wp2_with fail
  refine (span_lay' _ _ a b _ rfl (by omega)).mono ?_
  rintro e w1 ⟨rfl, rfl⟩
  go_wp2_with fail
  go_ret2
  exact ⟨rfl, rfl⟩

set_option maxHeartbeats 1000000 in
theorem both_2 (a b c d : Nat) (w : World) (h : a + b ≤ 1099511627776) (h' : c + d ≤ 1099511627776) (p : (c : Int) ≤ a) (q : (a : Int) + b ≤ (c : Int) + d) (r : (a : Int) + b ≤ (a : Int)) :
    Calls Try.prog 16 #[.complex .f64 (fl a) (fl b), .complex .f64 (fl c) (fl d)] w (BothIs w none) := by
  go_enter Try.func16, Try.ntmps16
  go_wp2_with fail
  refine (span_ends a b _ (by omega) (by omega)).mono ?_
  rintro e w1 ⟨rfl, rfl⟩
  go_wp2_with fail
  refine (span_ends c d _ (by omega) (by omega)).mono ?_
  rintro e w1 ⟨rfl, rfl⟩
  go_wp2_with fail
  go_ret2
  exact ⟨rfl, rfl⟩

set_option maxHeartbeats 1000000 in
theorem both_3 (a b c d : Nat) (w : World) (h : a + b ≤ 1099511627776) (h' : c + d ≤ 1099511627776) (p : (c : Int) ≤ a) (q : (c : Int) + d < (a : Int) + b) (r : (a : Int) < (c : Int) + d) :
    Calls Try.prog 16 #[.complex .f64 (fl a) (fl b), .complex .f64 (fl c) (fl d)] w (BothIs w (some (a, c + d - a))) := by
  go_enter Try.func16, Try.ntmps16
  go_wp2_with fail
  refine (span_ends a b _ (by omega) (by omega)).mono ?_
  rintro e w1 ⟨rfl, rfl⟩
  go_wp2_with fail
  refine (span_ends c d _ (by omega) (by omega)).mono ?_
  rintro e w1 ⟨rfl, rfl⟩
  go_wp2_with fail
  refine (span_lay' _ _ a (c + d - a) _ rfl (by omega)).mono ?_
  rintro e w1 ⟨rfl, rfl⟩
  go_wp2_with fail
  go_ret2
  exact ⟨rfl, rfl⟩

set_option maxHeartbeats 1000000 in
theorem both_4 (a b c d : Nat) (w : World) (h : a + b ≤ 1099511627776) (h' : c + d ≤ 1099511627776) (p : (c : Int) ≤ a) (q : (c : Int) + d < (a : Int) + b) (r : (c : Int) + d ≤ (a : Int)) :
    Calls Try.prog 16 #[.complex .f64 (fl a) (fl b), .complex .f64 (fl c) (fl d)] w (BothIs w none) := by
  go_enter Try.func16, Try.ntmps16
  go_wp2_with fail
  refine (span_ends a b _ (by omega) (by omega)).mono ?_
  rintro e w1 ⟨rfl, rfl⟩
  go_wp2_with fail
  refine (span_ends c d _ (by omega) (by omega)).mono ?_
  rintro e w1 ⟨rfl, rfl⟩
  go_wp2_with fail
  go_ret2
  exact ⟨rfl, rfl⟩

set_option maxHeartbeats 1000000 in
theorem both_5 (a b c d : Nat) (w : World) (h : a + b ≤ 1099511627776) (h' : c + d ≤ 1099511627776) (p : (a : Int) < c) (q : (a : Int) + b ≤ (c : Int) + d) (r : (c : Int) < (a : Int) + b) :
    Calls Try.prog 16 #[.complex .f64 (fl a) (fl b), .complex .f64 (fl c) (fl d)] w (BothIs w (some (c, a + b - c))) := by
  go_enter Try.func16, Try.ntmps16
  go_wp2_with fail
  refine (span_ends a b _ (by omega) (by omega)).mono ?_
  rintro e w1 ⟨rfl, rfl⟩
  go_wp2_with fail
  refine (span_ends c d _ (by omega) (by omega)).mono ?_
  rintro e w1 ⟨rfl, rfl⟩
  go_wp2_with fail
  refine (span_lay' _ _ c (a + b - c) _ rfl (by omega)).mono ?_
  rintro e w1 ⟨rfl, rfl⟩
  go_wp2_with fail
  go_ret2
  exact ⟨rfl, rfl⟩

set_option maxHeartbeats 1000000 in
theorem both_6 (a b c d : Nat) (w : World) (h : a + b ≤ 1099511627776) (h' : c + d ≤ 1099511627776) (p : (a : Int) < c) (q : (a : Int) + b ≤ (c : Int) + d) (r : (a : Int) + b ≤ (c : Int)) :
    Calls Try.prog 16 #[.complex .f64 (fl a) (fl b), .complex .f64 (fl c) (fl d)] w (BothIs w none) := by
  go_enter Try.func16, Try.ntmps16
  go_wp2_with fail
  refine (span_ends a b _ (by omega) (by omega)).mono ?_
  rintro e w1 ⟨rfl, rfl⟩
  go_wp2_with fail
  refine (span_ends c d _ (by omega) (by omega)).mono ?_
  rintro e w1 ⟨rfl, rfl⟩
  go_wp2_with fail
  go_ret2
  exact ⟨rfl, rfl⟩

set_option maxHeartbeats 1000000 in
theorem both_7 (a b c d : Nat) (w : World) (h : a + b ≤ 1099511627776) (h' : c + d ≤ 1099511627776) (p : (a : Int) < c) (q : (c : Int) + d < (a : Int) + b) (r : (c : Int) < (c : Int) + d) :
    Calls Try.prog 16 #[.complex .f64 (fl a) (fl b), .complex .f64 (fl c) (fl d)] w (BothIs w (some (c, d))) := by
  go_enter Try.func16, Try.ntmps16
  go_wp2_with fail
  refine (span_ends a b _ (by omega) (by omega)).mono ?_
  rintro e w1 ⟨rfl, rfl⟩
  go_wp2_with fail
  refine (span_ends c d _ (by omega) (by omega)).mono ?_
  rintro e w1 ⟨rfl, rfl⟩
  go_wp2_with fail
  refine (span_lay' _ _ c d _ rfl (by omega)).mono ?_
  rintro e w1 ⟨rfl, rfl⟩
  go_wp2_with fail
  go_ret2
  exact ⟨rfl, rfl⟩

set_option maxHeartbeats 1000000 in
theorem both_8 (a b c d : Nat) (w : World) (h : a + b ≤ 1099511627776) (h' : c + d ≤ 1099511627776) (p : (a : Int) < c) (q : (c : Int) + d < (a : Int) + b) (r : (c : Int) + d ≤ (c : Int)) :
    Calls Try.prog 16 #[.complex .f64 (fl a) (fl b), .complex .f64 (fl c) (fl d)] w (BothIs w none) := by
  go_enter Try.func16, Try.ntmps16
  go_wp2_with fail
  refine (span_ends a b _ (by omega) (by omega)).mono ?_
  rintro e w1 ⟨rfl, rfl⟩
  go_wp2_with fail
  refine (span_ends c d _ (by omega) (by omega)).mono ?_
  rintro e w1 ⟨rfl, rfl⟩
  go_wp2_with fail
  go_ret2
  exact ⟨rfl, rfl⟩

theorem span_Both (a b c d : Nat) (w : World) (h : a + b ≤ 1099511627776) (h' : c + d ≤ 1099511627776) :
    Calls Try.prog 16 #[.complex .f64 (fl a) (fl b), .complex .f64 (fl c) (fl d)] w (BothIs w (bothD a b c d)) := by
  rcases Nat.lt_or_ge a c with p | p <;> rcases Nat.lt_or_ge (c + d) (a + b) with q | q
  · by_cases r : c < c + d
    · have e : bothD a b c d = some (c, d) := by unfold bothD; rw [show max a c = c from by omega, show min (a + b) (c + d) = c + d from by omega, if_pos r, Nat.add_sub_cancel_left]
      rw [e]
      exact both_7 a b c d w h h' (by omega) (by omega) (by omega)
    · have e : bothD a b c d = none := by unfold bothD; rw [if_neg (by omega)]
      rw [e]
      exact both_8 a b c d w h h' (by omega) (by omega) (by omega)
  · by_cases r : c < a + b
    · have e : bothD a b c d = some (c, a + b - c) := by unfold bothD; rw [show max a c = c from by omega, show min (a + b) (c + d) = a + b from by omega, if_pos r]
      rw [e]
      exact both_5 a b c d w h h' (by omega) (by omega) (by omega)
    · have e : bothD a b c d = none := by unfold bothD; rw [if_neg (by omega)]
      rw [e]
      exact both_6 a b c d w h h' (by omega) (by omega) (by omega)
  · by_cases r : a < c + d
    · have e : bothD a b c d = some (a, c + d - a) := by unfold bothD; rw [show max a c = a from by omega, show min (a + b) (c + d) = c + d from by omega, if_pos r]
      rw [e]
      exact both_3 a b c d w h h' (by omega) (by omega) (by omega)
    · have e : bothD a b c d = none := by unfold bothD; rw [if_neg (by omega)]
      rw [e]
      exact both_4 a b c d w h h' (by omega) (by omega) (by omega)
  · by_cases r : a < a + b
    · have e : bothD a b c d = some (a, b) := by unfold bothD; rw [show max a c = a from by omega, show min (a + b) (c + d) = a + b from by omega, if_pos r, Nat.add_sub_cancel_left]
      rw [e]
      exact both_1 a b c d w h h' (by omega) (by omega) (by omega)
    · have e : bothD a b c d = none := by unfold bothD; rw [if_neg (by omega)]
      rw [e]
      exact both_2 a b c d w h h' (by omega) (by omega) (by omega)
end Go.Proofs.Ytcckbiaigcideaa
