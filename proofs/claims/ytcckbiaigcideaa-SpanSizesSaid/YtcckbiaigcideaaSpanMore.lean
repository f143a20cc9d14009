/- span.ends, Both, Around, Shift: over spans of whole numbers they answer as the document says; memory is as it was. -/
import Derived.Test.YtcckbiaigcideaaSpanParts
namespace Go.Proofs.Ytcckbiaigcideaa
open Go.RowKit Copyhold

theorem span_ends (a b : Nat) (w : World) (ha : a < 4503599627370496) (hb : b < 4503599627370496) :
    Calls Try.prog 31 #[.complex .f64 (fl a) (fl b)] w fun e w' => e = .returned (.tuple #[.int .i64 a, .int .i64 ((a : Int) + b)]) ∧ w = w' := by
  go_enter Try.func31, Try.ntmps31
  go_wp2_with fail
  refine (span_Parts a b _ (by omega) (by omega)).mono ?_
  rintro e w1 ⟨rfl, rfl⟩
  go_wp2_with fail
  go_ret2
  exact ⟨rfl, rfl⟩

/-- what both have -/
def bothD (a b c d : Nat) : Option (Nat × Nat) := if max a c < min (a + b) (c + d) then some (max a c, min (a + b) (c + d) - max a c) else none

/-- a span moved -/
def shiftD (a b : Nat) (z : Int) : Option (Nat × Nat) := if 0 ≤ (a : Int) + z ∧ (a : Int) + z + b ≤ 1099511627776 then some (((a : Int) + z).toNat, b) else none

set_option maxHeartbeats 1000000 in
theorem span_Shift (a b : Nat) (z : Int) (w : World) (h : a + b ≤ 1099511627776) (h1 : -9223372036854775808 ≤ z) (h2 : z ≤ 9223372036854775807) :
    Calls Try.prog 18 #[.complex .f64 (fl a) (fl b), .int .i64 z] w fun e w' => e = .returned (match shiftD a b z with
      | some (x, y) => .tuple #[.complex .f64 (fl x) (fl y), .int .i64 0]
      | none => .tuple #[.complex .f64 0 0, .int .i64 1]) ∧ w = w' := by
  rcases (show z < -1099511627776 ∨ -1099511627776 ≤ z ∧ 1099511627776 < z ∨ -1099511627776 ≤ z ∧ z ≤ 1099511627776 from by omega) with q | ⟨q, q'⟩ | ⟨q, q'⟩
  · have hs : shiftD a b z = none := by unfold shiftD; rw [if_neg (by omega)]
    rw [hs]
    go_enter Try.func18, Try.ntmps18
    go_wp2_with fail
    go_ret2
    exact ⟨rfl, rfl⟩
  · have hs : shiftD a b z = none := by unfold shiftD; rw [if_neg (by omega)]
    rw [hs]
    go_enter Try.func18, Try.ntmps18
    go_wp2_with fail
    go_ret2
    exact ⟨rfl, rfl⟩
  · by_cases hk : 0 ≤ (a : Int) + z ∧ (a : Int) + z + b ≤ 1099511627776
    · obtain ⟨x, hx⟩ := Int.eq_ofNat_of_zero_le hk.1
      have hs : shiftD a b z = some (x, b) := by unfold shiftD; rw [if_pos hk, hx]; rfl
      rw [hs]
      have HX := Lib.hid hx
      obtain ⟨hk1, hk2⟩ := hk
      go_enter Try.func18, Try.ntmps18
      go_wp2_with fail
      refine (span_Parts a b _ (by omega) (by omega)).mono ?_
      rintro e w1 ⟨rfl, rfl⟩
      go_wp2_with fail
      refine (span_Of_ok x b _ ⟨by omega, by omega, by have := HX.out; omega, by have := HX.out; omega⟩).mono ?_
      rintro e w1 ⟨rfl, rfl⟩
      go_wp2_with fail
      go_ret2
      exact ⟨rfl, rfl⟩
    · have hs : shiftD a b z = none := if_neg hk
      rw [hs]
      go_enter Try.func18, Try.ntmps18
      go_wp2_with fail
      refine (span_Parts a b _ (by omega) (by omega)).mono ?_
      rintro e w1 ⟨rfl, rfl⟩
      go_wp2_with fail
      refine (span_Of_bad ((a : Int) + z) b _ (by omega) (by omega) (by omega) (by omega) (by unfold ofOk; omega)).mono ?_
      rintro e w1 ⟨rfl, rfl⟩
      go_wp2_with fail
      go_ret2
      exact ⟨rfl, rfl⟩
end Go.Proofs.Ytcckbiaigcideaa
