/- span.lay, span.Of: for every two numbers they answer as the document says; memory is as it was. -/
import Derived.Test.YtcckbiaigcideaaRows
import Derived.Test.YtcckbiaigcideaaKit
import Derived.Test.YtcckbiaigcideaaFloat
namespace Go.Proofs.Ytcckbiaigcideaa
open Go.RowKit Copyhold

theorem fl_conv (n : Nat) : floatOfInt .f64 (n : Int) = fl n := rfl

theorem span_lay (a b : Nat) (w : World) :
    Calls Try.prog 29 #[.int .i64 a, .int .i64 b] w fun e w' => e = .returned (.complex .f64 (fl a) (fl b)) ∧ w = w' := by
  have ha := fl_conv a
  have hb := fl_conv b
  go_enter Try.func29, Try.ntmps29
  go_wp2
  go_ret
  exact ⟨rfl, rfl⟩

/-- may these be a span's parts? -/
def ofOk (a b : Int) : Prop := 0 ≤ a ∧ 0 ≤ b ∧ a ≤ 1099511627776 ∧ b ≤ 1099511627776 - a

theorem span_Of_ok (a b : Nat) (w : World) (h : ofOk a b) :
    Calls Try.prog 11 #[.int .i64 a, .int .i64 b] w fun e w' => e = .returned (.tuple #[.complex .f64 (fl a) (fl b), .int .i64 0]) ∧ w = w' := by
  obtain ⟨_, _, h3, h4⟩ := h
  have h1 : (0 : Int) ≤ (a : Int) := by omega
  have h2 : (0 : Int) ≤ (b : Int) := by omega
  go_enter Try.func11, Try.ntmps11
  go_wp2_with (go_at_call 29; refine (span_lay a b _).mono ?_; rintro e w' ⟨rfl, rfl⟩)
  go_ret2
  exact ⟨rfl, rfl⟩

theorem span_Of_bad (a b : Int) (w : World) (ha1 : -9223372036854775808 ≤ a) (ha2 : a ≤ 9223372036854775807) (hb1 : -9223372036854775808 ≤ b) (hb2 : b ≤ 9223372036854775807) (h : ¬ ofOk a b) :
    Calls Try.prog 11 #[.int .i64 a, .int .i64 b] w fun e w' => e = .returned (.tuple #[.complex .f64 0 0, .int .i64 1]) ∧ w = w' := by
  unfold ofOk at h
  rcases (show a < 0 ∨ 0 ≤ a ∧ b < 0 ∨ 0 ≤ a ∧ 0 ≤ b ∧ 1099511627776 < a ∨ 0 ≤ a ∧ 0 ≤ b ∧ a ≤ 1099511627776 ∧ 1099511627776 - a < b from by omega) with h1 | ⟨h1, h2⟩ | ⟨h1, h2, h3⟩ | ⟨h1, h2, h3, h4⟩
  all_goals
    clear h
    go_enter Try.func11, Try.ntmps11
    go_wp2_with fail
    go_ret2
    exact ⟨rfl, rfl⟩
end Go.Proofs.Ytcckbiaigcideaa
