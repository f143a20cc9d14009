/- span.Parts: over spans of whole numbers it answers their parts; memory is as it was. -/
import Derived.Test.YtcckbiaigcideaaSpanOf
namespace Go.Proofs.Ytcckbiaigcideaa
open Go.RowKit Copyhold

theorem span_Parts (a b : Nat) (w : World) (ha : a < 9007199254740992) (hb : b < 9007199254740992) :
    Calls Try.prog 14 #[.complex .f64 (fl a) (fl b)] w fun e w' => e = .returned (.tuple #[.int .i64 a, .int .i64 b]) ∧ w = w' := by
  have h1 := fun W : World => run_convert_float_int (P := Try.prog) W 42 3 .f64 .i64 (fl a) a rfl rfl (fl_int a (by omega))
  have h2 := fun W : World => run_convert_float_int (P := Try.prog) W 42 3 .f64 .i64 (fl b) b rfl rfl (fl_int b (by omega))
  go_enter Try.func14, Try.ntmps14
  go_wp2_with fail
  go_ret2
  exact ⟨rfl, rfl⟩
end Go.Proofs.Ytcckbiaigcideaa
