/- ref18.Hear. -/
import Derived.Test.YtpdedjbkfcaebaaCliN5
set_option linter.unusedVariables false
set_option linter.unusedSimpArgs false
namespace Go.Proofs.Ytpdedjbkfcaebaa
open Go.RowKit Copyhold
theorem say_kind {x : Cli} (h : (sayD x).2 = true) : (x.phase = 0 ∧ (sayD x).1.kind = 1) ∨ (x.phase = 1 ∧ (sayD x).1.kind = 2 ∧ (sayD x).1.n = x.n + 1) ∨ (x.phase = 2 ∧ (sayD x).1.kind = 3) ∨ (x.phase = 3 ∧ (sayD x).1.kind = 6) := by
  revert h; unfold sayD
  repeat' split
  all_goals simp_all
end Go.Proofs.Ytpdedjbkfcaebaa
