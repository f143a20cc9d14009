/- Rows of replies: copyholdref11.All, and slices.EqualFunc by ops.Same, tell whether two are the same. Old memory is as it was. -/
import Derived.Test.YtpdedjbkfcaebaaCliEq
import Derived.Deep.RegionHeld3
set_option linter.unusedVariables false
set_option linter.unusedSimpArgs false
namespace Go.Proofs.Ytpdedjbkfcaebaa
open Go.RowKit Copyhold
end Go.Proofs.Ytpdedjbkfcaebaa
