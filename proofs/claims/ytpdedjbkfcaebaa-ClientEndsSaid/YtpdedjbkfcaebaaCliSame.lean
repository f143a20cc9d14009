/- client.Same and copyholdref18.Same: are two clients the same? Old memory is as it was. -/
import Derived.Test.YtpdedjbkfcaebaaCliDon
set_option linter.unusedVariables false
set_option linter.unusedSimpArgs false
namespace Go.Proofs.Ytpdedjbkfcaebaa
open Go.RowKit Copyhold
end Go.Proofs.Ytpdedjbkfcaebaa
