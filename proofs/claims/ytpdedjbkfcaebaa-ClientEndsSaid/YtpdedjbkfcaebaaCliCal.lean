/- Are two calls the same? (Go's own '==' of structs.) -/
import Derived.Test.YtpdedjbkfcaebaaCliAll
import Derived.Laws.StructEq
set_option linter.unusedVariables false
set_option linter.unusedSimpArgs false
namespace Go.Proofs.Ytpdedjbkfcaebaa
open Go.RowKit Copyhold
end Go.Proofs.Ytpdedjbkfcaebaa
