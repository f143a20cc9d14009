/- slices.Equal of texts, ops.Same, copyholdref11.Same: are two rows of texts, two replies the same? Old memory is as it was. -/
import Derived.Test.YtpdedjbkfcaebaaCliP
import Derived.Test.YtpdedjbkfcaebaaTaking
set_option linter.unusedVariables false
set_option linter.unusedSimpArgs false
namespace Go.Proofs.Ytpdedjbkfcaebaa
open Go.RowKit Copyhold
end Go.Proofs.Ytpdedjbkfcaebaa
