/- copyholdref01.Strings: for rows of texts of whatever length; old memory is as it was. -/
import Derived.Test.YtpdedjbkfcaebaaRows
import Derived.Test.YtpdedjbkfcaebaaMem
import Derived.Deep.QuietTactic
import Derived.BigQuiet
set_option linter.unusedVariables false
namespace Go.Proofs.Ytpdedjbkfcaebaa
open Go.RowKit Copyhold
end Go.Proofs.Ytpdedjbkfcaebaa
