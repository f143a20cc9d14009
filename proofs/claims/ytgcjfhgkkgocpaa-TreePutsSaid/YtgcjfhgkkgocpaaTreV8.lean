/- ref08.Put, Out. -/
import Derived.Test.YtgcjfhgkkgocpaaTreU8
set_option linter.unusedVariables false
set_option linter.unusedSimpArgs false
namespace Go.Proofs.Ytgcjfhgkkgocpaa
open Go Go.RowKit Copyhold
end Go.Proofs.Ytgcjfhgkkgocpaa
