/- Layer 6, without a program: what a path is split into. -/
import Derived.Test.YtgcjfhgkkgocpaaNameP
set_option linter.unusedVariables false
namespace Copyhold.Name
end Copyhold.Name
