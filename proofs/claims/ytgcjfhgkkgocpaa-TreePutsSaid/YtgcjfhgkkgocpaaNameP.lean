/- Layer 6, without a program: which names and rows are right, a name's place in a row that rises, what entering and leaving make of one. -/
import Derived.Test.YtgcjfhgkkgocpaaKit
set_option linter.unusedVariables false
namespace Copyhold.Name
abbrev Ent := List UInt8 × Int
def pos (l : List Ent) (s : List UInt8) : Nat := l.countP (fun x => decide (x.1 < s))
end Copyhold.Name
