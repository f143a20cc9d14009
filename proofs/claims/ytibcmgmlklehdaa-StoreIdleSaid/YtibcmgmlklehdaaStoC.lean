/- ref08.Find, ref11.With, ref11.Changes. -/
import Derived.Test.YtibcmgmlklehdaaStoZ
set_option linter.unusedVariables false
set_option linter.unusedSimpArgs false
namespace Go.Proofs.Ytibcmgmlklehdaa
open Go Go.RowKit Copyhold
structure Chg where
  ino : Int
  gone : Bool
  n : Nod
  deriving DecidableEq
end Go.Proofs.Ytibcmgmlklehdaa
