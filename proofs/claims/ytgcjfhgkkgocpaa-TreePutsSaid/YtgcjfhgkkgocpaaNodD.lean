/- The data of nodes and stores. -/
import Derived.Test.YtgcjfhgkkgocpaaLst
set_option linter.unusedVariables false
set_option linter.unusedSimpArgs false
namespace Go.Proofs.Ytgcjfhgkkgocpaa
open Go Go.RowKit Copyhold
abbrev Txt := List UInt8
structure Ent where
  name : Txt
  ino : Int
  deriving DecidableEq
structure Nod where
  ino : Int
  kind : Int
  links : Int
  text : Txt
  l : List Ent
  deriving DecidableEq
structure Ver where
  stamp : Int
  gone : Bool
  n : Nod
  deriving DecidableEq
structure Chn where
  ino : Int
  l : List Ver
  deriving DecidableEq
structure Cnt where
  stamp : Int
  next : Int
  deriving DecidableEq
structure Sto where
  l : List Chn
  nexts : List Cnt
  stamp : Int
  deriving DecidableEq
structure Fsy where
  l : List Nod
  next : Int
  deriving DecidableEq
def entA (e : Ent) : List AV := [aS e.name, aI e.ino]
def nodA (n : Nod) : List AV := [aI n.ino, aI n.kind, aI n.links, aS n.text, .sl 2 false (n.l.map entA)]
def fsyA (f : Fsy) : List AV := [.sl 5 false (f.l.map nodA), aI f.next]
def I64 (n : Int) : Prop := -9223372036854775808 ≤ n ∧ n ≤ 9223372036854775807
def OkE (e : Ent) : Prop := e.name.length ≤ 140737488351232 ∧ I64 e.ino
def OkN (n : Nod) : Prop := I64 n.ino ∧ I64 n.kind ∧ I64 n.links ∧ n.text.length ≤ 140737488351232 ∧ n.l.length ≤ 8796093022207 ∧ ∀ e ∈ n.l, OkE e
def OkF (f : Fsy) : Prop := I64 f.next ∧ f.l.length ≤ 8796093022207 ∧ ∀ n ∈ f.l, OkN n
end Go.Proofs.Ytgcjfhgkkgocpaa
