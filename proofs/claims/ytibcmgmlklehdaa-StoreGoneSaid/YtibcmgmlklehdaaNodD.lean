/- The data of nodes and stores. -/
import Derived.Test.YtibcmgmlklehdaaLst
set_option linter.unusedVariables false
set_option linter.unusedSimpArgs false
namespace Go.Proofs.Ytibcmgmlklehdaa
open Go Go.RowKit Copyhold
abbrev Txt := List UInt8
structure Ent where
  name : Txt
  ino : Int
  deriving DecidableEq
structure Nod where
  ino : Int
  kind : Int
  links : Int
  text : Txt
  l : List Ent
  deriving DecidableEq
structure Ver where
  stamp : Int
  gone : Bool
  n : Nod
  deriving DecidableEq
structure Chn where
  ino : Int
  l : List Ver
  deriving DecidableEq
structure Cnt where
  stamp : Int
  next : Int
  deriving DecidableEq
structure Sto where
  l : List Chn
  nexts : List Cnt
  stamp : Int
  deriving DecidableEq
structure Fsy where
  l : List Nod
  next : Int
  deriving DecidableEq
def intA (n : Int) : List AV := [aI n]
def entA (e : Ent) : List AV := [aS e.name, aI e.ino]
def nodA (n : Nod) : List AV := [aI n.ino, aI n.kind, aI n.links, aS n.text, .sl 2 false (n.l.map entA)]
def verA (v : Ver) : List AV := [aI v.stamp, aB v.gone, aI v.n.ino, aI v.n.kind, aI v.n.links, aS v.n.text, .sl 2 false (v.n.l.map entA)]
def chnA (c : Chn) : List AV := [aI c.ino, .sl 7 false (c.l.map verA)]
def cntA (c : Cnt) : List AV := [aI c.stamp, aI c.next]
def stoA (s : Sto) : List AV := [.sl 2 false (s.l.map chnA), .sl 2 false (s.nexts.map cntA), aI s.stamp]
def fsyA (f : Fsy) : List AV := [.sl 5 false (f.l.map nodA), aI f.next]
def I64 (n : Int) : Prop := -9223372036854775808 ≤ n ∧ n ≤ 9223372036854775807
def OkE (e : Ent) : Prop := e.name.length ≤ 140737488351232 ∧ I64 e.ino
def OkN (n : Nod) : Prop := I64 n.ino ∧ I64 n.kind ∧ I64 n.links ∧ n.text.length ≤ 140737488351232 ∧ n.l.length ≤ 8796093022207 ∧ ∀ e ∈ n.l, OkE e
def OkV (v : Ver) : Prop := I64 v.stamp ∧ OkN v.n
def OkC (c : Chn) : Prop := I64 c.ino ∧ c.l.length ≤ 8796093022207 ∧ ∀ v ∈ c.l, OkV v
def OkK (c : Cnt) : Prop := I64 c.stamp ∧ I64 c.next
def OkS (s : Sto) : Prop := I64 s.stamp ∧ s.l.length ≤ 8796093022207 ∧ s.nexts.length ≤ 8796093022207 ∧ (∀ c ∈ s.l, OkC c) ∧ ∀ c ∈ s.nexts, OkK c
def OkF (f : Fsy) : Prop := I64 f.next ∧ f.l.length ≤ 8796093022207 ∧ ∀ n ∈ f.l, OkN n
end Go.Proofs.Ytibcmgmlklehdaa
