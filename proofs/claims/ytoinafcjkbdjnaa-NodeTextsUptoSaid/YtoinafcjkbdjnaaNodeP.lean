/- Layer 7, without a program: nodes, which are right, their texts. -/
import Derived.Test.YtoinafcjkbdjnaaNameP
import Derived.Test.YtoinafcjkbdjnaaPure01d
set_option linter.unusedVariables false
namespace Copyhold.Name

structure Nd where
  ino : Int
  kind : Int
  links : Int
  text : List UInt8
  l : List Ent

theorem Nd.ext' {a b : Nd} (h1 : a.ino = b.ino) (h2 : a.kind = b.kind) (h3 : a.links = b.links) (h4 : a.text = b.text) (h5 : a.l = b.l) : a = b := by
  cases a; cases b; simp_all

/-- is a node right? -/
def rightN (n : Nd) : Bool := decide (1 ≤ n.ino) && decide (0 ≤ n.links) && decide (n.links ≤ 64) && (if n.kind = 2 then n.text == [] && rightE n.l else if n.kind = 1 ∨ n.kind = 3 then decide (n.text.length ≤ 4096) && n.l == [] else false)
def sizeN (n : Nd) : Int := if n.kind = 2 then n.l.length else n.text.length
def sameN (a b : Nd) : Bool := a.ino == b.ino && a.kind == b.kind && a.links == b.links && a.text == b.text && a.l == b.l
theorem sameN_iff {a b : Nd} : sameN a b = true ↔ a = b := by
  constructor
  · intro h
    simp only [sameN, Bool.and_eq_true, beq_iff_eq] at h
    exact Nd.ext' h.1.1.1.1 h.1.1.1.2 h.1.1.2 h.1.2 h.2
  · rintro rfl
    simp [sameN]
theorem sameN_self (a : Nd) : sameN a a = true := sameN_iff.2 rfl
theorem sameN_comm (a b : Nd) : sameN a b = sameN b a := by
  rw [Bool.eq_iff_iff, sameN_iff, sameN_iff]
  exact eq_comm
end Copyhold.Name
