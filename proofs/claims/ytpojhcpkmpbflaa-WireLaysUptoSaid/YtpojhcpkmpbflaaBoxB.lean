/- A box known whole, and all of the call's memory new: what stays while a drawn region is walked. Over any program. -/
import Derived.Test.YtpojhcpkmpbflaaTaking
import Derived.Deep.RegionHeld3
set_option linter.unusedVariables false
namespace Copyhold
open Go Go.RowKit

def BoxB (w : World) (bx : Nat) (T : TypeId) (cs : Array Value) (V : World) : Prop := TBox V bx T cs ∧ Below w.heap.size w V
theorem BoxB.below {w : World} {bx : Nat} {T : TypeId} {cs : Array Value} {V V' : World} (h : BoxB w bx T cs V) (hb : Below V.heap.size V V') : BoxB w bx T cs V' :=
  ⟨h.1.below hb, below_trans h.2 hb (Below.size h.2)⟩
theorem BoxB.alloc {w : World} {bx : Nat} {T : TypeId} {cs : Array Value} {V : World} (h : BoxB w bx T cs V) (ob : Obj) : BoxB w bx T cs (V.alloc ob) :=
  h.below ((Below.refl _ _).alloc (Nat.le_refl _) ob)
theorem BoxB.drew {w : World} {bx : Nat} {T : TypeId} {cs : Array Value} {V : World} (h : BoxB w bx T cs V) : BoxB w bx T cs V.drew :=
  ⟨h.1, below_dn h.2 1⟩
theorem BoxB.new (w : World) (T : TypeId) (cs : Array Value) : BoxB w w.heap.size T cs (w.alloc (.cells cs T)) :=
  ⟨TBox.new _ _ _, (Below.refl _ _).alloc (Nat.le_refl _) _⟩
end Copyhold
