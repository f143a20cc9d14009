/- 6 stores into a block, one behind the other. Over any program. -/
import Derived.Test.YtpojhcpkmpbflaaSet8
set_option linter.unusedVariables false
set_option linter.unusedSimpArgs false
namespace Copyhold
open Go Go.RowKit

def set6 (V : World) (g : Nat) (x0 x1 x2 x3 x4 x5 : Value) : World := ((((((V.setCell ⟨g, 0, none⟩ x0).setCell ⟨g, 1, none⟩ x1).setCell ⟨g, 2, none⟩ x2).setCell ⟨g, 3, none⟩ x3).setCell ⟨g, 4, none⟩ x4).setCell ⟨g, 5, none⟩ x5)
theorem set6_box {V : World} {g : Nat} {T : TypeId} {z0 z1 z2 z3 z4 z5 : Value} (h : TBox V g T #[z0, z1, z2, z3, z4, z5]) (x0 x1 x2 x3 x4 x5 : Value) : TBox (set6 V g x0 x1 x2 x3 x4 x5) g T #[x0, x1, x2, x3, x4, x5] := by
  unfold set6
  have h := ((((((h.set 0 x0).set 1 x1).set 2 x2).set 3 x3).set 4 x4).set 5 x5)
  simpa only [List.setIfInBounds_toArray, List.set_cons_zero, List.set_cons_succ] using h
theorem set6_far {V : World} {B : Nat} {T : TypeId} {cs : Array Value} (h : TBox V B T cs) (g : Nat) (hne : B ≠ g) (x0 x1 x2 x3 x4 x5 : Value) : TBox (set6 V g x0 x1 x2 x3 x4 x5) B T cs := by
  unfold set6
  exact ((((((h.far g 0 x0 hne).far g 1 x1 hne).far g 2 x2 hne).far g 3 x3 hne).far g 4 x4 hne).far g 5 x5 hne)
theorem set6_below {base g : Nat} {a V : World} (h : Below base a V) (hB : base ≤ g) (x0 x1 x2 x3 x4 x5 : Value) : Below base a (set6 V g x0 x1 x2 x3 x4 x5) := by
  unfold set6
  exact ((((((h.setCell (p := ⟨g, 0, none⟩) hB x0).setCell (p := ⟨g, 1, none⟩) hB x1).setCell (p := ⟨g, 2, none⟩) hB x2).setCell (p := ⟨g, 3, none⟩) hB x3).setCell (p := ⟨g, 4, none⟩) hB x4).setCell (p := ⟨g, 5, none⟩) hB x5)
theorem set6_heap (V : World) (g k : Nat) (hne : k ≠ g) (x0 x1 x2 x3 x4 x5 : Value) : (set6 V g x0 x1 x2 x3 x4 x5).heap[k]? = V.heap[k]? := by
  unfold set6
  simp only [heap_setCell_far _ _ _ _ (show k ≠ (⟨g, _, none⟩ : Addr).block from hne)]
theorem set6_size (V : World) (g : Nat) (x0 x1 x2 x3 x4 x5 : Value) : (set6 V g x0 x1 x2 x3 x4 x5).heap.size = V.heap.size := by
  unfold set6
  simp
theorem set6_owns {V : World} {base g : Nat} {e : TypeId} {k : Nat} {v : Value} {n : Nat} {xs : List Value} (h : V.ownsRow base e k v n xs) (hg : g < base) (x0 x1 x2 x3 x4 x5 : Value) : (set6 V g x0 x1 x2 x3 x4 x5).ownsRow base e k v n xs := by
  unfold set6
  exact (owns_setCell (owns_setCell (owns_setCell (owns_setCell (owns_setCell (owns_setCell h ⟨g, 0, none⟩ x0 hg) ⟨g, 1, none⟩ x1 hg) ⟨g, 2, none⟩ x2 hg) ⟨g, 3, none⟩ x3 hg) ⟨g, 4, none⟩ x4 hg) ⟨g, 5, none⟩ x5 hg)
theorem owns_base {w : World} {base base' : Nat} {e : TypeId} {k : Nat} {v : Value} {n : Nat} {xs : List Value} (h : w.ownsRow base' e k v n xs) (hb : base ≤ base') : w.ownsRow base e k v n xs := by
  refine ⟨h.1, ?_⟩
  rcases h.2 with h' | ⟨g, cap, cur, rfl, hg, r⟩
  · exact .inl h'
  · exact .inr ⟨g, cap, cur, rfl, Nat.le_trans hb hg, r⟩
end Copyhold
