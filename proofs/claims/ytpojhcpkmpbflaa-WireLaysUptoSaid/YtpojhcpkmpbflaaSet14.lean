/- 14 stores into a block, one behind the other. Over any program. -/
import Derived.Test.YtpojhcpkmpbflaaSet8
set_option linter.unusedVariables false
set_option linter.unusedSimpArgs false
namespace Copyhold
open Go Go.RowKit

def set14 (V : World) (g : Nat) (x0 x1 x2 x3 x4 x5 x6 x7 x8 x9 x10 x11 x12 x13 : Value) : World := ((((((((((((((V.setCell ⟨g, 0, none⟩ x0).setCell ⟨g, 1, none⟩ x1).setCell ⟨g, 2, none⟩ x2).setCell ⟨g, 3, none⟩ x3).setCell ⟨g, 4, none⟩ x4).setCell ⟨g, 5, none⟩ x5).setCell ⟨g, 6, none⟩ x6).setCell ⟨g, 7, none⟩ x7).setCell ⟨g, 8, none⟩ x8).setCell ⟨g, 9, none⟩ x9).setCell ⟨g, 10, none⟩ x10).setCell ⟨g, 11, none⟩ x11).setCell ⟨g, 12, none⟩ x12).setCell ⟨g, 13, none⟩ x13)
theorem set14_box {V : World} {g : Nat} {T : TypeId} {z0 z1 z2 z3 z4 z5 z6 z7 z8 z9 z10 z11 z12 z13 : Value} (h : TBox V g T #[z0, z1, z2, z3, z4, z5, z6, z7, z8, z9, z10, z11, z12, z13]) (x0 x1 x2 x3 x4 x5 x6 x7 x8 x9 x10 x11 x12 x13 : Value) : TBox (set14 V g x0 x1 x2 x3 x4 x5 x6 x7 x8 x9 x10 x11 x12 x13) g T #[x0, x1, x2, x3, x4, x5, x6, x7, x8, x9, x10, x11, x12, x13] := by
  unfold set14
  have h := ((((((((((((((h.set 0 x0).set 1 x1).set 2 x2).set 3 x3).set 4 x4).set 5 x5).set 6 x6).set 7 x7).set 8 x8).set 9 x9).set 10 x10).set 11 x11).set 12 x12).set 13 x13)
  simpa only [List.setIfInBounds_toArray, List.set_cons_zero, List.set_cons_succ] using h
theorem set14_far {V : World} {B : Nat} {T : TypeId} {cs : Array Value} (h : TBox V B T cs) (g : Nat) (hne : B ≠ g) (x0 x1 x2 x3 x4 x5 x6 x7 x8 x9 x10 x11 x12 x13 : Value) : TBox (set14 V g x0 x1 x2 x3 x4 x5 x6 x7 x8 x9 x10 x11 x12 x13) B T cs := by
  unfold set14
  exact ((((((((((((((h.far g 0 x0 hne).far g 1 x1 hne).far g 2 x2 hne).far g 3 x3 hne).far g 4 x4 hne).far g 5 x5 hne).far g 6 x6 hne).far g 7 x7 hne).far g 8 x8 hne).far g 9 x9 hne).far g 10 x10 hne).far g 11 x11 hne).far g 12 x12 hne).far g 13 x13 hne)
theorem set14_below {base g : Nat} {a V : World} (h : Below base a V) (hB : base ≤ g) (x0 x1 x2 x3 x4 x5 x6 x7 x8 x9 x10 x11 x12 x13 : Value) : Below base a (set14 V g x0 x1 x2 x3 x4 x5 x6 x7 x8 x9 x10 x11 x12 x13) := by
  unfold set14
  exact ((((((((((((((h.setCell (p := ⟨g, 0, none⟩) hB x0).setCell (p := ⟨g, 1, none⟩) hB x1).setCell (p := ⟨g, 2, none⟩) hB x2).setCell (p := ⟨g, 3, none⟩) hB x3).setCell (p := ⟨g, 4, none⟩) hB x4).setCell (p := ⟨g, 5, none⟩) hB x5).setCell (p := ⟨g, 6, none⟩) hB x6).setCell (p := ⟨g, 7, none⟩) hB x7).setCell (p := ⟨g, 8, none⟩) hB x8).setCell (p := ⟨g, 9, none⟩) hB x9).setCell (p := ⟨g, 10, none⟩) hB x10).setCell (p := ⟨g, 11, none⟩) hB x11).setCell (p := ⟨g, 12, none⟩) hB x12).setCell (p := ⟨g, 13, none⟩) hB x13)
theorem set14_heap (V : World) (g k : Nat) (hne : k ≠ g) (x0 x1 x2 x3 x4 x5 x6 x7 x8 x9 x10 x11 x12 x13 : Value) : (set14 V g x0 x1 x2 x3 x4 x5 x6 x7 x8 x9 x10 x11 x12 x13).heap[k]? = V.heap[k]? := by
  unfold set14
  simp only [heap_setCell_far _ _ _ _ (show k ≠ (⟨g, _, none⟩ : Addr).block from hne)]
theorem set14_size (V : World) (g : Nat) (x0 x1 x2 x3 x4 x5 x6 x7 x8 x9 x10 x11 x12 x13 : Value) : (set14 V g x0 x1 x2 x3 x4 x5 x6 x7 x8 x9 x10 x11 x12 x13).heap.size = V.heap.size := by
  unfold set14
  simp
end Copyhold
