/- A slice of slices in memory, over any program: what it reads as, piece by piece; the sums and rows of its pieces. For slices.Concat. -/
import Derived.Test.YtibcmgmlklehdaaSlice
import Derived.Lib.AppendZerosOnto
set_option linter.unusedVariables false
namespace Copyhold
open Go Go.RowKit
abbrev Piece := Value × Nat × List Value
def Cats (w : World) (k : Nat) (v : Value) (ss : List Piece) : Prop :=
  Sl w 1 v ss.length (ss.map (·.1)) ∧ ∀ s ∈ ss, Sl w k s.1 s.2.1 s.2.2 ∧ ∀ u ∈ s.2.2, u.oneCell' = true
theorem Cats.below {w w' : World} {k : Nat} {v : Value} {ss : List Piece} (h : Cats w k v ss) (hb : Below w.heap.size w w') : Cats w' k v ss :=
  ⟨h.1.below hb, fun s hs => ⟨(h.2 s hs).1.below hb, (h.2 s hs).2⟩⟩
structure SlIs (w : World) (k : Nat) (A : Option Addr) (n c : Nat) (p : Piece) : Prop where
  n_is : p.2.1 = n
  sl : Sl w k (.slice A n c) n p.2.2
theorem Cats.at {w : World} {k : Nat} {A : Option Addr} {c : Nat} {ss : List Piece} (h : Cats w k (.slice A ss.length c) ss) (i : Nat) (hi : i < ss.length) :
    ∃ b off A' n' c', A = some ⟨b, off, none⟩ ∧ b < w.heap.size ∧ w.cell? ⟨b, off + i, none⟩ = some (.slice A' n' c') ∧ SlIs w k A' n' c' ss[i] ∧ ∀ u ∈ ss[i].2.2, u.oneCell' = true := by
  obtain ⟨h1, h2⟩ := h
  obtain ⟨b, off, rfl, hb, _, _, hcell⟩ := h1.at (by omega)
  obtain ⟨g1, g2⟩ := h2 ss[i] (List.getElem_mem _)
  obtain ⟨A', c', e, _, _⟩ := g1.shape
  refine ⟨b, off, A', ss[i].2.1, c', rfl, hb, ?_, ⟨rfl, by rw [← e]; exact g1⟩, g2⟩
  rw [← e]
  exact hcell i _ (by rw [List.getElem?_map, List.getElem?_eq_getElem hi]; rfl)
end Copyhold
