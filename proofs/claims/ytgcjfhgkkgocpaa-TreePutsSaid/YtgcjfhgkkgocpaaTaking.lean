/- What a taker of parts has in memory: what is left of a text, and an error, in two cells of a block; what a part that is taken makes of the world. Over any program. -/
import Derived.Test.YtgcjfhgkkgocpaaMem
set_option linter.unusedVariables false
namespace Copyhold
open Go Go.RowKit
def BoxT (w : World) (B : Nat) (s : List UInt8) (e : Int) : Prop :=
  w.cell? ⟨B, 0, none⟩ = some (.string ⟨s.toArray⟩) ∧ w.cell? ⟨B, 1, none⟩ = some (.int .i64 e) ∧ w.frozen? ⟨B, 0, none⟩ = false ∧ w.frozen? ⟨B, 1, none⟩ = false
def TakeW (w : World) (B : Nat) (s : List UInt8) (e : Int) (w' : World) : Prop :=
  ∃ w1, Below w.heap.size w w1 ∧ w' = (w1.setCell ⟨B, 0, none⟩ (.string ⟨s.toArray⟩)).setCell ⟨B, 1, none⟩ (.int .i64 e)
theorem BoxT.below {w w' : World} {B : Nat} {s : List UInt8} {e : Int} (h : BoxT w B s e) (hb : Below w.heap.size w w') : BoxT w' B s e := by
  obtain ⟨h0, h1, h2, h3⟩ := h
  have hB := cell_lt h0
  exact ⟨cell_keep hb h0, cell_keep hb h1, (hb.frozen (p := ⟨B, 0, none⟩) hB).trans h2, (hb.frozen (p := ⟨B, 1, none⟩) hB).trans h3⟩
theorem TakeW.box {w w' : World} {B : Nat} {s s' : List UInt8} {e e' : Int} (h : TakeW w B s e w') (hb : BoxT w B s' e') : BoxT w' B s e := by
  obtain ⟨w1, hw, rfl⟩ := h
  obtain ⟨h0, h1, h2, h3⟩ := hb.below hw
  have hp := put2 (w := w1) (g := B) (.string ⟨s.toArray⟩) (.int .i64 e) h0 h1
  exact ⟨hp.1, hp.2.1, (hp.2.2.2.2 0).trans h2, (hp.2.2.2.2 1).trans h3⟩
theorem TakeW.below {w w' a : World} {B base : Nat} {s : List UInt8} {e : Int} (h : TakeW w B s e w') (hb : Below base a w) (hB : base ≤ B) (hs : base ≤ w.heap.size) : Below base a w' := by
  obtain ⟨w1, hw, rfl⟩ := h
  exact ((hb.trans (hw.mono hs)).setCell (p := ⟨B, 0, none⟩) hB _).setCell (p := ⟨B, 1, none⟩) hB _
theorem TakeW.size {w w' : World} {B : Nat} {s : List UInt8} {e : Int} (h : TakeW w B s e w') : w.heap.size ≤ w'.heap.size := by
  obtain ⟨w1, hw, rfl⟩ := h
  have := hw.size
  simpa using this
theorem TakeW.cell {w w' : World} {B : Nat} {s : List UInt8} {e : Int} (h : TakeW w B s e w') {b o : Nat} {v : Value} (hc : w.cell? ⟨b, o, none⟩ = some v) (hne : b ≠ B ∨ 2 ≤ o) : w'.cell? ⟨b, o, none⟩ = some v := by
  obtain ⟨w1, hw, rfl⟩ := h
  rw [World.cell?_setCell_other _ _ _ _ (by intro h; simp at h; omega), World.cell?_setCell_other _ _ _ _ (by intro h; simp at h; omega)]
  exact cell_keep hw hc
theorem TakeW.frozen {w w' : World} {B : Nat} {s : List UInt8} {e : Int} (h : TakeW w B s e w') {b o : Nat} (hc : w.frozen? ⟨b, o, none⟩ = false) (hb : b < w.heap.size) : w'.frozen? ⟨b, o, none⟩ = false := by
  obtain ⟨w1, hw, rfl⟩ := h
  have := (hw.frozen (p := ⟨b, o, none⟩) hb).trans hc
  simpa [go_sem] using this
theorem TakeW.block {w w' : World} {B : Nat} {s : List UInt8} {e : Int} (h : TakeW w B s e w') {k : Nat} (hk : k ≠ B) (hs : k < w.heap.size) : w'.heap[k]? = w.heap[k]? := by
  obtain ⟨w1, hw, rfl⟩ := h
  rw [heap_setCell_far _ _ _ _ (by simpa using hk), heap_setCell_far _ _ _ _ (by simpa using hk)]
  exact hw.block k hs
theorem TakeW.trans {w w1 w2 : World} {B : Nat} {s s1 : List UInt8} {e e1 : Int} (h : TakeW w B s1 e1 w1) (k : TakeW w1 B s e w2) (hB : B < w.heap.size) {s0 : List UInt8} {e0 : Int} (h0 : BoxT w B s0 e0) :
    (∀ b o v, w.cell? ⟨b, o, none⟩ = some v → (b ≠ B ∨ 2 ≤ o) → w2.cell? ⟨b, o, none⟩ = some v) ∧ (∀ b o, b < w.heap.size → w.frozen? ⟨b, o, none⟩ = false → w2.frozen? ⟨b, o, none⟩ = false) ∧ w.heap.size ≤ w2.heap.size ∧ BoxT w2 B s e :=
  ⟨fun b o v hc hne => k.cell (h.cell hc hne) hne, fun b o hb hc => k.frozen (h.frozen hc hb) (Nat.lt_of_lt_of_le hb h.size), Nat.le_trans h.size k.size, k.box (h.box h0)⟩
def TBox (w : World) (B : Nat) (T : TypeId) (cs : Array Value) : Prop := w.heap[B]? = some (.cells cs T (0, 0))
theorem TBox.lt {w : World} {B : Nat} {T : TypeId} {cs : Array Value} (h : TBox w B T cs) : B < w.heap.size := (Array.getElem?_eq_some_iff.1 h).1
theorem TBox.cell {w : World} {B : Nat} {T : TypeId} {cs : Array Value} (h : TBox w B T cs) (o : Nat) : w.cell? ⟨B, o, none⟩ = cs[o]? := by
  unfold TBox at h
  simp [World.cell?, h]
theorem TBox.set {w : World} {B : Nat} {T : TypeId} {cs : Array Value} (h : TBox w B T cs) (o : Nat) (v : Value) : TBox (w.setCell ⟨B, o, none⟩ v) B T (cs.setIfInBounds o v) := by
  unfold TBox at h ⊢
  have hB := (Array.getElem?_eq_some_iff.1 h).1
  simp [World.setCell, Array.getElem?_modify, h]
theorem TBox.below {w w' : World} {B : Nat} {T : TypeId} {cs : Array Value} (h : TBox w B T cs) (hb : Below w.heap.size w w') : TBox w' B T cs := by
  unfold TBox at h ⊢
  rw [hb.block B (Array.getElem?_eq_some_iff.1 h).1]
  exact h
theorem TBox.new (w : World) (T : TypeId) (cs : Array Value) : TBox (w.alloc (.cells cs T)) w.heap.size T cs := heap_alloc_new w _
def TakeR (w : World) (B : Nat) (s : List UInt8) (e : Int) (w' : World) : Prop :=
  (∀ T cs, TBox w B T cs → TBox w' B T ((cs.setIfInBounds 0 (.string ⟨s.toArray⟩)).setIfInBounds 1 (.int .i64 e))) ∧
  (∀ k, k ≠ B → k < w.heap.size → w'.heap[k]? = w.heap[k]?) ∧ w.heap.size ≤ w'.heap.size ∧
  (∀ base a, Below base a w → base ≤ B → base ≤ w.heap.size → Below base a w')
theorem TakeW.r {w w' : World} {B : Nat} {s : List UInt8} {e : Int} (h : TakeW w B s e w') : TakeR w B s e w' := by
  refine ⟨fun T cs hT => ?_, fun k hk hs => h.block hk hs, h.size, fun base a hb hB hs => h.below hb hB hs⟩
  obtain ⟨w1, hw, rfl⟩ := h
  exact ((hT.below hw).set 0 _).set 1 _
theorem TakeR.refl {w : World} {B : Nat} {T : TypeId} {s : List UInt8} {e : Int} {cs : Array Value} (h : TBox w B T cs) (h0 : cs[0]? = some (.string ⟨s.toArray⟩)) (h1 : cs[1]? = some (.int .i64 e)) : TakeR w B s e w := by
  refine ⟨fun T' cs' hT => ?_, fun k _ _ => rfl, Nat.le_refl _, fun base a hb _ _ => hb⟩
  have he : Obj.cells cs' T' (0, 0) = .cells cs T (0, 0) := Option.some.inj (hT.symm.trans h)
  simp only [Obj.cells.injEq, and_true] at he
  obtain ⟨rfl, rfl⟩ := he
  have e0 : cs'.setIfInBounds 0 (.string ⟨s.toArray⟩) = cs' := by
    apply Array.ext
    · simp
    · intro i h2 h3
      rw [Array.getElem_setIfInBounds (by simpa using h3)]
      split
      · rename_i hi
        subst hi
        rw [Array.getElem?_eq_getElem h3] at h0
        exact (Option.some.inj h0).symm
      · rfl
  have e1 : cs'.setIfInBounds 1 (.int .i64 e) = cs' := by
    apply Array.ext
    · simp
    · intro i h2 h3
      rw [Array.getElem_setIfInBounds (by simpa using h3)]
      split
      · rename_i hi
        subst hi
        rw [Array.getElem?_eq_getElem h3] at h1
        exact (Option.some.inj h1).symm
      · rfl
  rw [e0, e1]
  exact hT
theorem TakeR.trans {w w1 w2 : World} {B : Nat} {s s1 : List UInt8} {e e1 : Int} (h : TakeR w B s1 e1 w1) (k : TakeR w1 B s e w2) : TakeR w B s e w2 := by
  refine ⟨fun T cs hT => ?_, fun j hj hs => (k.2.1 j hj (Nat.lt_of_lt_of_le hs h.2.2.1)).trans (h.2.1 j hj hs), Nat.le_trans h.2.2.1 k.2.2.1, fun base a hb hB hs => k.2.2.2 base a (h.2.2.2 base a hb hB hs) hB (Nat.le_trans hs h.2.2.1)⟩
  have := k.1 T _ (h.1 T cs hT)
  have e : (((cs.setIfInBounds 0 (.string ⟨s1.toArray⟩)).setIfInBounds 1 (.int .i64 e1)).setIfInBounds 0 (.string ⟨s.toArray⟩)).setIfInBounds 1 (.int .i64 e) = (cs.setIfInBounds 0 (.string ⟨s.toArray⟩)).setIfInBounds 1 (.int .i64 e) := by
    apply Array.ext_getElem?
    intro i
    simp only [Array.getElem?_setIfInBounds, Array.size_setIfInBounds]
    split
    · rfl
    · split
      · rfl
      · rfl
  rw [e] at this
  exact this
end Copyhold
