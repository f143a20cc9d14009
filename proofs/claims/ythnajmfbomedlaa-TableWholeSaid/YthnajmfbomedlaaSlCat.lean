/- Pieces of a slice of whatever elements, cut and put together anew. Over any program. -/
import Derived.Test.YthnajmfbomedlaaLawOf
import Derived.Test.YthnajmfbomedlaaCat
set_option linter.unusedVariables false
namespace Copyhold
open Go Go.RowKit

/-- cells and elements, one by one -/
def Fit {α : Type} (R : α → List Value → Prop) (k : Nat) (css : List (List Value)) (xs : List α) : Prop :=
  css.length = xs.length ∧ ∀ (i : Nat) cs a, css[i]? = some cs → xs[i]? = some a → cs.length = k ∧ R a cs

theorem Fit.mono {α : Type} {R R' : α → List Value → Prop} {k : Nat} {css : List (List Value)} {xs : List α} (h : Fit R k css xs) (hr : ∀ a cs, R a cs → R' a cs) : Fit R' k css xs :=
  ⟨h.1, fun i cs a hc ha => ⟨(h.2 i cs a hc ha).1, hr _ _ (h.2 i cs a hc ha).2⟩⟩
theorem Fit.all {α : Type} {R : α → List Value → Prop} {k : Nat} {css : List (List Value)} {xs : List α} (h : Fit R k css xs) : ∀ cs ∈ css, cs.length = k ∧ ∃ a, R a cs := by
  intro cs hm
  obtain ⟨j, hj, rfl⟩ := List.mem_iff_getElem.1 hm
  have hj2 : j < xs.length := by rw [← h.1]; exact hj
  have := h.2 j _ _ (List.getElem?_eq_getElem hj) (List.getElem?_eq_getElem hj2)
  exact ⟨this.1, _, this.2⟩
theorem Fit.take {α : Type} {R : α → List Value → Prop} {k : Nat} {css : List (List Value)} {xs : List α} (h : Fit R k css xs) (i : Nat) : Fit R k (css.take i) (xs.take i) := by
  refine ⟨by rw [List.length_take, List.length_take, h.1], fun j cs a hc ha => ?_⟩
  rw [List.getElem?_take] at hc ha
  split at hc
  · rename_i hj
    rw [if_pos hj] at ha
    exact h.2 j cs a hc ha
  · cases hc
theorem Fit.drop {α : Type} {R : α → List Value → Prop} {k : Nat} {css : List (List Value)} {xs : List α} (h : Fit R k css xs) (i : Nat) : Fit R k (css.drop i) (xs.drop i) := by
  refine ⟨by rw [List.length_drop, List.length_drop, h.1], fun j cs a hc ha => ?_⟩
  rw [List.getElem?_drop] at hc ha
  exact h.2 _ cs a hc ha
theorem Fit.append {α : Type} {R : α → List Value → Prop} {k : Nat} {css css' : List (List Value)} {xs xs' : List α} (h : Fit R k css xs) (h' : Fit R k css' xs') : Fit R k (css ++ css') (xs ++ xs') := by
  refine ⟨by rw [List.length_append, List.length_append, h.1, h'.1], fun j cs a hc ha => ?_⟩
  by_cases hj : j < css.length
  · rw [List.getElem?_append_left hj] at hc
    rw [List.getElem?_append_left (by rw [← h.1]; exact hj)] at ha
    exact h.2 j cs a hc ha
  · rw [List.getElem?_append_right (by omega)] at hc
    rw [List.getElem?_append_right (by rw [← h.1]; omega), ← h.1] at ha
    exact h'.2 _ cs a hc ha
theorem Fit.one {α : Type} {R : α → List Value → Prop} {k : Nat} {cs : List Value} {a : α} (hk : cs.length = k) (hr : R a cs) : Fit R k [cs] [a] := by
  refine ⟨rfl, fun j cs' a' hc ha => ?_⟩
  cases j with
  | zero =>
    simp at hc ha
    subst hc ha
    exact ⟨hk, hr⟩
  | succ j => simp at hc

theorem SlOf.parts {α : Type} {R : α → List Value → Prop} {w : World} {k : Nat} {v : Value} {xs : List α} (h : SlOf R w k v xs) : ∃ css, Fit R k css xs ∧ Sl w k v xs.length css.flatten := by
  obtain ⟨css, h1, h2, h3⟩ := h
  exact ⟨css, ⟨h2, h3⟩, h1⟩
theorem Fit.slOf {α : Type} {R : α → List Value → Prop} {w : World} {k : Nat} {v : Value} {css : List (List Value)} {xs : List α} (h : Fit R k css xs) (hs : Sl w k v xs.length css.flatten) : SlOf R w k v xs := ⟨css, hs, h.1, h.2⟩

theorem flatten_take {k : Nat} : ∀ (css : List (List Value)), (∀ cs ∈ css, cs.length = k) → ∀ i, (css.take i).flatten = css.flatten.take (i * k)
  | [], _, i => by simp
  | c :: r, h, 0 => by simp
  | c :: r, h, i + 1 => by
    have hc := h c List.mem_cons_self
    rw [List.take_succ_cons, List.flatten_cons, List.flatten_cons, flatten_take r (fun cs hcs => h cs (List.mem_cons_of_mem _ hcs)) i, List.take_append, hc, Nat.succ_mul]
    rw [List.take_of_length_le (show c.length ≤ i * k + k by omega), show i * k + k - k = i * k from by omega]
theorem flatten_drop {k : Nat} : ∀ (css : List (List Value)), (∀ cs ∈ css, cs.length = k) → ∀ i, (css.drop i).flatten = css.flatten.drop (i * k)
  | [], _, i => by simp
  | c :: r, h, 0 => by simp
  | c :: r, h, i + 1 => by
    have hc := h c List.mem_cons_self
    rw [List.drop_succ_cons, List.flatten_cons, flatten_drop r (fun cs hcs => h cs (List.mem_cons_of_mem _ hcs)) i, List.drop_append, hc, Nat.succ_mul]
    rw [List.drop_of_length_le (show c.length ≤ i * k + k by omega), show i * k + k - k = i * k from by omega, List.nil_append]

theorem Fit.pre {α : Type} {R : α → List Value → Prop} {w : World} {k : Nat} {A : Option Addr} {c : Nat} {css : List (List Value)} {xs : List α} (h : Fit R k css xs) (hs : Sl w k (.slice A xs.length c) xs.length css.flatten) (i : Nat) (hi : i ≤ xs.length) :
    Sl w k (.slice A i c) i (css.take i).flatten := by
  rw [flatten_take css (fun cs hc => (h.all cs hc).1)]
  exact hs.pre i hi
theorem Fit.post {α : Type} {R : α → List Value → Prop} {w : World} {k : Nat} {A : Option Addr} {c : Nat} {css : List (List Value)} {xs : List α} (h : Fit R k css xs) (hs : Sl w k (.slice A xs.length c) xs.length css.flatten) (i : Nat) (hi : i ≤ xs.length) :
    Sl w k (.slice (cutA A c i k) (xs.length - i) (c - i)) (xs.length - i) (css.drop i).flatten := by
  rw [flatten_drop css (fun cs hc => (h.all cs hc).1)]
  exact hs.post i hi
theorem Fit.cells {α : Type} {R : α → List Value → Prop} {k : Nat} {css : List (List Value)} {xs : List α} (h : Fit R k css xs) (hr : ∀ a cs, R a cs → ∀ u ∈ cs, u.oneCell' = true) : ∀ u ∈ css.flatten, u.oneCell' = true := by
  intro u hu
  obtain ⟨cs, hc, huc⟩ := List.mem_flatten.1 hu
  obtain ⟨_, a, ha⟩ := h.all cs hc
  exact hr a cs ha u huc

theorem run_build3 {P : Program} {t e : TypeId} {z : Value} {bytes : Nat} (E : Elem P t e z 1 bytes) (v1 v2 v3 : Value) (c1 : v1.cells = #[v1]) (c2 : v2.cells = #[v2]) (c3 : v3.cells = #[v3]) (w : World) :
    (Instr.buildSlice t 3 #[(0, v1), (1, v2), (2, v3)]).run P w = .ok (.slice (some ⟨w.heap.size, 0, none⟩) 3 3) (w.alloc (.cells #[v1, v2, v3] e)) := by
  obtain ⟨ht, hinf, hzs, hsz⟩ := E
  obtain ⟨i, hi, hz, hsize, hby⟩ := info_of hinf
  unfold Instr.buildSlice
  simp [run_underlying ht, Go.sizeOf, typeInfo, hi, hsize, zeroValue, hz, Instr.fill, c1, c2, c3, show Array.range 3 = #[0, 1, 2] from rfl]
  simp [newRow, go_sem]

/-- a slice that a literal makes, at a step of a region, by its run -/
theorem step_build_run {P : Program} {ops : Array Oper} {o : Oper} {a : Act} {w : World} {K : Act → World → Prop} {Q : Exit → Act → World → Prop} {E : Prop} (hgd : o.guard = none) (t : TypeId) (n : Nat) (parts : Array (Nat × Operand))
    (ho : o.op = .buildSlice t n parts) (vs : Array (Nat × Value)) (hvs : (parts.map fun (i, x) => (i, a.eval x)) = vs) (v : Value) (w' : World) (hrun : (Instr.buildSlice t n vs).run P w = .ok v w') (h : K (a.put o.dst v) w') : if Region.wanted o (yielded ops a.tmps) = true then Oper.wp P o a w K Q else E := by
  have hw : Region.wanted o (yielded ops a.tmps) = true := by simp [Region.wanted, hgd]
  rw [if_pos hw]
  unfold Oper.wp
  subst hvs
  simp only [execOp, ho]
  simp [hrun, Result.andThen]
  exact h

/-- three slices in a slice of slices that a literal has just made -/
theorem cats3 {w : World} {k : Nat} {t : TypeId} {p1 p2 p3 : Piece} (h1 : Sl w k p1.1 p1.2.1 p1.2.2) (h2 : Sl w k p2.1 p2.2.1 p2.2.2) (h3 : Sl w k p3.1 p3.2.1 p3.2.2)
    (c1 : ∀ u ∈ p1.2.2, u.oneCell' = true) (c2 : ∀ u ∈ p2.2.2, u.oneCell' = true) (c3 : ∀ u ∈ p3.2.2, u.oneCell' = true) :
    Cats (w.alloc (.cells #[p1.1, p2.1, p3.1] t)) k (.slice (some ⟨w.heap.size, 0, none⟩) 3 3) [p1, p2, p3] := by
  have hb : Below w.heap.size w (w.alloc (.cells #[p1.1, p2.1, p3.1] t)) := (Below.refl _ _).alloc (Nat.le_refl _) _
  refine ⟨⟨_, 3, rfl, Nat.le_refl _, by simp, fun _ => ⟨w.heap.size, 0, rfl, by simp, fun j y hj => ?_⟩⟩, fun s hs => ?_⟩
  · rw [Nat.zero_add, cell_new]
    simpa using hj
  · simp only [List.mem_cons, List.not_mem_nil, or_false] at hs
    rcases hs with rfl | rfl | rfl
    · exact ⟨h1.below hb, c1⟩
    · exact ⟨h2.below hb, c2⟩
    · exact ⟨h3.below hb, c3⟩
theorem cats2 {w : World} {k : Nat} {t : TypeId} {p1 p2 : Piece} (h1 : Sl w k p1.1 p1.2.1 p1.2.2) (h2 : Sl w k p2.1 p2.2.1 p2.2.2)
    (c1 : ∀ u ∈ p1.2.2, u.oneCell' = true) (c2 : ∀ u ∈ p2.2.2, u.oneCell' = true) :
    Cats (w.alloc (.cells #[p1.1, p2.1] t)) k (.slice (some ⟨w.heap.size, 0, none⟩) 2 2) [p1, p2] := by
  have hb : Below w.heap.size w (w.alloc (.cells #[p1.1, p2.1] t)) := (Below.refl _ _).alloc (Nat.le_refl _) _
  refine ⟨⟨_, 2, rfl, Nat.le_refl _, by simp, fun _ => ⟨w.heap.size, 0, rfl, by simp, fun j y hj => ?_⟩⟩, fun s hs => ?_⟩
  · rw [Nat.zero_add, cell_new]
    simpa using hj
  · simp only [List.mem_cons, List.not_mem_nil, or_false] at hs
    rcases hs with rfl | rfl
    · exact ⟨h1.below hb, c1⟩
    · exact ⟨h2.below hb, c2⟩
/-- one element in a slice that a literal has just made -/
theorem sl_one {w : World} {t : TypeId} (cs : List Value) : Sl (w.alloc (.cells cs.toArray t)) cs.length (.slice (some ⟨w.heap.size, 0, none⟩) 1 1) 1 cs :=
  ⟨_, 1, rfl, Nat.le_refl _, by simp, fun _ => ⟨w.heap.size, 0, rfl, by simp, fun j y hj => by
    rw [Nat.zero_add, cell_new]
    simpa using hj⟩⟩
end Copyhold
