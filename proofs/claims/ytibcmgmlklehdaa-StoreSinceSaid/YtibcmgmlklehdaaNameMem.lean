/- Rows of entries in memory: what they read as, and those among the arguments. -/
import Derived.Test.YtibcmgmlklehdaaRows
import Derived.Test.YtibcmgmlklehdaaLawOf
import Derived.Test.YtibcmgmlklehdaaNameP
set_option linter.unusedVariables false
namespace Copyhold.Name
open Go Go.RowKit

/-- an entry's cells -/
def entC (x : Ent) : List Value := [strV x.1, .int .i64 x.2]
/-- a slice that reads as these entries -/
def Ents (w : World) (v : Value) (l : List Ent) : Prop := Sl w 2 v l.length (l.flatMap entC)
/-- entries as a program may have them -/
def okC (x : Ent) : Prop := x.1.length ≤ 140737488351232 ∧ -9223372036854775808 ≤ x.2 ∧ x.2 ≤ 9223372036854775807
def OkEnts (l : List Ent) : Prop := ∀ x ∈ l, okC x

theorem entC_get : ∀ (l : List Ent) (i : Nat), (l.flatMap entC)[i * 2]? = l[i]?.map (fun x => strV x.1) ∧ (l.flatMap entC)[i * 2 + 1]? = l[i]?.map (fun x => .int .i64 x.2)
  | [], i => by simp
  | x :: l, 0 => by simp [entC]
  | x :: l, i + 1 => by
    have h := entC_get l i
    rw [List.flatMap_cons]
    constructor
    · rw [List.getElem?_append_right (by simp [entC]; omega)]
      simp only [entC, List.length_cons, List.length_nil]
      rw [show (i + 1) * 2 - (0 + 1 + 1) = i * 2 from by omega, h.1]
      simp
    · rw [List.getElem?_append_right (by simp [entC]; omega)]
      simp only [entC, List.length_cons, List.length_nil]
      rw [show (i + 1) * 2 + 1 - (0 + 1 + 1) = i * 2 + 1 from by omega, h.2]
      simp
theorem entC_len (l : List Ent) : (l.flatMap entC).length = l.length * 2 := by
  induction l with
  | nil => rfl
  | cons x l ih => rw [List.flatMap_cons, List.length_append, ih]; simp [entC]; omega
theorem entC_one (l : List Ent) : ∀ u ∈ l.flatMap entC, u.oneCell' = true := by
  intro u hu
  obtain ⟨x, _, h⟩ := List.mem_flatMap.1 hu
  simp only [entC, List.mem_cons, List.not_mem_nil, or_false] at h
  rcases h with rfl | rfl <;> rfl

theorem Ents.shape {w : World} {v : Value} {l : List Ent} (h : Ents w v l) : ∃ A c, v = .slice A l.length c ∧ l.length ≤ c := by
  obtain ⟨A, c, rfl, hc, _⟩ := Sl.shape h
  exact ⟨A, c, rfl, hc⟩
theorem Ents.below {w w' : World} {v : Value} {l : List Ent} (h : Ents w v l) (hb : Below w.heap.size w w') : Ents w' v l := Sl.below h hb
theorem Ents.nil (w : World) : Ents w (.slice none 0 0) [] := Sl.nil w 2
/-- what stands at a place -/
theorem Ents.at {w : World} {A : Option Addr} {c : Nat} {l : List Ent} (h : Ents w (.slice A l.length c) l) (k : Nat) (hk : k < l.length) :
    ∃ b off, A = some ⟨b, off, none⟩ ∧ b < w.heap.size ∧ l.length ≤ c ∧ w.cell? ⟨b, off + k * 2, none⟩ = some (.string ⟨(l[k].1).toArray⟩) ∧ w.cell? ⟨b, off + k * 2 + 1, none⟩ = some (.int .i64 l[k].2) := by
  obtain ⟨b, off, rfl, hb, hc, _, hcell⟩ := Sl.at h (by omega)
  have hg := entC_get l k
  rw [List.getElem?_eq_getElem hk] at hg
  exact ⟨b, off, rfl, hb, hc, hcell _ _ hg.1, by rw [Nat.add_assoc]; exact hcell _ _ hg.2⟩

theorem flatMap_take (l : List Ent) (i : Nat) : (l.take i).flatMap entC = (l.flatMap entC).take (i * 2) := by
  induction l generalizing i with
  | nil => simp
  | cons x l ih =>
    cases i with
    | zero => simp
    | succ i =>
      rw [List.take_succ_cons, List.flatMap_cons, List.flatMap_cons, ih i, List.take_append]
      have : (entC x).length = 2 := rfl
      rw [this, show (i + 1) * 2 - 2 = i * 2 from by omega, List.take_of_length_le (l := entC x) (by rw [this]; omega)]
theorem flatMap_drop (l : List Ent) (i : Nat) : (l.drop i).flatMap entC = (l.flatMap entC).drop (i * 2) := by
  induction l generalizing i with
  | nil => simp
  | cons x l ih =>
    cases i with
    | zero => simp
    | succ i =>
      rw [List.drop_succ_cons, List.flatMap_cons, ih i, List.drop_append]
      have : (entC x).length = 2 := rfl
      rw [this, show (i + 1) * 2 - 2 = i * 2 from by omega, List.drop_of_length_le (l := entC x) (by rw [this]; omega), List.nil_append]

/-- the first ones of a slice -/
theorem Ents.take {w : World} {A : Option Addr} {c : Nat} {l : List Ent} (h : Ents w (.slice A l.length c) l) (i : Nat) (hi : i ≤ l.length) : Ents w (.slice A i c) (l.take i) := by
  obtain ⟨A', c', he, hc, hl, hh⟩ := h
  simp only [Value.slice.injEq] at he
  obtain ⟨rfl, _, rfl⟩ := he
  refine ⟨A, c, by rw [List.length_take, Nat.min_eq_left hi], by rw [List.length_take]; omega, entC_len _, fun h0 => ?_⟩
  rw [List.length_take] at h0
  obtain ⟨b, off, rfl, hb, hcell⟩ := hh (by omega)
  refine ⟨b, off, rfl, hb, fun j x hx => hcell j x ?_⟩
  rw [flatMap_take] at hx
  rw [List.getElem?_take] at hx
  split at hx
  · exact hx
  · cases hx
/-- the last ones of a slice: where they begin hangs on whether there is room behind -/
theorem Ents.drop {w : World} {A A' : Option Addr} {c n c' : Nat} {l : List Ent} (h : Ents w (.slice A l.length c) l) (i : Nat) (hi : i ≤ l.length) (hn : n = l.length - i) (hc' : c' = c - i) (hA : i < l.length → ∀ b off, A = some ⟨b, off, none⟩ → A' = some ⟨b, off + i * 2, none⟩) : Ents w (.slice A' n c') (l.drop i) := by
  obtain ⟨A0, c0, he, hc, hl, hh⟩ := h
  simp only [Value.slice.injEq] at he
  obtain ⟨rfl, _, rfl⟩ := he
  subst hn hc'
  refine ⟨A', c - i, by rw [List.length_drop], by rw [List.length_drop]; omega, entC_len _, fun h0 => ?_⟩
  rw [List.length_drop] at h0
  obtain ⟨b, off, rfl, hb, hcell⟩ := hh (by omega)
  refine ⟨b, off + i * 2, hA (by omega) b off rfl, hb, fun j x hx => ?_⟩
  rw [flatMap_drop, List.getElem?_drop] at hx
  rw [Nat.add_assoc]
  exact hcell _ x hx
end Copyhold.Name
namespace Go.Proofs.Ytibcmgmlklehdaa
open Go.RowKit Go.ChangeShapes Go.WideShapes Go.ChangeAt Copyhold Copyhold.Name

theorem i64ok_of {z : Int} (w : (Lit.int .i64 z).wf = true) : -9223372036854775808 ≤ z ∧ z ≤ 9223372036854775807 := by
  simpa [Lit.wf, IntKind.min, IntKind.max, IntKind.signed, IntKind.bits] using w
theorem cellsInt : Try.prog.cellsOf 3 = 1 := by kernel_rfl
theorem cellsString : Try.prog.cellsOf 9 = 1 := by kernel_rfl

def EntR (x : Ent) (cs : List Value) : Prop := cs = entC x ∧ okC x

theorem ents_of {w : World} {v : Value} {l : List Ent} (h : SlOf EntR w 2 v l) : Ents w v l ∧ OkEnts l := by
  obtain ⟨css, h1, h2, h3⟩ := h
  have hcss : css = l.map entC := by
    apply List.ext_getElem (by simp [h2])
    intro i hi hj
    have := (h3 i _ _ (List.getElem?_eq_getElem hi) (List.getElem?_eq_getElem (by omega))).2.1
    simpa using this
  refine ⟨?_, fun x hx => ?_⟩
  · unfold Ents
    rw [List.flatMap_def, ← hcss]
    exact h1
  · obtain ⟨i, hi, rfl⟩ := List.mem_iff_getElem.1 hx
    exact (h3 i _ _ (List.getElem?_eq_getElem (by omega)) (List.getElem?_eq_getElem hi)).2.2

theorem open_ents {H : Type} {enc : TypeId × Value → H} {W : World} {fuel : Nat} {cs : List Value} {x : DataW H × List MemPlace}
    (h : DataW.trod enc Try.prog W 0 (fun _ => true) true fuel 41 cs = some x) (hlt : ∀ p ∈ x.2, p.block < W.heap.size) (hw : ∀ n ∈ DataW.weights Try.prog 41 x.1, n ≤ 140737488351232) :
    ∃ (v : Value) (l : List Ent), cs = [v] ∧ Ents W v l ∧ OkEnts l ∧ l.length ≤ 5864062014634 := by
  obtain ⟨v, l, e, hs, hd⟩ := open_slice_of (k := 2) (R := EntR) Try.underlying41 (by kernel_rfl) (by decide) (([], 0) : Ent) (fun n cs' y hy hl hc hww => by
    obtain ⟨xs, m, _, hx, _, hlen, hfl⟩ := DataW.trod_struct Try.underlying102 hy
    obtain ⟨y0, y1, rfl⟩ := list2 hlen
    obtain ⟨c0, c1, rfl⟩ := list2 hc
    have g0 : DataW.trod enc Try.prog W 0 (fun _ => true) true m 9 [c0] = some y0 := by have h := hfl 0 _ rfl; simpa [cellsString] using h
    have g1 : DataW.trod enc Try.prog W 0 (fun _ => true) true m 3 [c1] = some y1 := by have h := hfl 1 _ rfl; simpa [cellsInt, cellsString] using h
    subst hx
    obtain ⟨s, e0, ey0, _⟩ := DataW.trod_string Try.underlying9 g0
    obtain ⟨z, e1, _, w1⟩ := DataW.trod_int Try.underlying3 g1
    simp only [List.cons.injEq, and_true] at e0 e1
    subst e0 e1 ey0
    have hs := hww s.data.toList.length (by simp [DataW.weightsEach, DataW.weights, Try.underlying102])
    exact ⟨(s.data.toList, z), by simp [entC, strV], hs, (i64ok_of w1).1, (i64ok_of w1).2⟩) h hlt hw
  have hby : Try.prog.bytesOf 102 = 24 := by kernel_rfl
  have hsz := rows_sized Try.underlying41 hd hw
  rw [hby] at hsz
  exact ⟨v, l, e, (ents_of hs).1, (ents_of hs).2, by omega⟩
end Go.Proofs.Ytibcmgmlklehdaa
