/- Rows of writes and of marks in memory: what they read as, and those among the arguments. -/
import Derived.Test.YtahnkkmngbckdaaRows
import Derived.Test.YtahnkkmngbckdaaLawOf
import Derived.Test.YtahnkkmngbckdaaDiskP
set_option linter.unusedVariables false
namespace Copyhold.Disk
open Go Go.RowKit

/-- a write's cells -/
def putC (x : PutW) : List Value := [.int .i64 x.1, strV x.2]
/-- a slice that reads as these writes -/
def Puts (w : World) (v : Value) (l : List PutW) : Prop := Sl w 2 v l.length (l.flatMap putC)
/-- writes as a program may have them -/
def okPut (x : PutW) : Prop := x.2.length ≤ 140737488351232 ∧ -9223372036854775808 ≤ x.1 ∧ x.1 ≤ 9223372036854775807
def OkPuts (l : List PutW) : Prop := ∀ x ∈ l, okPut x

theorem putC_get : ∀ (l : List PutW) (i : Nat), (l.flatMap putC)[i * 2]? = l[i]?.map (fun x => .int .i64 x.1) ∧ (l.flatMap putC)[i * 2 + 1]? = l[i]?.map (fun x => strV x.2)
  | [], i => by simp
  | x :: l, 0 => by simp [putC]
  | x :: l, i + 1 => by
    have h := putC_get l i
    rw [List.flatMap_cons]
    constructor
    · rw [List.getElem?_append_right (by simp [putC]; omega)]
      simp only [putC, List.length_cons, List.length_nil]
      rw [show (i + 1) * 2 - (0 + 1 + 1) = i * 2 from by omega, h.1]
      simp
    · rw [List.getElem?_append_right (by simp [putC]; omega)]
      simp only [putC, List.length_cons, List.length_nil]
      rw [show (i + 1) * 2 + 1 - (0 + 1 + 1) = i * 2 + 1 from by omega, h.2]
      simp
theorem putC_len (l : List PutW) : (l.flatMap putC).length = l.length * 2 := by
  induction l with
  | nil => rfl
  | cons x l ih => rw [List.flatMap_cons, List.length_append, ih]; simp [putC]; omega
theorem putC_one (l : List PutW) : ∀ u ∈ l.flatMap putC, u.oneCell' = true := by
  intro u hu
  obtain ⟨x, _, h⟩ := List.mem_flatMap.1 hu
  simp only [putC, List.mem_cons, List.not_mem_nil, or_false] at h
  rcases h with rfl | rfl <;> rfl

theorem Puts.shape {w : World} {v : Value} {l : List PutW} (h : Puts w v l) : ∃ A c, v = .slice A l.length c ∧ l.length ≤ c := by
  obtain ⟨A, c, rfl, hc, _⟩ := Sl.shape h
  exact ⟨A, c, rfl, hc⟩
theorem Puts.below {w w' : World} {v : Value} {l : List PutW} (h : Puts w v l) (hb : Below w.heap.size w w') : Puts w' v l := Sl.below h hb
theorem Puts.nil (w : World) : Puts w (.slice none 0 0) [] := Sl.nil w 2
/-- what stands at a place -/
theorem Puts.at {w : World} {A : Option Addr} {c : Nat} {l : List PutW} (h : Puts w (.slice A l.length c) l) (k : Nat) (hk : k < l.length) :
    ∃ b off, A = some ⟨b, off, none⟩ ∧ b < w.heap.size ∧ l.length ≤ c ∧ w.cell? ⟨b, off + k * 2, none⟩ = some (.int .i64 l[k].1) ∧ w.cell? ⟨b, off + k * 2 + 1, none⟩ = some (.string ⟨(l[k].2).toArray⟩) := by
  obtain ⟨b, off, rfl, hb, hc, _, hcell⟩ := Sl.at h (by omega)
  have hg := putC_get l k
  rw [List.getElem?_eq_getElem hk] at hg
  exact ⟨b, off, rfl, hb, hc, hcell _ _ hg.1, by rw [Nat.add_assoc]; exact hcell _ _ hg.2⟩
def boolC (b : Bool) : Value := .bool b
end Copyhold.Disk
namespace Go.Proofs.Ytahnkkmngbckdaa
open Go.RowKit Go.ChangeShapes Go.WideShapes Go.ChangeAt Copyhold Copyhold.Disk

theorem i64ok_of {z : Int} (w : (Lit.int .i64 z).wf = true) : -9223372036854775808 ≤ z ∧ z ≤ 9223372036854775807 := by
  simpa [Lit.wf, IntKind.min, IntKind.max, IntKind.signed, IntKind.bits] using w
theorem cellsInt : Try.prog.cellsOf 3 = 1 := by kernel_rfl
theorem cellsString : Try.prog.cellsOf 9 = 1 := by kernel_rfl

def PutR (x : PutW) (cs : List Value) : Prop := cs = putC x ∧ okPut x

theorem puts_of {w : World} {v : Value} {l : List PutW} (h : SlOf PutR w 2 v l) : Puts w v l ∧ OkPuts l := by
  obtain ⟨css, h1, h2, h3⟩ := h
  have hcss : css = l.map putC := by
    apply List.ext_getElem (by simp [h2])
    intro i hi hj
    have := (h3 i _ _ (List.getElem?_eq_getElem hi) (List.getElem?_eq_getElem (by omega))).2.1
    simpa using this
  refine ⟨?_, fun x hx => ?_⟩
  · unfold Puts
    rw [List.flatMap_def, ← hcss]
    exact h1
  · obtain ⟨i, hi, rfl⟩ := List.mem_iff_getElem.1 hx
    exact (h3 i _ _ (List.getElem?_eq_getElem (by omega)) (List.getElem?_eq_getElem hi)).2.2

theorem open_puts {H : Type} {enc : TypeId × Value → H} {W : World} {fuel : Nat} {cs : List Value} {x : DataW H × List MemPlace}
    (h : DataW.trod enc Try.prog W 0 (fun _ => true) true fuel 23 cs = some x) (hlt : ∀ p ∈ x.2, p.block < W.heap.size) (hw : ∀ n ∈ DataW.weights Try.prog 23 x.1, n ≤ 140737488351232) :
    ∃ (v : Value) (l : List PutW), cs = [v] ∧ Puts W v l ∧ OkPuts l ∧ l.length ≤ 5864062014634 := by
  obtain ⟨v, l, e, hs, hd⟩ := open_slice_of (k := 2) (R := PutR) Try.underlying23 (by kernel_rfl) (by decide) ((0, []) : PutW) (fun n cs' y hy hl hc hww => by
    obtain ⟨xs, m, _, hx, _, hlen, hfl⟩ := DataW.trod_struct Try.underlying56 hy
    obtain ⟨y0, y1, rfl⟩ := list2 hlen
    obtain ⟨c0, c1, rfl⟩ := list2 hc
    have g0 : DataW.trod enc Try.prog W 0 (fun _ => true) true m 3 [c0] = some y0 := by have h := hfl 0 _ rfl; simpa [cellsInt] using h
    have g1 : DataW.trod enc Try.prog W 0 (fun _ => true) true m 9 [c1] = some y1 := by have h := hfl 1 _ rfl; simpa [cellsInt, cellsString] using h
    subst hx
    obtain ⟨s, e0, ey0, _⟩ := DataW.trod_string Try.underlying9 g1
    obtain ⟨z, e1, _, w1⟩ := DataW.trod_int Try.underlying3 g0
    simp only [List.cons.injEq, and_true] at e0 e1
    subst e0 e1 ey0
    have hs := hww s.data.toList.length (by simp [DataW.weightsEach, DataW.weights, Try.underlying56])
    exact ⟨(z, s.data.toList), by simp [putC, strV], hs, (i64ok_of w1).1, (i64ok_of w1).2⟩) h hlt hw
  have hby : Try.prog.bytesOf 56 = 24 := by kernel_rfl
  have hsz := rows_sized Try.underlying23 hd hw
  rw [hby] at hsz
  exact ⟨v, l, e, (puts_of hs).1, (puts_of hs).2, by omega⟩

theorem open_bools {H : Type} {enc : TypeId × Value → H} {W : World} {fuel : Nat} {cs : List Value} {x : DataW H × List MemPlace}
    (h : DataW.trod enc Try.prog W 0 (fun _ => true) true fuel 43 cs = some x) (hlt : ∀ p ∈ x.2, p.block < W.heap.size) (hw : ∀ n ∈ DataW.weights Try.prog 43 x.1, n ≤ 140737488351232) :
    ∃ (v : Value) (l : List Bool), cs = [v] ∧ Row W v (l.map Value.bool) ∧ l.length ≤ 140737488351232 := by
  obtain ⟨v, l, e, hs, hd⟩ := open_slice_of (k := 1) (R := fun (b : Bool) cs => cs = [Value.bool b]) Try.underlying43 (by kernel_rfl) (by decide) false (fun n cs' y hy hl hc hww => by
    obtain ⟨c0, rfl⟩ := list1 hc
    obtain ⟨b, e0, _⟩ := DataW.trod_bool Try.underlying4 hy
    exact ⟨b, e0⟩) h hlt hw
  have hby : Try.prog.bytesOf 4 = 1 := by kernel_rfl
  have hsz := rows_sized Try.underlying43 hd hw
  rw [hby] at hsz
  obtain ⟨css, h1, h2, h3⟩ := hs
  have hcss : css = l.map fun b => [Value.bool b] := by
    apply List.ext_getElem (by simp [h2])
    intro i hi hj
    have := (h3 i _ _ (List.getElem?_eq_getElem hi) (List.getElem?_eq_getElem (by omega))).2
    simpa using this
  refine ⟨v, l, e, ?_, by omega⟩
  have key : ∀ l : List Bool, (l.map fun b => [Value.bool b]).flatten = l.map Value.bool := by
    intro l
    induction l with
    | nil => rfl
    | cons a r ih => rw [List.map_cons, List.flatten_cons, ih]; rfl
  have hf : css.flatten = l.map Value.bool := by rw [hcss]; exact key l
  rw [hf] at h1
  exact Sl.row h1
end Go.Proofs.Ytahnkkmngbckdaa
