/- Rows of entries in memory: what they read as, and those among the arguments. -/
import Derived.Test.YtgcjfhgkkgocpaaRows
import Derived.Test.YtgcjfhgkkgocpaaLawOf
import Derived.Test.YtgcjfhgkkgocpaaNameP
set_option linter.unusedVariables false
namespace Copyhold.Name
open Go Go.RowKit
def entC (x : Ent) : List Value := [strV x.1, .int .i64 x.2]
def Ents (w : World) (v : Value) (l : List Ent) : Prop := Sl w 2 v l.length (l.flatMap entC)
theorem entC_get : ∀ (l : List Ent) (i : Nat), (l.flatMap entC)[i * 2]? = l[i]?.map (fun x => strV x.1) ∧ (l.flatMap entC)[i * 2 + 1]? = l[i]?.map (fun x => .int .i64 x.2)
  | [], i => by simp
  | x :: l, 0 => by simp [entC]
  | x :: l, i + 1 => by
    have h := entC_get l i
    rw [List.flatMap_cons]
    constructor
    · rw [List.getElem?_append_right (by simp [entC]; omega)]
      simp only [entC, List.length_cons, List.length_nil]
      rw [show (i + 1) * 2 - (0 + 1 + 1) = i * 2 from by omega, h.1]
      simp
    · rw [List.getElem?_append_right (by simp [entC]; omega)]
      simp only [entC, List.length_cons, List.length_nil]
      rw [show (i + 1) * 2 + 1 - (0 + 1 + 1) = i * 2 + 1 from by omega, h.2]
      simp
theorem entC_len (l : List Ent) : (l.flatMap entC).length = l.length * 2 := by
  induction l with
  | nil => rfl
  | cons x l ih => rw [List.flatMap_cons, List.length_append, ih]; simp [entC]; omega
theorem Ents.shape {w : World} {v : Value} {l : List Ent} (h : Ents w v l) : ∃ A c, v = .slice A l.length c ∧ l.length ≤ c := by
  obtain ⟨A, c, rfl, hc, _⟩ := Sl.shape h
  exact ⟨A, c, rfl, hc⟩
theorem Ents.below {w w' : World} {v : Value} {l : List Ent} (h : Ents w v l) (hb : Below w.heap.size w w') : Ents w' v l := Sl.below h hb
theorem Ents.nil (w : World) : Ents w (.slice none 0 0) [] := Sl.nil w 2
theorem Ents.at {w : World} {A : Option Addr} {c : Nat} {l : List Ent} (h : Ents w (.slice A l.length c) l) (k : Nat) (hk : k < l.length) :
    ∃ b off, A = some ⟨b, off, none⟩ ∧ b < w.heap.size ∧ l.length ≤ c ∧ w.cell? ⟨b, off + k * 2, none⟩ = some (.string ⟨(l[k].1).toArray⟩) ∧ w.cell? ⟨b, off + k * 2 + 1, none⟩ = some (.int .i64 l[k].2) := by
  obtain ⟨b, off, rfl, hb, hc, _, hcell⟩ := Sl.at h (by omega)
  have hg := entC_get l k
  rw [List.getElem?_eq_getElem hk] at hg
  exact ⟨b, off, rfl, hb, hc, hcell _ _ hg.1, by rw [Nat.add_assoc]; exact hcell _ _ hg.2⟩
theorem flatMap_take (l : List Ent) (i : Nat) : (l.take i).flatMap entC = (l.flatMap entC).take (i * 2) := by
  induction l generalizing i with
  | nil => simp
  | cons x l ih =>
    cases i with
    | zero => simp
    | succ i =>
      rw [List.take_succ_cons, List.flatMap_cons, List.flatMap_cons, ih i, List.take_append]
      have : (entC x).length = 2 := rfl
      rw [this, show (i + 1) * 2 - 2 = i * 2 from by omega, List.take_of_length_le (l := entC x) (by rw [this]; omega)]
theorem flatMap_drop (l : List Ent) (i : Nat) : (l.drop i).flatMap entC = (l.flatMap entC).drop (i * 2) := by
  induction l generalizing i with
  | nil => simp
  | cons x l ih =>
    cases i with
    | zero => simp
    | succ i =>
      rw [List.drop_succ_cons, List.flatMap_cons, ih i, List.drop_append]
      have : (entC x).length = 2 := rfl
      rw [this, show (i + 1) * 2 - 2 = i * 2 from by omega, List.drop_of_length_le (l := entC x) (by rw [this]; omega), List.nil_append]
theorem Ents.take {w : World} {A : Option Addr} {c : Nat} {l : List Ent} (h : Ents w (.slice A l.length c) l) (i : Nat) (hi : i ≤ l.length) : Ents w (.slice A i c) (l.take i) := by
  obtain ⟨A', c', he, hc, hl, hh⟩ := h
  simp only [Value.slice.injEq] at he
  obtain ⟨rfl, _, rfl⟩ := he
  refine ⟨A, c, by rw [List.length_take, Nat.min_eq_left hi], by rw [List.length_take]; omega, entC_len _, fun h0 => ?_⟩
  rw [List.length_take] at h0
  obtain ⟨b, off, rfl, hb, hcell⟩ := hh (by omega)
  refine ⟨b, off, rfl, hb, fun j x hx => hcell j x ?_⟩
  rw [flatMap_take] at hx
  rw [List.getElem?_take] at hx
  split at hx
  · exact hx
  · cases hx
theorem Ents.drop {w : World} {A A' : Option Addr} {c n c' : Nat} {l : List Ent} (h : Ents w (.slice A l.length c) l) (i : Nat) (hi : i ≤ l.length) (hn : n = l.length - i) (hc' : c' = c - i) (hA : i < l.length → ∀ b off, A = some ⟨b, off, none⟩ → A' = some ⟨b, off + i * 2, none⟩) : Ents w (.slice A' n c') (l.drop i) := by
  obtain ⟨A0, c0, he, hc, hl, hh⟩ := h
  simp only [Value.slice.injEq] at he
  obtain ⟨rfl, _, rfl⟩ := he
  subst hn hc'
  refine ⟨A', c - i, by rw [List.length_drop], by rw [List.length_drop]; omega, entC_len _, fun h0 => ?_⟩
  rw [List.length_drop] at h0
  obtain ⟨b, off, rfl, hb, hcell⟩ := hh (by omega)
  refine ⟨b, off + i * 2, hA (by omega) b off rfl, hb, fun j x hx => ?_⟩
  rw [flatMap_drop, List.getElem?_drop] at hx
  rw [Nat.add_assoc]
  exact hcell _ x hx
end Copyhold.Name
namespace Go.Proofs.Ytgcjfhgkkgocpaa
open Go.RowKit Go.ChangeShapes Go.WideShapes Go.ChangeAt Copyhold Copyhold.Name
end Go.Proofs.Ytgcjfhgkkgocpaa
