/- Rows and truth values: what a loop over a row has found so far. Over any program. No conditions beyond each law's own. -/
import Derived.Test.YtgcjfhgkkgocpaaVc
import Derived.Test.YtgcjfhgkkgocpaaChecked
set_option linter.unusedVariables false
namespace Go.Proofs.Ytgcjfhgkkgocpaa
open Go Go.RowKit Copyhold
noncomputable def dP (p : Prop) : Bool := @decide p (Classical.propDecidable p)
theorem dP_true {p : Prop} : dP p = true ↔ p := by unfold dP; simp
theorem dP_false {p : Prop} : dP p = false ↔ ¬ p := by unfold dP; simp
theorem dPt {p : Prop} (h : p) : true = dP p := (dP_true.2 h).symm
theorem dPf {p : Prop} (h : ¬ p) : false = dP p := (dP_false.2 h).symm
theorem dPe {b : Bool} {p : Prop} (h : b = true ↔ p) : b = dP p := by
  cases b with
  | true => exact dPt (h.1 rfl)
  | false => exact dPf fun hp => by cases h.2 hp
theorem sT {p : Prop} (h : p) : Sub (aB true) (aB (dP p)) := Sub.of_eq (congrArg aB (dPt h))
theorem sF {p : Prop} (h : ¬ p) : Sub (aB false) (aB (dP p)) := Sub.of_eq (congrArg aB (dPf h))
theorem sE {b : Bool} {p : Prop} (h : b = true ↔ p) : Sub (aB b) (aB (dP p)) := Sub.of_eq (congrArg aB (dPe h))
section
variable {α β : Type}
theorem sum_take (f : α → Nat) {l : List α} {k : Nat} {x : α} (h : l[k]? = some x) : ((l.take (k + 1)).map f).sum = ((l.take k).map f).sum + f x := by
  rw [List.take_add_one, h]; simp
theorem sum_take_le (f : α → Nat) (l : List α) (k : Nat) : ((l.take k).map f).sum ≤ (l.map f).sum := by
  have h : (l.map f).sum = ((l.take k).map f).sum + ((l.drop k).map f).sum := by
    rw [← List.sum_append, ← List.map_append, List.take_append_drop]
  omega
theorem mem_take_add {l : List α} {k : Nat} {x y : α} (h : l[k]? = some x) (hy : y ∈ l.take (k + 1)) : y ∈ l.take k ∨ y = x := by
  rw [List.take_add_one, h] at hy
  simpa using hy
theorem take_all {l : List α} {k : Nat} (h : l.length ≤ k) : l.take k = l := List.take_of_length_le h
theorem take_step {l : List α} {k : Nat} {x : α} (h : l[k]? = some x) : l.take (k + 1) = l.take k ++ [x] := by
  rw [List.take_add_one, h]; rfl
theorem lt_of_some {l : List α} {k : Nat} {x : α} (h : l[k]? = some x) : k < l.length := (List.getElem?_eq_some_iff.1 h).1
def AllTo (Q : Nat → α → Prop) (l : List α) (k : Nat) : Prop := ∀ i e, i < k → l[i]? = some e → Q i e
def AllQ (Q : Nat → α → Prop) (l : List α) : Prop := ∀ i e, l[i]? = some e → Q i e
theorem AllTo.zero (Q : Nat → α → Prop) (l : List α) : AllTo Q l 0 := fun i e h => by omega
theorem AllTo.step {Q : Nat → α → Prop} {l : List α} {k : Nat} {x : α} (h : AllTo Q l k) (hx : l[k]? = some x) (q : Q k x) : AllTo Q l (k + 1) := fun i e hi he => by
  by_cases hk : i = k
  · subst hk
    rw [hx] at he
    obtain rfl := Option.some.inj he
    exact q
  · exact h i e (by omega) he
theorem AllTo.full {Q : Nat → α → Prop} {l : List α} {k : Nat} (h : AllTo Q l k) (hk : l.length ≤ k) : AllQ Q l := fun i e he => h i e (by have := lt_of_some he; omega) he
theorem AllQ.at {Q : Nat → α → Prop} {l : List α} (h : AllQ Q l) {k : Nat} {x : α} (hx : l[k]? = some x) : Q k x := h k x hx
end
end Go.Proofs.Ytgcjfhgkkgocpaa
