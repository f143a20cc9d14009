/- store.kept at one stamp. -/
import Derived.Test.YtibcmgmlklehdaaStoSr
set_option linter.unusedVariables false
set_option linter.unusedSimpArgs false
namespace Go.Proofs.Ytibcmgmlklehdaa
open Go Go.RowKit Copyhold
section
variable {α : Type}
def keepL (f : α → Int) (st : Int) (l : List α) : List α := match atD f st l with | some c => [c] | none => []
def placesK (f : α → Int) (st : Int) (l : List α) (k : Nat) : List Int := if k = 0 then [] else if cutD f st l = 0 then [] else [(cutD f st l : Int) - 1]
def outK (f : α → Int) (st : Int) (l : List α) (j : Nat) : List α := if j = 0 then [] else keepL f st l
theorem placesK_le (f : α → Int) (st : Int) (l : List α) (k : Nat) : (placesK f st l k).length ≤ 1 := by
  unfold placesK; split
  · simp
  · split <;> simp
theorem placesK_mem {f : α → Int} {st : Int} {l : List α} {k j : Nat} {x : Int} (h : (placesK f st l k)[j]? = some x) : x = (cutD f st l : Int) - 1 ∧ 1 ≤ cutD f st l ∧ j = 0 := by
  unfold placesK at h
  split at h
  · simp at h
  · split at h
    · simp at h
    · have hj := lt_of_some h
      simp at hj
      subst hj
      simp at h
      exact ⟨h.symm, by omega, rfl⟩
theorem placesK_yes {f : α → Int} {st : Int} {l : List α} (h : (cutD f st l : Int) - 1 ≥ 0) : placesK f st l 1 = [(cutD f st l : Int) - 1] := by
  unfold placesK; rw [if_neg (by omega), if_neg (by omega)]
theorem placesK_no {f : α → Int} {st : Int} {l : List α} (h : ¬ (cutD f st l : Int) - 1 ≥ 0) : placesK f st l 1 = [] := by
  unfold placesK; rw [if_neg (by omega), if_pos (by omega)]
theorem keepL_le (f : α → Int) (st : Int) (l : List α) : (keepL f st l).length ≤ 1 := by
  unfold keepL; split <;> simp
theorem outK_step {f : α → Int} {st : Int} {l : List α} {x : α} (h : l[cutD f st l - 1]? = some x) (hc : 1 ≤ cutD f st l) : outK f st l 1 = [x] := by
  unfold outK keepL atD
  rw [if_neg (by omega), if_neg (by omega), h]
theorem outK_end {f : α → Int} {st : Int} {l : List α} {k j : Nat} (hk : 1 ≤ k) (hj : (placesK f st l k).length ≤ j) : outK f st l j = keepL f st l := by
  by_cases hc : cutD f st l = 0
  · have e : keepL f st l = [] := by unfold keepL atD; rw [if_pos hc]
    unfold outK
    split
    · exact e.symm
    · rfl
  · have : (placesK f st l k).length = 1 := by unfold placesK; rw [if_neg (by omega), if_neg hc]; rfl
    unfold outK
    rw [if_neg (by omega)]
end
end Go.Proofs.Ytibcmgmlklehdaa
