/- Layer 14's plain mathematics: right rows, one after the other (as the document's Right looks at them). No program. -/
import Derived.Test.YthnajmfbomedlaaTabP6
set_option linter.unusedVariables false
set_option linter.unusedSimpArgs false
namespace Go.Proofs.Ythnajmfbomedlaa
open Copyhold

/-- rising: each above the one ahead of it -/
theorem rise_adj {α : Type} (key : α → Int) (l : List α) : l.Pairwise (fun a b => key a < key b) ↔ ∀ (i : Nat) (h : i < l.length) (h0 : 0 < i), key (l[i - 1]'(by omega)) < key l[i] := by
  constructor
  · intro h i hi h0
    exact List.pairwise_iff_getElem.1 h (i - 1) i (by omega) hi (by omega)
  · intro h
    refine List.pairwise_iff_getElem.2 ?_
    intro i j hi hj hij
    induction j with
    | zero => omega
    | succ j ih =>
      have hs := h (j + 1) hj (by omega)
      have e : (l[j + 1 - 1]'(by omega)) = l[j]'(by omega) := rfl
      rw [e] at hs
      by_cases hq : i = j
      · subst hq; exact hs
      · have := ih (by omega) (by omega)
        omega

/-- a row is right but for its decisions, and above the one ahead -/
def rowOk (rs : List TRow) (i : Nat) : Prop := ∃ h : i < rs.length, 0 ≤ rs[i].client ∧ 1 ≤ rs[i].epoch ∧ 0 ≤ rs[i].done ∧ rs[i].l.length ≤ 256 ∧ ∀ h0 : 0 < i, (rs[i - 1]'(by omega)).client < rs[i].client
/-- a decision is above what is done, and above the one ahead -/
def decOk (r : TRow) (j : Nat) : Prop := ∃ h : j < r.l.length, r.done < (r.l[j]).1 ∧ ∀ h0 : 0 < j, (r.l[j - 1]'(by omega)).1 < (r.l[j]).1

theorem goodR_iff (r : TRow) : GoodR r ↔ (0 ≤ r.client ∧ 1 ≤ r.epoch ∧ 0 ≤ r.done ∧ r.l.length ≤ 256) ∧ ∀ j, j < r.l.length → decOk r j := by
  unfold GoodR SrtD
  rw [rise_adj (fun d : Int × Bool => d.1) r.l]
  constructor
  · rintro ⟨h1, h2, h3, h4, h5, h6⟩
    exact ⟨⟨h1, h2, h3, h4⟩, fun j hj => ⟨hj, h6 _ (List.getElem_mem hj), fun h0 => h5 j hj h0⟩⟩
  · rintro ⟨⟨h1, h2, h3, h4⟩, h5⟩
    refine ⟨h1, h2, h3, h4, fun i hi h0 => ?_, fun d hd => ?_⟩
    · obtain ⟨_, _, h⟩ := h5 i hi
      exact h h0
    · obtain ⟨j, hj, rfl⟩ := List.getElem_of_mem hd
      obtain ⟨_, h, _⟩ := h5 j hj
      exact h

theorem good_iff (rs : List TRow) : Good rs ↔ rs.length ≤ 64 ∧ ∀ i (h : i < rs.length), rowOk rs i ∧ ∀ j, j < rs[i].l.length → decOk rs[i] j := by
  unfold Good SrtC
  rw [rise_adj (fun r : TRow => r.client) rs]
  constructor
  · rintro ⟨h1, h2, h3⟩
    refine ⟨h1, fun i hi => ?_⟩
    obtain ⟨⟨a, b, c, d⟩, e⟩ := (goodR_iff _).1 (h3 _ (List.getElem_mem hi))
    exact ⟨⟨hi, a, b, c, d, fun h0 => h2 i hi h0⟩, e⟩
  · rintro ⟨h1, h2⟩
    refine ⟨h1, fun i hi h0 => ?_, fun r hr => ?_⟩
    · obtain ⟨⟨_, _, _, _, _, h⟩, _⟩ := h2 i hi
      exact h h0
    · obtain ⟨i, hi, rfl⟩ := List.getElem_of_mem hr
      obtain ⟨⟨_, a, b, c, d, _⟩, e⟩ := h2 i hi
      exact (goodR_iff _).2 ⟨⟨a, b, c, d⟩, e⟩

end Go.Proofs.Ythnajmfbomedlaa
