/- The law StoreSince over data. -/
import Derived.Test.YtibcmgmlklehdaaStoC
set_option linter.unusedVariables false
set_option linter.unusedSimpArgs false
namespace Go.Proofs.Ytibcmgmlklehdaa
open Go Go.RowKit Copyhold
theorem view_same {st last : Int} {c : Chn} (hle : st ≤ last) (h : laterB st c = false) : viewC st c = viewC last c := by
  have h0 : ∀ v ∈ c.l, v.stamp ≤ st := fun v hv => by
    have := List.any_eq_false.1 h v hv
    simp at this
    exact this
  have key : ∀ b, st ≤ b → cutD Ver.stamp b c.l = c.l.length := fun b hb => by
    refine cut_eq _ _ _ _ (Nat.le_refl _) (fun j x hj hx => by have := lt_of_some hx; omega) ?_
    cases hl : c.l with
    | nil => exact .inl rfl
    | cons v r =>
      right
      have hlt : (v :: r).length - 1 < (v :: r).length := by simp
      refine ⟨(v :: r)[(v :: r).length - 1], List.getElem?_eq_getElem hlt, ?_⟩
      have := h0 _ (by rw [hl]; exact List.getElem_mem hlt)
      omega
  unfold viewC atD
  rw [key st (Int.le_refl _), key last hle]
theorem since_last {s : Sto} (hp : storeP s) : sinceD s s.stamp = [] := by
  have h1 : ∀ c ∈ s.l, laterB s.stamp c = false := fun c hc => by
    obtain ⟨k, hk⟩ := List.getElem?_of_mem hc
    have hch := (hp.2.2.2.at hk).1
    refine List.any_eq_false.2 fun v hv => ?_
    obtain ⟨j, hj⟩ := List.getElem?_of_mem hv
    have := (hch.2.1.2.at hj).2.1
    simp; omega
  have h2 : laterL s s.stamp s.l.length = [] := by
    unfold laterL
    rw [take_all (Nat.le_refl _), List.filter_eq_nil_iff.2 (fun c hc => by simp [h1 c hc])]
    rfl
  have h3 : moreB s s.stamp = false := by
    refine List.any_eq_false.2 fun c hc => ?_
    obtain ⟨j, hj⟩ := List.getElem?_of_mem hc
    have := (hp.2.1.2.at hj).2.1
    simp; omega
  unfold sinceD
  rw [h2, h3]
  simp
end Go.Proofs.Ytibcmgmlklehdaa
