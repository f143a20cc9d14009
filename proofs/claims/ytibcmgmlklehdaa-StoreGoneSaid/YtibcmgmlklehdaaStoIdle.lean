/- A store installed without changes; the law StoreIdle over data. -/
import Derived.Test.YtibcmgmlklehdaaStoSince
set_option linter.unusedVariables false
set_option linter.unusedSimpArgs false
namespace Go.Proofs.Ytibcmgmlklehdaa
open Go Go.RowKit Copyhold
theorem filterMap_same {α β : Type} {f g : α → Option β} : ∀ {l : List α}, (∀ x ∈ l, f x = g x) → l.filterMap f = l.filterMap g
  | [], _ => rfl
  | x :: r, h => by
    have ih := filterMap_same (f := f) (g := g) (l := r) fun y hy => h y (List.mem_cons_of_mem _ hy)
    have e := h x (List.mem_cons_self ..)
    rw [List.filterMap_cons, List.filterMap_cons, e, ih]
theorem cut_full {α : Type} {f : α → Int} {l : List α} {st b : Int} (h : ∀ x ∈ l, f x ≤ st) (hb : st ≤ b) : cutD f b l = l.length := by
  refine cut_eq _ _ _ _ (Nat.le_refl _) (fun j x hj hx => by have := lt_of_some hx; omega) ?_
  cases l with
  | nil => exact .inl rfl
  | cons v r =>
    right
    have hlt : (v :: r).length - 1 < (v :: r).length := by simp
    refine ⟨(v :: r)[(v :: r).length - 1], List.getElem?_eq_getElem hlt, ?_⟩
    have := h _ (List.getElem_mem hlt)
    omega
theorem later_last {s : Sto} (hp : storeP s) {c : Chn} (hc : c ∈ s.l) : laterB s.stamp c = false := by
  obtain ⟨k, hk⟩ := List.getElem?_of_mem hc
  have hch := (hp.2.2.2.at hk).1
  refine List.any_eq_false.2 fun v hv => ?_
  obtain ⟨j, hj⟩ := List.getElem?_of_mem hv
  have := (hch.2.1.2.at hj).2.1
  simp; omega
theorem nexts_le {s : Sto} (hp : storeP s) : ∀ c ∈ s.nexts, c.stamp ≤ s.stamp := fun c hc => by
  obtain ⟨j, hj⟩ := List.getElem?_of_mem hc
  exact (hp.2.1.2.at hj).2.1
end Go.Proofs.Ytibcmgmlklehdaa
