/- Layer 14's plain mathematics: Forget, and the laws' own facts. No program. -/
import Derived.Test.YthnajmfbomedlaaTabP4
set_option linter.unusedVariables false
set_option linter.unusedSimpArgs false
namespace Go.Proofs.Ythnajmfbomedlaa
open Copyhold

/-- Forget: two ways -/
theorem forget_ways (rs : List TRow) (n ep dn : Int) (h : Good rs) :
    ((forgetF rs n ep dn).1 = rs ∧ (forgetF rs n ep dn).2 ≠ 0) ∨
    (∃ r, rowAt rs n = some r ∧ r.epoch = ep ∧ 0 ≤ n ∧ 1 ≤ ep ∧ 1 ≤ dn ∧ forgetF rs n ep dn = (putR rs (cutD dn r), 0) ∧ Good (putR rs (cutD dn r))) := by
  have ho := own_row rs n ep dn h.2.1
  by_cases hv : n < 0 ∨ ep < 1 ∨ dn < 1
  · rw [if_pos hv] at ho
    refine .inl ?_
    unfold forgetF
    rw [ho, if_pos rfl]
    exact ⟨rfl, (by decide : (1 : Int) ≠ 0)⟩
  · rw [if_neg hv] at ho
    cases hr : rowAt rs n with
    | none =>
      rw [hr] at ho
      refine .inl ?_
      unfold forgetF
      rw [ho]
      exact ⟨rfl, (by decide : (6 : Int) ≠ 0)⟩
    | some r =>
      rw [hr] at ho
      dsimp only at ho
      by_cases c1 : ep < r.epoch
      · rw [if_pos c1] at ho
        refine .inl ?_
        unfold forgetF
        rw [ho]
        exact ⟨rfl, (by decide : (17 : Int) ≠ 0)⟩
      · rw [if_neg c1] at ho
        by_cases c2 : r.epoch < ep
        · rw [if_pos c2] at ho
          refine .inl ?_
          unfold forgetF
          rw [ho]
          exact ⟨rfl, (by decide : (6 : Int) ≠ 0)⟩
        · rw [if_neg c2] at ho
          have he : r.epoch = ep := by omega
          have hb : baseR rs n ep = r := by unfold baseR; rw [hr]; exact if_pos he
          obtain ⟨g1, g2, g3, g4, g5, g6⟩ := h.2.2 r (rowAt_client hr).2
          have hc : (cutD dn r).client = n := (rowAt_client hr).1
          refine .inr ⟨r, rfl, he, by omega, by omega, by omega, ?_, good_put rs _ h ⟨g1, g2, ?_, ?_, srt_above _ _ g5, ?_⟩ (.inr (by rw [hc, hr]; rfl))⟩
          · unfold forgetF
            rw [ho, if_neg (by intro x; cases x), change_base rs n ep (cutD dn) (fun _ => rfl) h.2.1, hb]
          · show 0 ≤ max r.done dn
            omega
          · exact Nat.le_trans (List.length_filter_le _ _) g4
          · intro d hd
            have := (List.mem_filter.1 hd).2
            exact of_decide_eq_true this

/-- behind Forget, Ask tells what it told, or that it is forgotten -/
theorem ask_forgot (rs : List TRow) (n ep dn : Int) (r : TRow) (h : Good rs) (hr : rowAt rs n = some r) (he : r.epoch = ep) (h1 : 1 ≤ dn) (hg : Good (putR rs (cutD dn r))) (m e s : Int) :
    askF (putR rs (cutD dn r)) m e s = if m < 0 ∨ e < 1 ∨ s < 1 then ((false, 1) : Bool × Int) else if m = n ∧ e = ep ∧ s ≤ dn then (false, 18) else askF rs m e s := by
  rw [hg.ask m e s, rowAt_put rs _ m h.2.1, h.ask m e s]
  have hc : (cutD dn r).client = n := (rowAt_client hr).1
  have hee : (cutD dn r).epoch = r.epoch := rfl
  have hd : (cutD dn r).done = max r.done dn := rfl
  have hl : (cutD dn r).l = above r.l (max r.done dn) := rfl
  by_cases hv : m < 0 ∨ e < 1 ∨ s < 1
  · rw [if_pos hv, if_pos hv]
  · rw [if_neg hv, if_neg hv, if_neg hv]
    by_cases hm : m = n
    · rw [if_pos (hm.trans hc.symm), hm, hr]
      dsimp only
      rw [hee, hd, hl, dec_above]
      by_cases c1 : e < r.epoch
      · rw [if_pos c1, if_neg (by omega), if_pos c1]
      · rw [if_neg c1]
        by_cases c2 : r.epoch < e
        · rw [if_pos c2, if_neg (by omega), if_neg c1, if_pos c2]
        · rw [if_neg c2]
          by_cases c3 : s ≤ dn
          · rw [if_pos (by omega), if_pos (by omega)]
          · rw [if_neg (show ¬ (n = n ∧ e = ep ∧ s ≤ dn) by omega), if_neg c1, if_neg c2]
            by_cases c4 : s ≤ r.done
            · rw [if_pos (by omega), if_pos c4]
            · rw [if_neg (by omega), if_neg c4, if_pos (by omega)]
    · rw [if_neg (fun x => hm (x.trans hc)), if_neg (by omega)]

end Go.Proofs.Ythnajmfbomedlaa
