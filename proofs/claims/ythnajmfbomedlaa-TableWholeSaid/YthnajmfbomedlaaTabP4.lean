/- Layer 14's plain mathematics: the laws' own facts. No program. -/
import Derived.Test.YthnajmfbomedlaaTabP3
set_option linter.unusedVariables false
set_option linter.unusedSimpArgs false
namespace Go.Proofs.Ythnajmfbomedlaa
open Copyhold

theorem Good.ask {rs : List TRow} (h : Good rs) (n ep sq : Int) : askF rs n ep sq = if n < 0 ∨ ep < 1 ∨ sq < 1 then ((false, 1) : Bool × Int) else match rowAt rs n with
    | none => (false, 6)
    | some r => if ep < r.epoch then (false, 17) else if r.epoch < ep then (false, 6) else if sq ≤ r.done then (false, 18) else match decAt r.l sq with
      | none => (false, 6)
      | some d => (d.2, 0) := ask_row rs n ep sq h.2.1 (fun r hr => (h.2.2 r hr).2.2.2.2.1)

/-- Decide: three ways -/
theorem decide_ways (rs : List TRow) (n ep sq : Int) (y : Bool) (h : Good rs) :
    ((askF rs n ep sq).2 ≠ 6 ∧ decideF rs n ep sq y = (rs, askF rs n ep sq)) ∨ ((askF rs n ep sq).2 = 6 ∧ decideF rs n ep sq y = (rs, false, 12)) ∨
    ((askF rs n ep sq).2 = 6 ∧ decideF rs n ep sq y = (putR rs (putD sq y (baseR rs n ep)), y, 0) ∧ Good (putR rs (putD sq y (baseR rs n ep)))) := by
  by_cases ha : (askF rs n ep sq).2 = 6
  · cases hf : fullF rs n ep sq with
    | true =>
      refine .inr (.inl ⟨ha, ?_⟩)
      unfold decideF
      rw [if_neg (by rw [ha]; decide), if_pos hf]
    | false =>
      obtain ⟨r1, r2⟩ := full_no rs n ep sq h ha hf
      exact .inr (.inr ⟨ha, decide_row rs n ep sq y h ha hf, decide_good rs n ep sq y h ha hf r1 r2⟩)
  · refine .inl ⟨ha, ?_⟩
    unfold decideF
    rw [if_pos ha]

/-- behind Decide, Ask tells what it told -/
theorem ask_decided (rs : List TRow) (n ep sq : Int) (y : Bool) (h : Good rs) (ha : (askF rs n ep sq).2 = 6) (hg : Good (putR rs (putD sq y (baseR rs n ep)))) (m e s : Int) :
    askF (putR rs (putD sq y (baseR rs n ep))) m e s = if m < 0 ∨ e < 1 ∨ s < 1 then ((false, 1) : Bool × Int) else if m = n then
      (if e < ep then (false, 17) else if ep < e then (false, 6) else if s = sq then (y, 0) else askF rs m e s) else askF rs m e s := by
  obtain ⟨a1, a2, a3, a4, a5, a6⟩ := ask_six rs n ep sq h ha
  obtain ⟨b1, b2, b3, b4, b5, b6⟩ := base_good rs n ep h a1 a2
  rw [hg.ask m e s, rowAt_put rs _ m h.2.1]
  have hc : (putD sq y (baseR rs n ep)).client = n := base_client rs n ep
  have he : (putD sq y (baseR rs n ep)).epoch = ep := base_epoch rs n ep
  have hd : (putD sq y (baseR rs n ep)).done = (baseR rs n ep).done := rfl
  have hl : (putD sq y (baseR rs n ep)).l = insD (baseR rs n ep).l sq y := rfl
  by_cases hv : m < 0 ∨ e < 1 ∨ s < 1
  · rw [if_pos hv, if_pos hv]
  · rw [if_neg hv, if_neg hv]
    by_cases hm : m = n
    · rw [if_pos (hm.trans hc.symm), if_pos hm]
      dsimp only
      rw [he, hd, hl]
      by_cases c1 : e < ep
      · rw [if_pos c1, if_pos c1]
      · rw [if_neg c1, if_neg c1]
        by_cases c2 : ep < e
        · rw [if_pos c2, if_pos c2]
        · rw [if_neg c2, if_neg c2, dec_ins _ sq y s b5]
          by_cases c3 : s = sq
          · rw [if_pos c3, if_pos c3, if_neg (by omega)]
          · rw [if_neg c3, if_neg c3, h.ask m e s, if_neg hv, hm]
            unfold baseR
            have hee : e = ep := by omega
            cases hr : rowAt rs n with
            | none =>
              show (if s ≤ (0 : Int) then _ else _) = _
              rw [if_neg (by omega)]
              rfl
            | some r =>
              have := a6 r hr
              dsimp only
              by_cases c4 : r.epoch = ep
              · simp only [if_pos c4]
                rw [if_neg (show ¬ e < r.epoch by omega), if_neg (show ¬ r.epoch < e by omega)]
              · simp only [if_neg c4]
                rw [if_neg (show ¬ e < r.epoch by omega), if_pos (show r.epoch < e by omega)]
                show (if s ≤ (0 : Int) then _ else _) = _
                rw [if_neg (by omega)]
                rfl
    · rw [if_neg (fun x => hm (x.trans hc)), if_neg hm, h.ask m e s, if_neg hv]

end Go.Proofs.Ythnajmfbomedlaa
