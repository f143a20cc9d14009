/- Layer 14's plain mathematics, at last: right rows, and what Decide and Forget make of them. No program. -/
import Derived.Test.YthnajmfbomedlaaTabP2
set_option linter.unusedVariables false
set_option linter.unusedSimpArgs false
namespace Go.Proofs.Ythnajmfbomedlaa
open Copyhold

/-- a right row -/
def GoodR (r : TRow) : Prop := 0 ≤ r.client ∧ 1 ≤ r.epoch ∧ 0 ≤ r.done ∧ r.l.length ≤ 256 ∧ SrtD r.l ∧ ∀ d ∈ r.l, r.done < d.1
/-- right rows -/
def Good (rs : List TRow) : Prop := rs.length ≤ 64 ∧ SrtC rs ∧ ∀ r ∈ rs, GoodR r

/-- the row that a change is made of -/
def baseR (rs : List TRow) (n ep : Int) : TRow := match rowAt rs n with | none => ⟨n, ep, 0, []⟩ | some r => if r.epoch = ep then r else ⟨n, ep, 0, []⟩

theorem put_len : ∀ (rs : List TRow) (x : TRow), SrtC rs → (putR rs x).length = if (rowAt rs x.client).isSome then rs.length else rs.length + 1
  | [], x, _ => by simp [putR, rowAt]
  | r :: rs, x, h => by
    have hp := List.pairwise_cons.1 h
    rw [putR, rowAt_cons]
    by_cases h1 : x.client < r.client
    · have e : (if r.client = x.client then some r else rowAt rs x.client) = none := by
        rw [if_neg (by omega), rowAt_above (fun q hq => by have := hp.1 q hq; omega)]
      rw [if_pos h1, e]
      simp
    · rw [if_neg h1]
      by_cases h2 : x.client = r.client
      · have e : (if r.client = x.client then some r else rowAt rs x.client) = some r := if_pos h2.symm
        rw [if_pos h2, e]
        simp
      · have e : (if r.client = x.client then some r else rowAt rs x.client) = rowAt rs x.client := if_neg (fun e => h2 e.symm)
        rw [if_neg h2, e, List.length_cons, put_len rs x hp.2]
        split <;> simp

theorem good_put (rs : List TRow) (x : TRow) (h : Good rs) (hx : GoodR x) (hl : rs.length < 64 ∨ (rowAt rs x.client).isSome = true) : Good (putR rs x) := by
  obtain ⟨h1, h2, h3⟩ := h
  refine ⟨?_, srt_put rs x h2, ?_⟩
  · rw [put_len rs x h2]
    split
    · exact h1
    · rename_i hn
      rcases hl with hl | hl
      · omega
      · exact absurd hl hn
  · intro r hr
    rcases mem_put rs x r hr with rfl | hr
    · exact hx
    · exact h3 r hr

theorem base_client (rs : List TRow) (n ep : Int) : (baseR rs n ep).client = n := by
  unfold baseR
  cases h : rowAt rs n with
  | none => rfl
  | some r =>
    dsimp only
    split
    · exact (rowAt_client h).1
    · rfl
theorem base_epoch (rs : List TRow) (n ep : Int) : (baseR rs n ep).epoch = ep := by
  unfold baseR
  cases h : rowAt rs n with
  | none => rfl
  | some r =>
    dsimp only
    split
    · assumption
    · rfl
theorem base_good (rs : List TRow) (n ep : Int) (h : Good rs) (hn : 0 ≤ n) (he : 1 ≤ ep) : GoodR (baseR rs n ep) := by
  have hz : GoodR ⟨n, ep, 0, []⟩ := ⟨hn, he, Int.le_refl 0, Nat.zero_le 256, List.Pairwise.nil, by intro d hd; cases hd⟩
  unfold baseR
  cases hr : rowAt rs n with
  | none => exact hz
  | some r =>
    dsimp only
    split
    · exact h.2.2 r (rowAt_client hr).2
    · exact hz

theorem change_base (rs : List TRow) (n ep : Int) (f : TRow → TRow) (hf : ∀ r, (f r).client = r.client) (h : SrtC rs) : changeF rs n ep f = putR rs (f (baseR rs n ep)) := change_put f hf n ep rs h

/-- what Decide makes, where Ask tells of none and there is room -/
theorem decide_row (rs : List TRow) (n ep sq : Int) (y : Bool) (h : Good rs) (ha : (askF rs n ep sq).2 = 6) (hf : fullF rs n ep sq = false) :
    decideF rs n ep sq y = (putR rs (putD sq y (baseR rs n ep)), y, 0) := by
  unfold decideF
  rw [if_neg (by rw [ha]; decide), hf, if_neg (by decide), change_base rs n ep (putD sq y) (fun _ => rfl) h.2.1]

/-- Ask tells of none: what that says -/
theorem ask_six (rs : List TRow) (n ep sq : Int) (h : Good rs) (ha : (askF rs n ep sq).2 = 6) :
    0 ≤ n ∧ 1 ≤ ep ∧ 1 ≤ sq ∧ (baseR rs n ep).done < sq ∧ decAt (baseR rs n ep).l sq = none ∧ (∀ r, rowAt rs n = some r → r.epoch ≤ ep) := by
  rw [ask_row rs n ep sq h.2.1 (fun r hr => (h.2.2 r hr).2.2.2.2.1)] at ha
  by_cases hv : n < 0 ∨ ep < 1 ∨ sq < 1
  · rw [if_pos hv] at ha; exact absurd ha (by decide)
  · rw [if_neg hv] at ha
    unfold baseR
    cases hr : rowAt rs n with
    | none => exact ⟨by omega, by omega, by omega, by show (0 : Int) < sq; omega, rfl, by intro r e; cases e⟩
    | some r =>
      rw [hr] at ha
      dsimp only at ha ⊢
      by_cases c1 : ep < r.epoch
      · rw [if_pos c1] at ha; exact absurd ha (by decide)
      · rw [if_neg c1] at ha
        refine ⟨by omega, by omega, by omega, ?_⟩
        by_cases c2 : r.epoch < ep
        · rw [if_neg (by omega)]
          exact ⟨by show (0 : Int) < sq; omega, rfl, by intro q e; cases e; omega⟩
        · rw [if_neg c2] at ha
          rw [if_pos (by omega)]
          by_cases c3 : sq ≤ r.done
          · rw [if_pos c3] at ha; exact absurd ha (by decide)
          · rw [if_neg c3] at ha
            cases hq : decAt r.l sq with
            | none => exact ⟨by omega, rfl, by intro q e; cases e; omega⟩
            | some d => rw [hq] at ha; exact absurd (show (0 : Int) = 6 from ha) (by decide)

/-- what Decide makes is right -/
theorem decide_good (rs : List TRow) (n ep sq : Int) (y : Bool) (h : Good rs) (ha : (askF rs n ep sq).2 = 6) (hf : fullF rs n ep sq = false)
    (hroom : rs.length < 64 ∨ (rowAt rs n).isSome = true) (hmany : (baseR rs n ep).l.length < 256) : Good (putR rs (putD sq y (baseR rs n ep))) := by
  obtain ⟨a1, a2, a3, a4, a5, a6⟩ := ask_six rs n ep sq h ha
  obtain ⟨b1, b2, b3, b4, b5, b6⟩ := base_good rs n ep h a1 a2
  have hc : (putD sq y (baseR rs n ep)).client = n := base_client rs n ep
  refine good_put rs _ h ⟨b1, b2, b3, ?_, srt_ins _ sq y b5 a5, ?_⟩ (by rw [hc]; exact hroom)
  · show (insD (baseR rs n ep).l sq y).length ≤ 256
    rw [insD_len]; omega
  · intro d hd
    rcases mem_ins _ sq y d hd with e | hd
    · rw [e]; exact a4
    · exact b6 d hd

/-- there is room -/
theorem full_no (rs : List TRow) (n ep sq : Int) (h : Good rs) (ha : (askF rs n ep sq).2 = 6) (hf : fullF rs n ep sq = false) :
    (rs.length < 64 ∨ (rowAt rs n).isSome = true) ∧ (baseR rs n ep).l.length < 256 := by
  obtain ⟨a1, a2, a3, a4, a5, a6⟩ := ask_six rs n ep sq h ha
  obtain ⟨p1, p2⟩ := place_row rs n h.2.1
  unfold fullF at hf
  rw [own_row rs n ep sq h.2.1, if_neg (by omega), p1] at hf
  unfold baseR
  cases hr : rowAt rs n with
  | none =>
    rw [hr] at hf
    simp at hf
    exact ⟨.inl hf, by show (0 : Nat) < 256; decide⟩
  | some r =>
    rw [hr] at hf
    have := a6 r hr
    refine ⟨.inr rfl, ?_⟩
    dsimp only at hf ⊢
    by_cases c : r.epoch = ep
    · rw [if_pos c]
      rw [if_neg (by omega), if_neg (by omega)] at hf
      simpa using hf
    · rw [if_neg c]; show (0 : Nat) < 256; decide

end Go.Proofs.Ythnajmfbomedlaa
