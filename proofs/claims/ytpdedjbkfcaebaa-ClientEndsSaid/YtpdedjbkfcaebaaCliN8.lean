/- What a right client is behind an answer: right, and within bounds (mathematics). -/
import Derived.Test.YtpdedjbkfcaebaaCliN7
set_option linter.unusedVariables false
set_option linter.unusedSimpArgs false
namespace Go.Proofs.Ytpdedjbkfcaebaa
open Go.RowKit Copyhold
theorem meant_says {x : Cli} {r : Rsp} (h : meantD x r = true) : r.client = x.me ∧ r.epoch = x.epoch ∧ r.seq = x.seq ∧ (sayD x).2 = true ∧ ((r.kind = 5 ∧ (asksD x).2 = true) ∨ (r.kind ≠ 5 ∧ r.kind = (sayD x).1.kind ∧ (r.kind = 2 → r.n = (sayD x).1.n ∨ r.n = -1))) := by
  revert h; unfold meantD
  repeat' split
  all_goals intro h
  all_goals first | (cases h; done) | skip
  · rename_i h1 h2 h3
    exact ⟨by omega, by omega, by omega, by simpa using h2, .inl ⟨h3, h⟩⟩
  · rename_i h1 h2 h3 h4
    exact ⟨by omega, by omega, by omega, by simpa using h2, .inr ⟨h3, by simpa using h, fun hk => by omega⟩⟩
theorem asks_phase {x : Cli} (h : (asksD x).2 = true) : x.phase = 0 ∨ x.phase = 1 ∨ x.phase = 2 := by
  revert h; unfold asksD; split
  · intro _; assumption
  · intro h; cases h
theorem over_right {x : Cli} (h : RightP x) (hp : x.phase = 0 ∨ x.phase = 1 ∨ x.phase = 2) (yes : Bool) (e : Int) : RightP (overD x yes e) := by
  obtain ⟨h1, h2, h3, h4, h5, h6, h7⟩ := h
  unfold RT at h6
  refine ⟨h1, h2, h3, rfl, ?_, ?_, .inr (.inr ⟨by show (3 : Int) ≠ 1; omega, by show (3 : Int) ≠ 2; omega, rfl, rfl⟩)⟩
  · intro i hi
    simp only [overD] at hi ⊢
    rw [List.length_append] at hi
    by_cases hl : i < x.told.length
    · rw [List.getElem_append_left hl]; exact h5 i hl
    · have : i = x.told.length := by simp at hi; omega
      subst this
      rw [List.getElem_append_right (by omega)]
      simp [doneD]; omega
  · refine .inl ⟨rfl, ?_, ?_⟩
    · simp [overD]; omega
    · simp [overD]; omega
theorem begun_right {x : Cli} (h : RightP x) (hp : x.phase = 0) (a : Int) : RightP { stampD x a with phase := onwardD (stampD x a) } := by
  obtain ⟨h1, h2, h3, h4, h5, h6, h7⟩ := h
  unfold RT at h6
  unfold RC at h7
  have ho : onwardD (stampD x a) = 2 ∧ x.n = ((jobOf x).length : Int) ∨ onwardD (stampD x a) = 1 ∧ x.n < ((jobOf x).length : Int) := by
    have hj : jobOf (stampD x a) = jobOf x := rfl
    have hn : (stampD x a).n = x.n := rfl
    unfold onwardD
    rw [hj, hn]
    split <;> omega
  refine ⟨h1, h2, h3, h4, h5, .inr (.inr ⟨?_, ?_, ?_⟩), ?_⟩
  · show onwardD _ = 0 ∨ onwardD _ = 1 ∨ onwardD _ = 2; omega
  · show (x.told.length : Int) = x.seq - 1; omega
  · show (x.told.length : Int) < x.jobs.length; omega
  · rcases ho with ho | ho
    · exact .inr (.inl ⟨ho.1, ho.2⟩)
    · exact .inl ⟨ho.1, ho.2⟩
theorem called_right {x : Cli} (h : RightP x) (hp : x.phase = 1) (q : Rep) : RightP { nowD x q with phase := onwardD (nowD x q) } := by
  obtain ⟨h1, h2, h3, h4, h5, h6, h7⟩ := h
  unfold RT at h6
  unfold RC at h7
  have ho : onwardD (nowD x q) = 2 ∧ x.n + 1 = ((jobOf x).length : Int) ∨ onwardD (nowD x q) = 1 ∧ x.n + 1 < ((jobOf x).length : Int) := by
    have hj : jobOf (nowD x q) = jobOf x := rfl
    have hn : (nowD x q).n = x.n + 1 := rfl
    unfold onwardD
    rw [hj, hn]
    split <;> omega
  refine ⟨h1, h2, h3, ?_, h5, .inr (.inr ⟨?_, ?_, ?_⟩), ?_⟩
  · simp [nowD]; omega
  · show onwardD _ = 0 ∨ onwardD _ = 1 ∨ onwardD _ = 2; omega
  · show (x.told.length : Int) = x.seq - 1; omega
  · show (x.told.length : Int) < x.jobs.length; omega
  · rcases ho with ho | ho
    · exact .inr (.inl ⟨ho.1, ho.2⟩)
    · exact .inl ⟨ho.1, ho.2⟩
theorem ack_right {x : Cli} (r : Rsp) (h : RightP x) (hp : x.phase = 3) : RightP (ackD x r) := by
  obtain ⟨h1, h2, h3, h4, h5, h6, h7⟩ := h
  unfold RT at h6
  by_cases hc : (x.jobs.length : Int) < x.seq + 1
  · have ha : ackD x r = { x with seq := x.seq + 1, phase := 4, n := 0, stamp := 0, now := [] } := by unfold ackD; rw [if_pos hc]
    rw [ha]
    refine ⟨h1, h2, by show 1 ≤ x.seq + 1; omega, rfl, h5, .inr (.inl ⟨rfl, ?_, ?_⟩), .inr (.inr ⟨by show (4 : Int) ≠ 1; omega, by show (4 : Int) ≠ 2; omega, rfl, rfl⟩)⟩
    · show (x.told.length : Int) = x.seq + 1 - 1; omega
    · show (x.told.length : Int) = x.jobs.length; omega
  · have ha : ackD x r = { x with seq := x.seq + 1, phase := 0, n := 0, stamp := 0, now := [] } := by unfold ackD; rw [if_neg hc]
    rw [ha]
    refine ⟨h1, h2, by show 1 ≤ x.seq + 1; omega, rfl, h5, .inr (.inr ⟨.inl rfl, ?_, ?_⟩), .inr (.inr ⟨by show (0 : Int) ≠ 1; omega, by show (0 : Int) ≠ 2; omega, rfl, rfl⟩)⟩
    · show (x.told.length : Int) = x.seq + 1 - 1; omega
    · show (x.told.length : Int) < x.jobs.length; omega
inductive Way (x : Cli) (r : Rsp) : Cli → Prop
  | same : Way x r x
  | begun (hk : r.kind = 1) (hp : x.phase = 0) (he : r.r.e = 0) : Way x r { stampD x r.r.a with phase := onwardD (stampD x r.r.a) }
  | over (yes : Bool) (hp : x.phase = 0 ∨ x.phase = 1 ∨ x.phase = 2) (hy : yes = true ↔ ((r.kind = 3 ∨ r.kind = 5) ∧ r.r.e = 0)) (h6 : r.kind ≠ 6) : Way x r (overD x yes r.r.e)
  | called (hk : r.kind = 2) (hp : x.phase = 1) (hn : r.n = x.n + 1) : Way x r { nowD x r.r with phase := onwardD (nowD x r.r) }
  | ack (hk : r.kind = 6) (hp : x.phase = 3) (hq : r.seq = x.seq) : Way x r (ackD x r)
theorem hear_way {x : Cli} {r : Rsp} : Way x r (hearD x r) := by
  unfold hearD
  split
  · exact .same
  rename_i hm
  obtain ⟨_, _, hseq, hs, hk⟩ := meant_says (by simpa using hm)
  have hsk := say_kind hs
  have hph : r.kind = 5 → x.phase = 0 ∨ x.phase = 1 ∨ x.phase = 2 := fun h => by
    rcases hk with hk | hk
    · exact asks_phase hk.2
    · exact absurd h hk.1
  have hkk : r.kind ≠ 5 → r.kind = (sayD x).1.kind ∧ (r.kind = 2 → r.n = (sayD x).1.n ∨ r.n = -1) := fun h => by
    rcases hk with hk | hk
    · exact absurd hk.1 h
    · exact hk.2
  split
  · rename_i h1
    have := hkk (by omega)
    unfold begunD
    split
    · rename_i he; exact .begun h1 (by omega) he
    · split
      · exact .same
      · exact .over false (by omega) ⟨(fun h => by cases h), (fun h => by omega)⟩ (by omega)
  · split
    · rename_i h2
      have h3 := hkk (by omega)
      have h4 := h3.2 h2
      unfold calledD
      split
      · exact .over false (by omega) ⟨(fun h => by cases h), (fun h => by omega)⟩ (by omega)
      · exact .called h2 (by omega) (by omega)
    · split
      · rename_i h3
        have : x.phase = 0 ∨ x.phase = 1 ∨ x.phase = 2 := by
          rcases h3 with h3 | h3
          · have := hkk (by omega); omega
          · exact hph h3
        unfold decidedD
        split
        · exact .same
        · exact .over _ this ⟨fun h => ⟨h3, of_decide_eq_true h⟩, fun h => decide_eq_true h.2⟩ (by omega)
      · split
        · rename_i h6
          have := hkk (by omega)
          exact .ack h6 (by omega) (by omega)
        · exact .same
theorem hear_right {x : Cli} {r : Rsp} (h : RightP x) : RightP (hearD x r) := by
  have hw := hear_way (x := x) (r := r)
  revert hw
  generalize hearD x r = y
  intro hw
  cases hw with
  | same => exact h
  | begun hk hp he => exact begun_right h hp _
  | over yes hp hy h6 => exact over_right h hp _ _
  | called hk hp hn => exact called_right h hp _
  | ack hk hp hq => exact ack_right r h hp
def Fit (B : Nat) (x : Cli) : Prop := OkX x ∧ RightP x ∧ x.told.length ≤ B ∧ x.now.length ≤ B
theorem i64z : I64 0 := ⟨by omega, by omega⟩
theorem onward_i64 (x : Cli) : I64 (onwardD x) := by unfold onwardD; split <;> exact ⟨by omega, by omega⟩
theorem Fit.seq {B : Nat} {x : Cli} (h : Fit B x) : 1 ≤ x.seq ∧ x.seq ≤ B + 1 := by
  obtain ⟨_, ⟨h1, h2, h3, h4, h5, h6, h7⟩, ht, hn⟩ := h
  unfold RT at h6
  omega
theorem Fit.n {B : Nat} {x : Cli} (h : Fit B x) : 0 ≤ x.n ∧ x.n ≤ B := by
  obtain ⟨_, ⟨h1, h2, h3, h4, h5, h6, h7⟩, ht, hn⟩ := h
  omega
theorem hear_fit {B : Nat} {x : Cli} {r : Rsp} (h : Fit B x) (hB : B ≤ 100000) (hr : OkRsp r) : Fit (B + 1) (hearD x r) := by
  have hs := h.seq
  have hn := h.n
  have hw := hear_way (x := x) (r := r)
  have hR := hear_right (r := r) h.2.1
  revert hw hR
  generalize hearD x r = y
  intro hw hR
  obtain ⟨⟨⟨⟨i1, i2, i3, i4, i5, i6⟩, j1, j2, j3⟩, o1, o2, o3⟩, hr0, ht, hno⟩ := h
  have e4 : I64 4 := ⟨by omega, by omega⟩
  have e3 : I64 3 := ⟨by omega, by omega⟩
  have es : I64 (x.seq + 1) := ⟨by omega, by omega⟩
  have en : I64 (x.n + 1) := ⟨by omega, by omega⟩
  cases hw with
  | same => exact ⟨⟨⟨⟨i1, i2, i3, i4, i5, i6⟩, j1, j2, j3⟩, o1, o2, o3⟩, hR, by omega, by omega⟩
  | begun hk hp he => exact ⟨⟨⟨⟨i1, i2, i3, onward_i64 _, i5, hr.2.1.2.1⟩, j1, j2, j3⟩, o1, o2, o3⟩, hR, by show x.told.length ≤ _; omega, by show x.now.length ≤ _; omega⟩
  | over yes hp hy h6 =>
    refine ⟨⟨⟨⟨i1, i2, i3, e3, i64z, i64z⟩, j1, ?_, ?_⟩, o1, ?_, ?_⟩, hR, ?_, ?_⟩
    · simp [overD]; omega
    · simp [overD]
    · intro d hd
      simp only [overD, List.mem_append, List.mem_singleton] at hd
      rcases hd with hd | rfl
      · exact o2 d hd
      · exact ⟨i3, hr.2.1.1, by show x.now.length ≤ _; omega, o3⟩
    · intro d hd; simp [overD] at hd
    · simp [overD]; omega
    · simp [overD]
  | called hk hp hn2 =>
    refine ⟨⟨⟨⟨i1, i2, i3, onward_i64 _, en, i6⟩, j1, j2, ?_⟩, o1, o2, ?_⟩, hR, by show x.told.length ≤ _; omega, ?_⟩
    · simp [nowD]; omega
    · intro d hd
      simp only [nowD, List.mem_append, List.mem_singleton] at hd
      rcases hd with hd | rfl
      · exact o3 d hd
      · exact hr.2
    · simp [nowD]; omega
  | ack hk hp hq =>
    have hph : I64 (ackD x r).phase := by unfold ackD; simp only; split <;> first | exact e4 | exact i64z
    exact ⟨⟨⟨⟨i1, i2, es, hph, i64z, i64z⟩, j1, j2, by show (0 : Nat) ≤ _; omega⟩, o1, o2, fun d hd => by cases hd⟩, hR, by show x.told.length ≤ _; omega, by show (0 : Nat) ≤ _; omega⟩
theorem fhear_spec {B : Nat} {x : Cli} {r : Rsp} (h : Fit B x) (hB : B ≤ 900) : FSpec Try.prog 17 [.agg (cliA x), .agg (rspA r)] (.agg (cliA (hearD x r))) :=
  have h1 := h.seq; have h2 := h.n; have h3 := h.2.2
  hear_spec x r h.1 h.2.1 (by omega) (by omega) (by omega) (by omega) (by omega) (by omega)
theorem fsay_spec {B : Nat} {x : Cli} (h : Fit B x) (hB : B ≤ 900) : FSpec Try.prog 12 [.agg (cliA x)] (.tup [.agg (msgA (sayD x).1), aB (sayD x).2]) := say_spec x h.1 h.2.1 (by have := h.2.2; omega)
theorem new_right {me ep : Int} {jobs : List (List Cal)} (h : ¬ (me < 0 ∨ ep < 1)) : RightP (newD me ep jobs).1 := by
  unfold newD
  rw [if_neg h]
  by_cases hj : jobs.length = 0
  · rw [if_pos hj]
    refine ⟨by show 0 ≤ me; omega, by show 1 ≤ ep; omega, by show (1 : Int) ≤ 1; omega, rfl, fun i hi => absurd hi (Nat.not_lt_zero _), .inr (.inl ⟨rfl, rfl, by show (0 : Int) = (jobs.length : Int); omega⟩), .inr (.inr ⟨by show (4 : Int) ≠ 1; omega, by show (4 : Int) ≠ 2; omega, rfl, rfl⟩)⟩
  · rw [if_neg hj]
    refine ⟨by show 0 ≤ me; omega, by show 1 ≤ ep; omega, by show (1 : Int) ≤ 1; omega, rfl, fun i hi => absurd hi (Nat.not_lt_zero _), .inr (.inr ⟨.inl rfl, rfl, by show (0 : Int) < (jobs.length : Int); omega⟩), .inr (.inr ⟨by show (0 : Int) ≠ 1; omega, by show (0 : Int) ≠ 2; omega, rfl, rfl⟩)⟩
theorem new_ok {me ep : Int} {jobs : List (List Cal)} (hm : I64 me) (he : I64 ep) (hl : jobs.length ≤ 8796093022207) (hj : ∀ j ∈ jobs, OkJob j) : OkX (newD me ep jobs).1 := by
  have e1 : I64 1 := ⟨by omega, by omega⟩
  have e4 : I64 4 := ⟨by omega, by omega⟩
  unfold newD
  split
  · exact ⟨⟨⟨i64z, i64z, i64z, i64z, i64z, i64z⟩, by show (0 : Nat) ≤ _; omega, by show (0 : Nat) ≤ _; omega, by show (0 : Nat) ≤ _; omega⟩, (fun d hd => by cases hd), (fun d hd => by cases hd), (fun d hd => by cases hd)⟩
  · refine ⟨⟨⟨hm, he, e1, ?_, i64z, i64z⟩, hl, by show (0 : Nat) ≤ _; omega, by show (0 : Nat) ≤ _; omega⟩, hj, (fun d hd => by cases hd), (fun d hd => by cases hd)⟩
    show I64 (if jobs.length = 0 then 4 else 0)
    split <;> first | exact e4 | exact i64z
theorem new_fit {me ep : Int} {jobs : List (List Cal)} (h : ¬ (me < 0 ∨ ep < 1)) (hm : I64 me) (he : I64 ep) (hl : jobs.length ≤ 8796093022207) (hj : ∀ j ∈ jobs, OkJob j) : Fit 0 (newD me ep jobs).1 := by
  refine ⟨new_ok hm he hl hj, new_right h, ?_, ?_⟩ <;> (unfold newD; rw [if_neg h]; exact Nat.le_refl _)
theorem Fit.mono {B B' : Nat} {x : Cli} (h : Fit B x) (hb : B ≤ B') : Fit B' x := ⟨h.1, h.2.1, by have := h.2.2; omega, by have := h.2.2; omega⟩
theorem hear_me (x : Cli) (r : Rsp) : (hearD x r).me = x.me ∧ (hearD x r).epoch = x.epoch ∧ ((hearD x r).seq = x.seq ∨ (hearD x r).seq = x.seq + 1) := by
  have hw := hear_way (x := x) (r := r)
  revert hw
  generalize hearD x r = y
  intro hw
  cases hw <;> simp [stampD, nowD, overD, ackD]
theorem few_jobs {x : Cli} (h : fewB x = true) : x.jobs.length ≤ 20 ∧ ∀ j ∈ x.jobs, j.length ≤ 30 := by
  unfold fewB at h
  simp only [decide_eq_true_eq] at h
  refine ⟨h.1, fun j hj => ?_⟩
  have := h.2.2.2.1 j hj
  unfold smallB at this
  simp only [decide_eq_true_eq] at this
  exact this.2
end Go.Proofs.Ytpdedjbkfcaebaa
