/- A client whose every message is answered OK: a step nearer to its end each time (mathematics). slices.Clone of calls and client.New, whatever their length; ClientEnds over data. -/
import Derived.Test.YtpdedjbkfcaebaaCliN9
import Derived.Test.YtpdedjbkfcaebaaVcM
set_option linter.unusedVariables false
set_option linter.unusedSimpArgs false
namespace Go.Proofs.Ytpdedjbkfcaebaa
open Go.RowKit Copyhold
def laterS (l : List (List Cal)) (i : Nat) : Nat := ((l.drop i).map fun j => j.length + 3).sum
theorem laterS_step {l : List (List Cal)} {i : Nat} {j : List Cal} (h : l[i]? = some j) : laterS l i = j.length + 3 + laterS l (i + 1) := by
  obtain ⟨hi, rfl⟩ := List.getElem?_eq_some_iff.1 h
  unfold laterS
  rw [List.drop_eq_getElem_cons hi, List.map_cons, List.sum_cons]
theorem laterS_end {l : List (List Cal)} {i : Nat} (h : l.length ≤ i) : laterS l i = 0 := by
  unfold laterS
  rw [List.drop_eq_nil_of_le h]
  rfl
def leftD (c : Cli) : Nat :=
  if c.phase = 0 then laterS c.jobs (c.seq - 1).toNat
  else if c.phase = 1 then (jobOf c).length - c.n.toNat + 2 + laterS c.jobs c.seq.toNat
  else if c.phase = 2 then 2 + laterS c.jobs c.seq.toNat
  else if c.phase = 3 then 1 + laterS c.jobs c.seq.toNat
  else 0
def AllYes (c : Cli) : Prop := ∀ (k : Nat) (d : Don), c.told[k]? = some d → d.yes = true ∧ ∃ j : List Cal, c.jobs[k]? = some j ∧ d.l.length = j.length
def okR (c : Cli) : Rsp := ⟨(sayD c).1.kind, c.me, c.epoch, (sayD c).1.seq, (sayD c).1.n, rep0⟩
def nextC (c : Cli) : Cli := hearD c (okR c)
theorem job_at {c : Cli} (hr : RightP c) (hp : c.phase = 0 ∨ c.phase = 1 ∨ c.phase = 2) : c.jobs[(c.seq - 1).toNat]? = some (jobOf c) ∧ (c.seq - 1).toNat = c.told.length ∧ (c.seq - 1).toNat + 1 = c.seq.toNat := by
  obtain ⟨h1, h2, h3, h4, _, h6, h7⟩ := hr
  unfold RT at h6
  refine ⟨?_, by omega, by omega⟩
  rw [jobOf_some (c := c) (c.seq - 1).toNat (by omega) (by omega)]
  exact List.getElem?_eq_getElem _
theorem ends_meant {c : Cli} (hr : RightP c) (hp : c.phase ≠ 4) : (sayD c).2 = true ∧ meantD c (okR c) = true ∧ ((c.phase = 0 ∧ (okR c).kind = 1) ∨ (c.phase = 1 ∧ (okR c).kind = 2 ∧ (okR c).n = c.n + 1) ∨ (c.phase = 2 ∧ (okR c).kind = 3) ∨ (c.phase = 3 ∧ (okR c).kind = 6)) := by
  have hph := right_phase hr
  have hs : (sayD c).2 = true ∧ (sayD c).1.seq = c.seq := by
    unfold sayD
    rcases hph with h | h | h | h | h
    · rw [if_pos h]; exact ⟨rfl, rfl⟩
    · rw [if_neg (by omega), if_pos h]; exact ⟨rfl, rfl⟩
    · rw [if_neg (by omega), if_neg (by omega), if_pos h]; exact ⟨rfl, rfl⟩
    · rw [if_neg (by omega), if_neg (by omega), if_neg (by omega), if_pos h]; exact ⟨rfl, rfl⟩
    · exact absurd h hp
  have hk := say_kind hs.1
  have e1 : (okR c).kind = (sayD c).1.kind := rfl
  have e2 : (okR c).n = (sayD c).1.n := rfl
  have e3 : (okR c).seq = (sayD c).1.seq := rfl
  have e4 : (okR c).client = c.me := rfl
  have e5 : (okR c).epoch = c.epoch := rfl
  refine ⟨hs.1, ?_, by omega⟩
  unfold meantD
  rw [if_neg (by omega), if_neg (by rw [hs.1]; simp), if_neg (by omega), if_neg (by omega)]
  exact decide_eq_true e1
theorem ends_step {c : Cli} (hr : RightP c) (hy : AllYes c) (hp : c.phase ≠ 4) :
    RightP (nextC c) ∧ AllYes (nextC c) ∧ leftD c = leftD (nextC c) + 1 ∧ (nextC c).jobs = c.jobs := by
  obtain ⟨hs, hm, hk⟩ := ends_meant hr hp
  refine ⟨hear_right hr, ?_⟩
  have hn0 : (c.now.length : Int) = c.n := hr.2.2.2.1
  have hseq : 1 ≤ c.seq := hr.2.2.1
  have he : (okR c).r.e = 0 := rfl
  have hRT := hr.2.2.2.2.2.1
  have hRC := hr.2.2.2.2.2.2
  unfold RT at hRT
  unfold RC at hRC
  unfold nextC hearD
  rw [hm, if_neg (by simp)]
  rcases hk with ⟨h0, k0⟩ | ⟨h1, k1, n1⟩ | ⟨h2, k2⟩ | ⟨h3, k3⟩
  · obtain ⟨j1, j2, j3⟩ := job_at hr (.inl h0)
    rw [if_pos k0]
    unfold begunD
    rw [if_pos he]
    refine ⟨hy, ?_, rfl⟩
    have hl := laterS_step j1
    have e1 : leftD c = laterS c.jobs (c.seq - 1).toNat := by unfold leftD; rw [if_pos h0]
    rw [e1, hl, j3]
    have ho : onwardD (stampD c (okR c).r.a) = if c.n = ((jobOf c).length : Int) then 2 else 1 := rfl
    generalize hq : onwardD (stampD c (okR c).r.a) = ph at ho
    have ej : jobOf { stampD c (okR c).r.a with phase := ph } = jobOf c := rfl
    unfold leftD
    simp only [ej]
    show _ = (if ph = 0 then laterS c.jobs (c.seq - 1).toNat else if ph = 1 then (jobOf c).length - c.n.toNat + 2 + laterS c.jobs c.seq.toNat else if ph = 2 then 2 + laterS c.jobs c.seq.toNat else if ph = 3 then 1 + laterS c.jobs c.seq.toNat else 0) + 1
    by_cases hz : c.n = ((jobOf c).length : Int)
    · rw [if_pos hz] at ho; subst ho
      rw [if_neg (by omega), if_neg (by omega), if_pos rfl]; omega
    · rw [if_neg hz] at ho; subst ho
      rw [if_neg (by omega), if_pos rfl]; omega
  · obtain ⟨j1, j2, j3⟩ := job_at hr (.inr (.inl h1))
    rw [if_neg (by omega), if_pos k1]
    unfold calledD
    rw [if_neg (by omega)]
    refine ⟨hy, ?_, rfl⟩
    have e1 : leftD c = (jobOf c).length - c.n.toNat + 2 + laterS c.jobs c.seq.toNat := by unfold leftD; rw [if_neg (by omega), if_pos h1]
    rw [e1]
    have ho : onwardD (nowD c (okR c).r) = if c.n + 1 = ((jobOf c).length : Int) then 2 else 1 := rfl
    generalize hq : onwardD (nowD c (okR c).r) = ph at ho
    have ej : jobOf { nowD c (okR c).r with phase := ph } = jobOf c := rfl
    unfold leftD
    simp only [ej]
    show _ = (if ph = 0 then laterS c.jobs (c.seq - 1).toNat else if ph = 1 then (jobOf c).length - (c.n + 1).toNat + 2 + laterS c.jobs c.seq.toNat else if ph = 2 then 2 + laterS c.jobs c.seq.toNat else if ph = 3 then 1 + laterS c.jobs c.seq.toNat else 0) + 1
    by_cases hz : c.n + 1 = ((jobOf c).length : Int)
    · rw [if_pos hz] at ho; subst ho
      rw [if_neg (by omega), if_neg (by omega), if_pos rfl]; omega
    · rw [if_neg hz] at ho; subst ho
      rw [if_neg (by omega), if_pos rfl]; omega
  · obtain ⟨j1, j2, j3⟩ := job_at hr (.inr (.inr h2))
    rw [if_neg (by omega), if_neg (by omega), if_pos (.inl k2)]
    unfold decidedD
    rw [if_neg (by omega)]
    refine ⟨?_, ?_, rfl⟩
    · intro k d hd
      simp only [overD] at hd ⊢
      by_cases hl : k < c.told.length
      · rw [List.getElem?_append_left hl] at hd; exact hy k d hd
      · rw [List.getElem?_append_right (by omega)] at hd
        obtain ⟨h7, h8⟩ := List.getElem?_eq_some_iff.1 hd
        have hkk : k = c.told.length := by simp at h7; omega
        subst hkk
        simp only [Nat.sub_self, List.getElem_cons_zero] at h8
        subst h8
        exact ⟨decide_eq_true he, jobOf c, by rw [← j2]; exact j1, by show c.now.length = _; omega⟩
    · have e1 : leftD c = 2 + laterS c.jobs c.seq.toNat := by unfold leftD; rw [if_neg (by omega), if_neg (by omega), if_pos h2]
      rw [e1]
      show _ = (1 + laterS c.jobs c.seq.toNat) + 1
      omega
  · rw [if_neg (by omega), if_neg (by omega), if_neg (by omega), if_pos k3]
    refine ⟨hy, ?_, rfl⟩
    have e1 : leftD c = 1 + laterS c.jobs c.seq.toNat := by unfold leftD; rw [if_neg (by omega), if_neg (by omega), if_neg (by omega), if_pos h3]
    rw [e1]
    by_cases hc : (c.jobs.length : Int) < c.seq + 1
    · have ha : ackD c (okR c) = { c with seq := c.seq + 1, phase := 4, n := 0, stamp := 0, now := [] } := by unfold ackD; rw [if_pos hc]
      rw [ha, laterS_end (by omega)]
      rfl
    · have ha : ackD c (okR c) = { c with seq := c.seq + 1, phase := 0, n := 0, stamp := 0, now := [] } := by unfold ackD; rw [if_neg hc]
      rw [ha]
      show _ = laterS c.jobs (c.seq + 1 - 1).toNat + 1
      rw [show c.seq + 1 - 1 = c.seq by omega]
      omega
theorem ends_zero {c : Cli} (hr : RightP c) (h : leftD c = 0) : c.phase = 4 := by
  have hph := right_phase hr
  unfold leftD at h
  rcases hph with h0 | h0 | h0 | h0 | h0
  · rw [if_pos h0] at h
    have := laterS_step (job_at hr (.inl h0)).1
    omega
  · rw [if_neg (by omega), if_pos h0] at h; omega
  · rw [if_neg (by omega), if_neg (by omega), if_pos h0] at h; omega
  · rw [if_neg (by omega), if_neg (by omega), if_neg (by omega), if_pos h0] at h; omega
  · exact h0
end Go.Proofs.Ytpdedjbkfcaebaa

set_option linter.unusedVariables false
set_option linter.unusedSimpArgs false
namespace Go.Proofs.Ytpdedjbkfcaebaa
open Go.RowKit Copyhold
set_option maxRecDepth 100000 in
set_option maxHeartbeats 4000000 in
theorem cloneE_spec (xs : List (List AV)) (hl : xs.length * 88 ≤ 140737488351232) : FSpec Try.prog 43 [.sl 8 false xs] (.sl 8 false xs) := by
  exact spec_vc (F := Try.f43) 400 (
 .r 1 <| .r 1 <| .isNil xs fun b1 hnb1 =>
 .br 4 (b1) (fun q1 => have p1 := booT q1; .r 1 <| .fin (x := aN) (r := .sl 8 false xs) [] trivial (by
    rw [hnb1 (by assumption)]
    exact Sub.nil _ _))
 <| fun q1 => have p1 := booF q1; .lit0 fun V1 => .r 1 <| .app 88 V1 ([] : List (List AV)) xs (by simp <;> omega) (by simp <;> omega) fun V2 =>
 .r 1 <| .frz 5 [2] [] [V2 = V2, ([] : List (List AV)).length + xs.length = (([] : List (List AV)) ++ xs).length] ⟨rfl, (by first | rfl | (simp; done) | (simp; omega)), trivial⟩ <|
 .fin (x := .sl 8 false (([] : List (List AV)) ++ xs)) (r := .sl 8 false xs) [] trivial (by exact Sub.of_eq (by simp))) Try.func43 rfl (by kernel_rfl) (by kernel_rfl)
set_option maxRecDepth 100000 in
set_option maxHeartbeats 4000000 in
theorem newE_spec (me ep : Int) (jobs : List (List Cal)) (hl : jobs.length * 24 ≤ 140737488351232) (hj : ∀ j ∈ jobs, j.length * 88 ≤ 140737488351232) : FSpec Try.prog 21 [aI me, aI ep, .sl 1 false (jobs.map jobA)] (.tup [.agg (cliA (newD me ep jobs).1), aI (newD me ep jobs).2]) := by
  exact spec_vc (F := Try.f21) 400 (
 .new fun b1 => .r 1 <| .r 3 <| .br 13 (decide (me < 0)) (fun q1 => have p1 := decT q1; .r 3 <| .run 3 [b1 = b1] ⟨rfl, trivial⟩ <|
 .fin (x := .tup [.agg [aI 0, aI 0, aI 0, aN, aI 0, aI 0, aI 0, aN, aN], aI 1]) (r := .tup [.agg (cliA (newD me ep jobs).1), aI (newD me ep jobs).2]) [b1 = b1] ⟨rfl, trivial⟩ (by
    rw [show newD me ep jobs = _ from if_pos (by omega)]
    exact Sub.tups ⟨Sub.aggs ⟨Sub.refl _, Sub.refl _, Sub.refl _, Sub.nil _ _, Sub.refl _, Sub.refl _, Sub.refl _, Sub.nil _ _, Sub.nil _ _, trivial⟩, Sub.refl _, trivial⟩))
 <| fun q1 => have p1 := decF q1; .r 3 <| .br 16 (decide (ep < 1)) (fun q2 => have p2 := decT q2; .run 3 [b1 = b1] ⟨rfl, trivial⟩ <|
 .fin (x := .tup [.agg [aI 0, aI 0, aI 0, aN, aI 0, aI 0, aI 0, aN, aN], aI 1]) (r := .tup [.agg (cliA (newD me ep jobs).1), aI (newD me ep jobs).2]) [b1 = b1] ⟨rfl, trivial⟩ (by
    rw [show newD me ep jobs = _ from if_pos (by omega)]
    exact Sub.tups ⟨Sub.aggs ⟨Sub.refl _, Sub.refl _, Sub.refl _, Sub.nil _ _, Sub.refl _, Sub.refl _, Sub.refl _, Sub.nil _ _, Sub.nil _ _, trivial⟩, Sub.refl _, trivial⟩))
 <| fun q2 => have p2 := decF q2; .r 3 <| .new fun b2 => .run 1 [b2 = b2] ⟨rfl, trivial⟩ <|
 .rowNilB 100 8 3 51 1 <| .r 2 <| .val 22 (show (aI ((jobs.map jobA).length : Int) : AV) = aI (jobs.length : Int) from by rw [List.length_map]) <| .r 1 <| let L1 : Lp (Nat × Value) := ⟨fun a1 => ⟨[(2, .sl 1 false (jobs.map jobA)), (6, .ptr 6 b1 0), (8, .ptr 8 b2 0), (21, .sl 1 false (jobs.map jobA)), (22, aI (jobs.length : Int)), (23, aI (a1.1 : Int))], [(6, .box b1 26 [aI 0, aI 0, aI 0, aN, aI 0, aI 0, aI 0, aN, aN]), (8, .box b2 26 [aI me, aI ep, aI 1, .rw 100 a1.2 a1.1, aI 0, aI 0, aI 0, aN, aN]), (100, .row a1.2 51 1 ((jobs.take a1.1).map jobA))]⟩, fun a1 => jobs.length - a1.1, fun a1 => a1.1 ≤ jobs.length⟩
 .loop L1 (0, .slice none 0 0) (show 0 ≤ jobs.length from Nat.zero_le _) ⟨[(2, .sl 1 false (jobs.map jobA)), (6, .ptr 6 b1 0), (8, .ptr 8 b2 0), (21, .sl 1 false (jobs.map jobA)), (22, aI (jobs.length : Int)), (23, aI 0)], [(6, .box b1 26 [aI 0, aI 0, aI 0, aN, aI 0, aI 0, aI 0, aN, aN]), (8, .box b2 26 [aI me, aI ep, aI 1, .rw 100 (.slice none 0 0) 0, aI 0, aI 0, aI 0, aN, aN]), (100, .row (.slice none 0 0) 51 1 ([]))]⟩ ⟨Sub.refl _, Sub.refl _, Sub.refl _, Sub.refl _, Sub.refl _, Sub.of_eq (congrArg aI (by first | omega | rfl)), trivial⟩ ⟨⟨_, rfl, SubB.refl _⟩, ⟨_, rfl, SubB.refl _⟩, ⟨_, rfl, SubB.refl _⟩, trivial⟩ fun a1 ha1 =>
 (fun (k : Nat) (V : Value) (hH1 : k ≤ jobs.length) => .r 1 <| .br 24 (decide ((k : Int) < (jobs.length : Int))) (fun q3 => have p3 := decT q3; .idxM jobs jobA k (m := (k : Int)) rfl (by omega) fun x1 hx1 =>
 .r 2 <| .ord [0, 1, 2, 3, 4, 5, 6, 7] <| .run 3 [b2 = b2] ⟨rfl, trivial⟩ <|
 .call (cloneE_spec (x1.map calA) (by simp only [List.length_map]; exact hj _ (List.mem_of_getElem? hx1))) <|
 .r 1 <| .app 24 V ((jobs.take k).map jobA) ([[.sl 8 false (x1.map calA)]]) (by simp only [List.length_map, List.length_take, List.length_cons, List.length_nil]; omega) (by simp only [List.length_map, List.length_take, List.length_cons, List.length_nil]; omega) fun V1 =>
 .run 2 [b2 = b2] ⟨rfl, trivial⟩ <|
 .run 2 [rng .i64 ((k : Int) + 1)] ⟨rng64 (by omega) (by omega), trivial⟩ <|
 .back L1 (k, V) ((k + 1), V1) (show (k + 1) ≤ jobs.length from (by show _ ≤ _; omega)) (show jobs.length - (k + 1) < jobs.length - k from (by omega)) ⟨[(2, .sl 1 false (jobs.map jobA)), (6, .ptr 6 b1 0), (8, .ptr 8 b2 0), (21, .sl 1 false (jobs.map jobA)), (22, aI (jobs.length : Int)), (23, aI ((k : Int) + 1))], [(6, .box b1 26 [aI 0, aI 0, aI 0, aN, aI 0, aI 0, aI 0, aN, aN]), (8, .box b2 26 [aI me, aI ep, aI 1, .rw 100 V1 (((jobs.take k).map jobA).length + ([[.sl 8 false (x1.map calA)]] : List (List AV)).length), aI 0, aI 0, aI 0, aN, aN]), (100, .row V1 51 1 (((jobs.take k).map jobA) ++ ([[.sl 8 false (x1.map calA)]])))]⟩ ⟨Sub.refl _, Sub.refl _, Sub.refl _, Sub.refl _, Sub.refl _, Sub.of_eq (congrArg aI (by first | omega | rfl)), trivial⟩ ⟨⟨_, rfl, SubB.refl _⟩, ⟨_, rfl, SubB.boxs ⟨Sub.refl _, Sub.refl _, Sub.refl _, Sub.of_eq (congrArg (AV.rw 100 V1) (by simp; omega)), Sub.refl _, Sub.refl _, Sub.refl _, Sub.refl _, Sub.refl _, trivial⟩⟩, ⟨_, rfl, SubB.of_eq (by simp [List.take_add_one, hx1, jobA] <;> rfl)⟩, trivial⟩)
 <| fun q3 => have p3 := decF q3; .r 2 <| .val 36 (show (aI ((jobs.map jobA).length : Int) : AV) = aI (jobs.length : Int) from by rw [List.length_map]) <| .r 1 <| .br 37 ((jobs.length : Int) == 0) (fun q4 => have p4 := beqT q4; .run 2 [b2 = b2] ⟨rfl, trivial⟩ <|
 .run 3 [b2 = b2, b1 = b1] ⟨rfl, rfl, trivial⟩ <|
 .frz 100 [6, 7] [6] [V = V, k = ((jobs.take k).map jobA).length] ⟨rfl, (by first | rfl | (simp; done) | (simp; omega)), trivial⟩ <|
 .fin (x := .tup [.agg [aI me, aI ep, aI 1, .sl 1 false ((jobs.take k).map jobA), aI 4, aI 0, aI 0, aN, aN], aI 0]) (r := .tup [.agg (cliA (newD me ep jobs).1), aI (newD me ep jobs).2]) [b1 = b1] ⟨rfl, trivial⟩ (by
    rw [show newD me ep jobs = (⟨me, ep, 1, jobs, 4, 0, 0, [], []⟩, 0) from by unfold newD; rw [if_neg (by omega)]; rw [if_pos (by omega)]]
    exact Sub.tups ⟨Sub.aggs ⟨Sub.refl _, Sub.refl _, Sub.refl _, Sub.of_eq (by rw [List.take_of_length_le (by omega)]), Sub.refl _, Sub.refl _, Sub.refl _, Sub.nil _ _, Sub.nil _ _, trivial⟩, Sub.refl _, trivial⟩))
 <| fun q4 => have p4 := beqF q4; .run 3 [b2 = b2, b1 = b1] ⟨rfl, rfl, trivial⟩ <|
 .frz 100 [6, 7] [6] [V = V, k = ((jobs.take k).map jobA).length] ⟨rfl, (by first | rfl | (simp; done) | (simp; omega)), trivial⟩ <|
 .fin (x := .tup [.agg [aI me, aI ep, aI 1, .sl 1 false ((jobs.take k).map jobA), aI 0, aI 0, aI 0, aN, aN], aI 0]) (r := .tup [.agg (cliA (newD me ep jobs).1), aI (newD me ep jobs).2]) [b1 = b1] ⟨rfl, trivial⟩ (by
    rw [show newD me ep jobs = (⟨me, ep, 1, jobs, 0, 0, 0, [], []⟩, 0) from by unfold newD; rw [if_neg (by omega)]; rw [if_neg (by omega)]]
    exact Sub.tups ⟨Sub.aggs ⟨Sub.refl _, Sub.refl _, Sub.refl _, Sub.of_eq (by rw [List.take_of_length_le (by omega)]), Sub.refl _, Sub.refl _, Sub.refl _, Sub.nil _ _, Sub.nil _ _, trivial⟩, Sub.refl _, trivial⟩)) a1.1 a1.2 ha1) Try.func21 rfl (by kernel_rfl) (by kernel_rfl)
def EndH (me ep : Int) (jobs : List (List Cal)) (i : Nat) (c : Cli) : Prop := Fit i c ∧ AllYes c ∧ leftD c + i = laterS jobs 0 ∧ c.jobs = jobs ∧ c.me = me ∧ c.epoch = ep
theorem endH_new {me ep : Int} {jobs : List (List Cal)} (h : ¬ (me < 0 ∨ ep < 1)) (hm : I64 me) (he : I64 ep) (hl : jobs.length ≤ 8796093022207) (hj : ∀ j ∈ jobs, OkJob j) : EndH me ep jobs 0 (newD me ep jobs).1 := by
  have hf := new_fit h hm he hl hj
  have e : (newD me ep jobs).1 = ⟨me, ep, 1, jobs, if jobs.length = 0 then 4 else 0, 0, 0, [], []⟩ := by unfold newD; rw [if_neg h]
  rw [e] at hf ⊢
  refine ⟨hf, fun k d hd => by simp at hd, ?_, rfl, rfl, rfl⟩
  unfold leftD
  by_cases h0 : jobs.length = 0
  · simp only [h0, if_true]
    rw [laterS_end (l := jobs) (i := 0) (by omega)]
    simp
  · simp only [h0, if_false]
    rfl
theorem endH_go {me ep : Int} {jobs : List (List Cal)} {i : Nat} {c : Cli} (h : EndH me ep jobs i c) (hi : i < laterS jobs 0) (hB : laterS jobs 0 ≤ 900) : (sayD c).2 = true ∧ OkRsp (okR c) ∧ EndH me ep jobs (i + 1) (nextC c) := by
  obtain ⟨h1, h2, h3, h4, h5, h6⟩ := h
  have hp : c.phase ≠ 4 := fun hp => by
    unfold leftD at h3
    rw [hp] at h3
    simp at h3
    omega
  obtain ⟨g1, g2, g3, g4⟩ := ends_step h1.2.1 h2 hp
  have hs := (ends_meant h1.2.1 hp).1
  have hk := say_n h1 (by omega)
  have hsq : (sayD c).1.seq = c.seq := by
    have hph := right_phase h1.2.1
    unfold sayD
    rcases hph with h | h | h | h | h
    · rw [if_pos h]
    · rw [if_neg (by omega), if_pos h]
    · rw [if_neg (by omega), if_neg (by omega), if_pos h]
    · rw [if_neg (by omega), if_neg (by omega), if_neg (by omega), if_pos h]
    · exact absurd h hp
  have ho : OkRsp (okR c) := ⟨⟨hk.1, h1.1.1.1.1, h1.1.1.1.2.1, by show I64 (sayD c).1.seq; rw [hsq]; exact h1.1.1.1.2.2.1, hk.2⟩, rep0_ok⟩
  have hm := hear_me c (okR c)
  exact ⟨hs, ho, hear_fit h1 (by omega) ho, g2, by omega, g4.trans h4, hm.1.trans h5, hm.2.1.trans h6⟩
theorem endH_end {me ep : Int} {jobs : List (List Cal)} {i : Nat} {c : Cli} (h : EndH me ep jobs i c) (hi : laterS jobs 0 ≤ i) : (sayD c).2 = false ∧ c.told.length = jobs.length ∧ i = laterS jobs 0 := by
  obtain ⟨h1, h2, h3, h4, h5, h6⟩ := h
  have h0 := ends_zero h1.2.1 (by omega)
  have hRT := h1.2.1.2.2.2.2.2.1
  unfold RT at hRT
  refine ⟨?_, by rw [← h4]; omega, by omega⟩
  unfold sayD
  rw [if_neg (by omega), if_neg (by omega), if_neg (by omega), if_neg (by omega)]
theorem later_zero (jobs : List (List Cal)) : laterS jobs 0 = ((jobs.map fun j => j.length + 3)).sum := rfl
theorem later_few {jobs : List (List Cal)} (hl : jobs.length ≤ 20) (hj : ∀ j ∈ jobs, j.length ≤ 30) : laterS jobs 0 ≤ 660 := by
  have key : ∀ l : List (List Cal), (∀ j ∈ l, j.length ≤ 30) → (l.map fun j => j.length + 3).sum ≤ 33 * l.length := by
    intro l
    induction l with
    | nil => intro _; simp
    | cons a r ih =>
      intro h
      have h1 := h a (by simp)
      have h2 := ih fun j hj => h j (by simp [hj])
      simp only [List.map_cons, List.sum_cons, List.length_cons]
      omega
  have := key jobs hj
  rw [later_zero]
  omega
def sumK (jobs : List (List Cal)) (k : Nat) : Nat := ((jobs.take k).map fun j => j.length + 3).sum
theorem sumK_step {jobs : List (List Cal)} {k : Nat} {j : List Cal} (h : jobs[k]? = some j) : sumK jobs (k + 1) = sumK jobs k + (j.length + 3) := by
  unfold sumK; rw [List.take_add_one, h]; simp
theorem sumK_all {jobs : List (List Cal)} {k : Nat} (h : jobs.length ≤ k) : sumK jobs k = laterS jobs 0 := by unfold sumK; rw [List.take_of_length_le h]; rfl
theorem sumK_le (jobs : List (List Cal)) (k : Nat) : sumK jobs k ≤ laterS jobs 0 := by
  rw [later_zero]
  have h : (jobs.map fun j => j.length + 3).sum = ((jobs.take k).map fun j => j.length + 3).sum + ((jobs.drop k).map fun j => j.length + 3).sum := by
    rw [← List.sum_append, ← List.map_append, List.take_append_drop]
  unfold sumK
  omega
set_option maxRecDepth 100000 in
set_option maxHeartbeats 4000000 in
theorem clientEnds_spec (me ep : Int) (jobs : List (List Cal)) (hme : I64 me) (hep : I64 ep) (hl24 : jobs.length * 24 ≤ 140737488351232) (hj88 : ∀ j ∈ jobs, j.length * 88 ≤ 140737488351232) (ok : ∀ j ∈ jobs, OkJob j) : FSpec Try.prog 7 [aI me, aI ep, .sl 1 false (jobs.map jobA)] (aB true) := by
  have hl : jobs.length ≤ 8796093022207 := by omega
  exact spec_vc (F := Try.f7) 400 (
 .r 1 <| .call (shown_spec) <|
 .r 1 <| .r 3 <| .call (newE_spec me ep jobs hl24 hj88) <|
 .r 3 <| .new fun b1 => .run 2 [b1 = b1] ⟨rfl, trivial⟩ <|
 .r 2 <| .br 27 (((newD me ep jobs).2) != 0) (fun q1 => have p1 := bneT q1; .r 5 <| .br 32 (decide (me < 0)) (fun q2 => have p2 := decT q2; .r 5 <| .fin (x := aB true) (r := aB true) [] trivial (by exact Sub.of_eq (congrArg aB (by first | rfl | (refine decide_eq_true (Classical.byContradiction fun h => ?_); have e : (newD me ep jobs).2 = 0 := (by unfold newD; rw [if_neg (by omega)]); omega)))))
 <| fun q2 => have p2 := decF q2; .r 5 <| .fin (x := aB (decide (ep < 1))) (r := aB true) [] trivial (by exact Sub.of_eq (congrArg aB (by first | rfl | (refine decide_eq_true (Classical.byContradiction fun h => ?_); have e : (newD me ep jobs).2 = 0 := (by unfold newD; rw [if_neg (by omega)]); omega)))))
 <| fun q1 => have p1 := bneF q1; have hne : ¬ (me < 0 ∨ ep < 1) := (fun h => by have e : (newD me ep jobs).2 = 1 := (by unfold newD; rw [if_pos h]); omega); have hE0 := endH_new hne hme hep hl (fun j h => ok j h); have hjb : (newD me ep jobs).1.jobs = jobs := hE0.2.2.2.1; .run 1 [b1 = b1] ⟨rfl, trivial⟩ <|
 .call (few_spec (newD me ep jobs).1 (new_ok hme hep hl (fun j h => ok j h))) <|
 .r 1 <| .br 39 (!(fewB (newD me ep jobs).1)) (fun q3 => have q3 := notT q3; have p3 := booF q3; .r 2 <| .fin (x := aB true) (r := aB true) [] trivial (by exact Sub.of_eq (by first | rfl | (simp; done))))
 <| fun q3 => have q3 := notF q3; have p3 := booT q3; have hfj := few_jobs q3; have hfl : jobs.length ≤ 20 := hjb ▸ hfj.1; have hfk : ∀ j ∈ jobs, j.length ≤ 30 := hjb ▸ hfj.2; have hfs := later_few hfl hfk; .r 1 <| .r 1 <| let L1 : Lp (Nat) := ⟨fun a1 => ⟨[(0, aI me), (1, aI ep), (2, .sl 1 false (jobs.map jobA)), (7, aB true), (8, .ptr 8 b1 0), (11, aI (a1 : Int)), (10, aI (sumK jobs a1 : Int))], [(8, .box b1 26 [aI ((newD me ep jobs).1.me), aI ((newD me ep jobs).1.epoch), aI ((newD me ep jobs).1.seq), .sl 1 false ((newD me ep jobs).1.jobs.map jobA), aI ((newD me ep jobs).1.phase), aI ((newD me ep jobs).1.n), aI ((newD me ep jobs).1.stamp), .sl 4 false ((newD me ep jobs).1.told.map donA), .sl 6 false ((newD me ep jobs).1.now.map repA)])]⟩, fun a1 => jobs.length - a1, fun a1 => a1 ≤ jobs.length⟩
 .loop L1 0 (show 0 ≤ jobs.length from Nat.zero_le _) ⟨[(0, aI me), (1, aI ep), (2, .sl 1 false (jobs.map jobA)), (7, aB true), (8, .ptr 8 b1 0), (11, aI 0), (10, aI 0)], [(8, .box b1 26 [aI ((newD me ep jobs).1.me), aI ((newD me ep jobs).1.epoch), aI ((newD me ep jobs).1.seq), .sl 1 false ((newD me ep jobs).1.jobs.map jobA), aI ((newD me ep jobs).1.phase), aI ((newD me ep jobs).1.n), aI ((newD me ep jobs).1.stamp), .sl 4 false ((newD me ep jobs).1.told.map donA), .sl 6 false ((newD me ep jobs).1.now.map repA)])]⟩ ⟨Sub.refl _, Sub.refl _, Sub.refl _, Sub.refl _, Sub.refl _, Sub.of_eq (congrArg aI (by first | omega | rfl)), Sub.of_eq rfl, trivial⟩ ⟨⟨_, rfl, SubB.refl _⟩, trivial⟩ fun a1 ha1 =>
 (fun (k : Nat) (hH1 : k ≤ jobs.length) => .r 3 <| .val 43 (show (aI ((jobs.map jobA).length : Int) : AV) = aI (jobs.length : Int) from by rw [List.length_map]) <| .r 1 <| .br 44 (decide ((k : Int) < (jobs.length : Int))) (fun q4 => have p4 := decT q4; .r 3 <| .idxM jobs jobA k (m := (k : Int)) rfl (by omega) fun x1 hx1 =>
 have hqx1 := sumK_step hx1; have hrx1 := sumK_le jobs (k + 1); .r 2 <| .val 52 (show (aI ((x1.map calA).length : Int) : AV) = aI (x1.length : Int) from by rw [List.length_map]) <| .run 3 [rng .i64 ((sumK jobs k : Int) + (x1.length : Int)), rng .i64 (((sumK jobs k : Int) + (x1.length : Int)) + 3)] ⟨rng64 (by omega) (by omega), rng64 (by omega) (by omega), trivial⟩ <|
 .run 3 [rng .i64 ((k : Int) + 1)] ⟨rng64 (by omega) (by omega), trivial⟩ <|
 .back L1 k (k + 1) (show (k + 1) ≤ jobs.length from (by show _ ≤ _; omega)) (show jobs.length - (k + 1) < jobs.length - k from (by omega)) ⟨[(0, aI me), (1, aI ep), (2, .sl 1 false (jobs.map jobA)), (7, aB true), (8, .ptr 8 b1 0), (11, aI ((k : Int) + 1)), (10, aI (((sumK jobs k : Int) + (x1.length : Int)) + 3))], [(8, .box b1 26 [aI ((newD me ep jobs).1.me), aI ((newD me ep jobs).1.epoch), aI ((newD me ep jobs).1.seq), .sl 1 false ((newD me ep jobs).1.jobs.map jobA), aI ((newD me ep jobs).1.phase), aI ((newD me ep jobs).1.n), aI ((newD me ep jobs).1.stamp), .sl 4 false ((newD me ep jobs).1.told.map donA), .sl 6 false ((newD me ep jobs).1.now.map repA)])]⟩ ⟨Sub.refl _, Sub.refl _, Sub.refl _, Sub.refl _, Sub.refl _, Sub.of_eq (congrArg aI (by first | omega | rfl)), Sub.of_eq (congrArg aI (by rw [sumK_step hx1]; omega)), trivial⟩ ⟨⟨_, rfl, SubB.refl _⟩, trivial⟩)
 <| fun q4 => have p4 := decF q4; .r 1 <| let L2 : Lp (Nat × Cli) := ⟨fun a2 => ⟨[(0, aI me), (1, aI ep), (2, .sl 1 false (jobs.map jobA)), (7, aB true), (8, .ptr 8 b1 0), (12, aI (a2.1 : Int)), (10, aI (laterS jobs 0 : Int))], [(8, .box b1 26 [aI a2.2.me, aI a2.2.epoch, aI a2.2.seq, .sl 1 false (a2.2.jobs.map jobA), aI a2.2.phase, aI a2.2.n, aI a2.2.stamp, .sl 4 false (a2.2.told.map donA), .sl 6 false (a2.2.now.map repA)])]⟩, fun a2 => laterS jobs 0 - a2.1, fun a2 => a2.1 ≤ laterS jobs 0 ∧ EndH me ep jobs a2.1 a2.2⟩
 .loop L2 (0, (newD me ep jobs).1) (show 0 ≤ laterS jobs 0 ∧ EndH me ep jobs 0 ((newD me ep jobs).1) from ⟨Nat.zero_le _, hE0⟩) ⟨[(0, aI me), (1, aI ep), (2, .sl 1 false (jobs.map jobA)), (7, aB true), (8, .ptr 8 b1 0), (12, aI 0), (10, aI (sumK jobs k : Int))], [(8, .box b1 26 [aI ((newD me ep jobs).1.me), aI ((newD me ep jobs).1.epoch), aI ((newD me ep jobs).1.seq), .sl 1 false ((newD me ep jobs).1.jobs.map jobA), aI ((newD me ep jobs).1.phase), aI ((newD me ep jobs).1.n), aI ((newD me ep jobs).1.stamp), .sl 4 false ((newD me ep jobs).1.told.map donA), .sl 6 false ((newD me ep jobs).1.now.map repA)])]⟩ ⟨Sub.refl _, Sub.refl _, Sub.refl _, Sub.refl _, Sub.refl _, Sub.of_eq (congrArg aI (by first | omega | rfl)), Sub.of_eq (congrArg aI (by rw [sumK_all (by omega)])), trivial⟩ ⟨⟨_, rfl, SubB.boxs ⟨Sub.of_eq (congrArg aI (by first | omega | rfl)), Sub.of_eq (congrArg aI (by first | omega | rfl)), Sub.of_eq (congrArg aI (by first | omega | rfl)), Sub.refl _, Sub.of_eq (congrArg aI (by first | omega | rfl)), Sub.of_eq (congrArg aI (by first | omega | rfl)), Sub.of_eq (congrArg aI (by first | omega | rfl)), Sub.refl _, Sub.refl _, trivial⟩⟩, trivial⟩ fun a2 ha2 =>
 (fun (i : Nat) (c : Cli) (hH2 : i ≤ laterS jobs 0 ∧ EndH me ep jobs i c) => .r 3 <| .br 57 (decide ((i : Int) < (laterS jobs 0 : Int))) (fun q5 => have p5 := decT q5; .run 1 [b1 = b1] ⟨rfl, trivial⟩ <|
 .call (fsay_spec (x := c) hH2.2.1 (by omega)) <|
 .r 3 <| .new fun b2 => .run 2 [b2 = b2] ⟨rfl, trivial⟩ <|
 .r 2 <| .is 66 (show (!((sayD c).2)) = false from (by rw [show ((sayD c).2) = true from (endH_go hH2.2 (by omega) (by omega)).1]; rfl)) <| .run 10 [b1 = b1, b2 = b2, b2 = b2, b2 = b2] ⟨rfl, rfl, rfl, rfl, trivial⟩ <|
 .callS (args0 := [.agg [aI c.me, aI c.epoch, aI c.seq, .sl 1 false (c.jobs.map jobA), aI c.phase, aI c.n, aI c.stamp, .sl 4 false (c.told.map donA), .sl 6 false (c.now.map repA)], .agg [aI ((sayD c).1.kind), aI me, aI ep, aI ((sayD c).1.seq), aI ((sayD c).1.n), aI 0, aI 0, aI 0, aI 0, aS ([]), aN]]) (args := [.agg [aI c.me, aI c.epoch, aI c.seq, .sl 1 false (c.jobs.map jobA), aI c.phase, aI c.n, aI c.stamp, .sl 4 false (c.told.map donA), .sl 6 false (c.now.map repA)], .agg [aI ((okR c).kind), aI ((okR c).client), aI ((okR c).epoch), aI ((okR c).seq), aI ((okR c).n), aI ((okR c).r.e), aI ((okR c).r.a), aI ((okR c).r.b), aI ((okR c).r.n), aS ((okR c).r.t), .sl 1 false ((okR c).r.ns.map txA)]]) ⟨Sub.refl _, Sub.aggs ⟨Sub.refl _, Sub.of_eq (congrArg aI hH2.2.2.2.2.2.1.symm), Sub.of_eq (congrArg aI hH2.2.2.2.2.2.2.symm), Sub.refl _, Sub.refl _, Sub.refl _, Sub.refl _, Sub.refl _, Sub.refl _, Sub.refl _, Sub.nil _ _, trivial⟩, trivial⟩ (fhear_spec (x := c) (r := okR c) hH2.2.1 (by omega)) <|
 .run 1 [b1 = b1] ⟨rfl, trivial⟩ <|
 .run 3 [rng .i64 ((i : Int) + 1)] ⟨rng64 (by omega) (by omega), trivial⟩ <|
 .back L2 (i, c) ((i + 1), (nextC c)) (show (i + 1) ≤ laterS jobs 0 ∧ EndH me ep jobs (i + 1) (nextC c) from ⟨by omega, (endH_go hH2.2 (by omega) (by omega)).2.2⟩) (show laterS jobs 0 - (i + 1) < laterS jobs 0 - i from (by omega)) ⟨[(0, aI me), (1, aI ep), (2, .sl 1 false (jobs.map jobA)), (7, aB true), (8, .ptr 8 b1 0), (12, aI ((i : Int) + 1)), (10, aI (laterS jobs 0 : Int))], [(8, .box b1 26 [aI ((nextC c).me), aI ((nextC c).epoch), aI ((nextC c).seq), .sl 1 false ((nextC c).jobs.map jobA), aI ((nextC c).phase), aI ((nextC c).n), aI ((nextC c).stamp), .sl 4 false ((nextC c).told.map donA), .sl 6 false ((nextC c).now.map repA)])]⟩ ⟨Sub.refl _, Sub.refl _, Sub.refl _, Sub.refl _, Sub.refl _, Sub.of_eq (congrArg aI (by first | omega | rfl)), Sub.refl _, trivial⟩ ⟨⟨_, rfl, SubB.refl _⟩, trivial⟩)
 <| fun q5 => have p5 := decF q5; .run 1 [b1 = b1] ⟨rfl, trivial⟩ <|
 .call (fsay_spec (x := c) hH2.2.1 (by omega)) <|
 .r 3 <| .new fun b3 => .run 2 [b3 = b3] ⟨rfl, trivial⟩ <|
 .r 2 <| .is 84 (show ((sayD c).2) = false from (endH_end hH2.2 (by omega)).1) <| .run 3 [b1 = b1] ⟨rfl, trivial⟩ <|
 .val 87 (show (aI ((c.told.map donA).length : Int) : AV) = aI (c.told.length : Int) from by rw [List.length_map]) <| .r 2 <| .val 89 (show (aI ((jobs.map jobA).length : Int) : AV) = aI (jobs.length : Int) from by rw [List.length_map]) <| .r 2 <| .is 91 (show ((c.told.length : Int) != (jobs.length : Int)) = false from (bne_eq_false_iff_eq.2 (by have := (endH_end hH2.2 (by omega)).2.1; omega))) <| .r 1 <| let L3 : Lp (Nat) := ⟨fun a3 => ⟨[(2, .sl 1 false (jobs.map jobA)), (7, aB true), (8, .ptr 8 b1 0), (17, aI (a3 : Int))], [(8, .box b1 26 [aI c.me, aI c.epoch, aI c.seq, .sl 1 false (c.jobs.map jobA), aI c.phase, aI c.n, aI c.stamp, .sl 4 false (c.told.map donA), .sl 6 false (c.now.map repA)])]⟩, fun a3 => jobs.length - a3, fun a3 => a3 ≤ jobs.length⟩
 .loop L3 0 (show 0 ≤ jobs.length from Nat.zero_le _) ⟨[(2, .sl 1 false (jobs.map jobA)), (7, aB true), (8, .ptr 8 b1 0), (17, aI 0)], [(8, .box b1 26 [aI c.me, aI c.epoch, aI c.seq, .sl 1 false (c.jobs.map jobA), aI c.phase, aI c.n, aI c.stamp, .sl 4 false (c.told.map donA), .sl 6 false (c.now.map repA)])]⟩ ⟨Sub.refl _, Sub.refl _, Sub.refl _, Sub.of_eq (congrArg aI (by first | omega | rfl)), trivial⟩ ⟨⟨_, rfl, SubB.refl _⟩, trivial⟩ fun a3 ha3 =>
 (fun (m : Nat) (hH3 : m ≤ jobs.length) => .r 3 <| .val 94 (show (aI ((jobs.map jobA).length : Int) : AV) = aI (jobs.length : Int) from by rw [List.length_map]) <| .r 1 <| .br 95 (decide ((m : Int) < (jobs.length : Int))) (fun q6 => have p6 := decT q6; .ord [0, 1, 2, 3, 4, 5, 6, 7, 8, 9, 10, 11, 12, 13, 14, 15, 16, 17, 18, 19, 20, 21] <| .run 3 [b1 = b1] ⟨rfl, trivial⟩ <|
 .idxM c.told donA m (m := (m : Int)) rfl (by have := (endH_end hH2.2 (by omega)).2.1; omega) fun x2 hx2 =>
 .r 4 <| .is 105 (show (!x2.yes) = false from (by rw [show (x2.yes) = true from (hH2.2.2.1 m x2 (by assumption)).1]; rfl)) <| .run 3 [b1 = b1] ⟨rfl, trivial⟩ <|
 .idx m (m := (m : Int)) (xs := c.told.map donA) (e := donA x2) rfl (map_some hx2) <|
 .r 3 <| .val 112 (show (aI ((x2.l.map repA).length : Int) : AV) = aI (x2.l.length : Int) from by rw [List.length_map]) <| .r 2 <| .idxM jobs jobA m (m := (m : Int)) rfl (by omega) fun x3 hx3 =>
 .r 2 <| .val 117 (show (aI ((x3.map calA).length : Int) : AV) = aI (x3.length : Int) from by rw [List.length_map]) <| .r 2 <| .is 119 (show ((x2.l.length : Int) != (x3.length : Int)) = false from (bne_eq_false_iff_eq.2 (by obtain ⟨_, j, h1, h2⟩ := hH2.2.2.1 m x2 (by assumption); rw [hH2.2.2.2.2.1, (by assumption : jobs[m]? = some x3)] at h1; obtain rfl := Option.some.inj h1; omega))) <| .run 3 [rng .i64 ((m : Int) + 1)] ⟨rng64 (by omega) (by omega), trivial⟩ <|
 .back L3 m (m + 1) (show (m + 1) ≤ jobs.length from (by show _ ≤ _; omega)) (show jobs.length - (m + 1) < jobs.length - m from (by omega)) ⟨[(2, .sl 1 false (jobs.map jobA)), (7, aB true), (8, .ptr 8 b1 0), (17, aI ((m : Int) + 1))], [(8, .box b1 26 [aI c.me, aI c.epoch, aI c.seq, .sl 1 false (c.jobs.map jobA), aI c.phase, aI c.n, aI c.stamp, .sl 4 false (c.told.map donA), .sl 6 false (c.now.map repA)])]⟩ ⟨Sub.refl _, Sub.refl _, Sub.refl _, Sub.of_eq (congrArg aI (by first | omega | rfl)), trivial⟩ ⟨⟨_, rfl, SubB.refl _⟩, trivial⟩)
 <| fun q6 => have p6 := decF q6; .r 2 <| .fin (x := aB true) (r := aB true) [] trivial (by exact Sub.of_eq (by first | rfl | (simp; done)))) a3 ha3) a2.1 a2.2 ha2) a1 ha1) Try.func7 rfl (by kernel_rfl) (by kernel_rfl)
end Go.Proofs.Ytpdedjbkfcaebaa
