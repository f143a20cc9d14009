/- slices.Clone of calls; New of both sides. -/
import Derived.Test.YtpdedjbkfcaebaaCliN6
set_option linter.unusedVariables false
set_option linter.unusedSimpArgs false
namespace Go.Proofs.Ytpdedjbkfcaebaa
open Go.RowKit Copyhold
set_option maxRecDepth 100000 in
set_option maxHeartbeats 4000000 in
theorem clone_cal (xs : List (List AV)) (hl : xs.length ≤ 100000) : FSpec Try.prog 43 [.sl 8 false xs] (.sl 8 false xs) := by
  refine spec_enter ⟨[(0, .sl 8 false xs)], []⟩ Try.func43 rfl (by kernel_rfl) (by kernel_rfl) rfl (fun t => match t with | 0 => rfl | _ + 1 => rfl) (fun c hc => ?_)
  replace hc : c.n = 8 := hc
  refine awp_seq_k (fun K1 hK1 => ?_)
  refine awp_region [0] (by rw [hc]; kernel_rfl) (by kernel_rfl) ?_
  refine seq_run (r := []) [0] (s' := ⟨[(0, .sl 8 false xs), (2, aN)], []⟩) (ps := []) (by kernel_rfl) trivial ?_
  refine hK1 _ ?_
  try clear hK1 K1
  refine awp_seq_k (fun K2 hK2 => ?_)
  refine awp_seq_k (fun K3 hK3 => ?_)
  refine awp_region [0, 1] (by rw [hc]; kernel_rfl) (by kernel_rfl) ?_
  refine seq_run (r := [1]) [0] (s' := ⟨[(0, .sl 8 false xs), (2, aN), (3, .sl 8 false xs)], []⟩) (ps := []) (by kernel_rfl) trivial ?_
  refine seqNil (k := 8) (tt := false) (xs := xs) (d := 4) (f := fun b1 => ⟨[(0, .sl 8 false xs), (2, aN), (3, .sl 8 false xs), (4, aB b1)], []⟩) (by kernel_rfl) (fun _ => rfl) (fun b1 hnb1 => ?_)
  refine hK3 _ ?_
  try clear hK3 K3
  refine awp_less ⟨[(0, .sl 8 false xs), (2, aN), (4, aB b1)], []⟩ ⟨Sub.refl _, Sub.refl _, Sub.refl _, trivial⟩ trivial ?_
  rcases boolC (b1) with ⟨q2, p2⟩ | ⟨q2, p2⟩
  ·
    refine awp_if true (by omega) (by kernel_rfl) q2 ?_
    refine awp_seq_k (fun K4 hK4 => ?_)
    refine awp_region [0] (by rw [hc]; kernel_rfl) (by kernel_rfl) ?_
    refine seq_run (r := []) [0] (s' := ⟨[(0, .sl 8 false xs), (2, aN), (4, aB b1)], []⟩) (ps := []) (by kernel_rfl) trivial ?_
    refine hK4 _ ?_
    try clear hK4 K4
    refine awp_less ⟨[(0, .sl 8 false xs), (2, aN)], []⟩ ⟨Sub.refl _, Sub.refl _, trivial⟩ trivial ?_
    refine awp_ret ?_
    refine fin_ret ⟨[], [aN], by kernel_rfl, trivial, ?_⟩
    rw [hnb1 p2]
    exact Sub.nil _ _
  refine awp_if false (by omega) (by kernel_rfl) q2 ?_
  refine awp_skip ?_
  refine hK2 _ ?_
  try clear hK2 K2
  refine awp_less ⟨[(0, .sl 8 false xs), (2, aN)], []⟩ ⟨Sub.refl _, Sub.refl _, trivial⟩ trivial ?_
  refine awp_seq_k (fun K5 hK5 => ?_)
  refine awp_region [0, 1, 2, 3] (by rw [hc]; kernel_rfl) (by kernel_rfl) ?_
  refine seqLit0 (e := 36) (k := 8) (d := 5) (f := fun V1 => ⟨[(0, .sl 8 false xs), (2, aN), (5, .rw 5 V1 0)], [(5, .row V1 36 8 ([]))]⟩) (by kernel_rfl) rfl (fun _ => by kernel_rfl) (fun V1 => ?_)
  refine seq_run (r := [2, 3]) [1] (s' := ⟨[(0, .sl 8 false xs), (2, aN), (5, .rw 5 V1 0), (6, .sl 8 false xs)], [(5, .row V1 36 8 ([]))]⟩) (ps := []) (by kernel_rfl) trivial ?_
  refine seq_append (t := 51) (e := 36) (id := 5) (k := 8) (n := 0) (bytes := 88) (d := 7) (V := V1) (tt := false) (xs := ([] : List (List AV))) (ys := xs) (f := fun V2 => ⟨[(0, .sl 8 false xs), (2, aN), (5, .rw 5 V1 0), (6, .sl 8 false xs), (7, .rw 5 V2 (([] : List (List AV)).length + xs.length))], [(5, .row V2 36 8 (([] : List (List AV)) ++ xs))]⟩) (by kernel_rfl) (by kernel_rfl) (by kernel_rfl) (by simp <;> omega) (by simp <;> omega) (fun _ => by kernel_rfl) (fun V2 => ?_)
  refine seq_run (r := []) [3] (s' := ⟨[(0, .sl 8 false xs), (2, .rw 5 V2 (([] : List (List AV)).length + xs.length)), (5, .rw 5 V1 0), (6, .sl 8 false xs), (7, .rw 5 V2 (([] : List (List AV)).length + xs.length))], [(5, .row V2 36 8 (([] : List (List AV)) ++ xs))]⟩) (ps := []) (by kernel_rfl) trivial ?_
  refine hK5 _ ?_
  try clear hK5 K5
  refine awp_less ⟨[(2, .rw 5 V2 (([] : List (List AV)).length + xs.length))], [(5, .row V2 36 8 (([] : List (List AV)) ++ xs))]⟩ ⟨Sub.refl _, trivial⟩ ⟨⟨_, rfl, SubB.refl _⟩, trivial⟩ ?_
  refine awp_freeze 5 (.row V2 36 8 (([] : List (List AV)) ++ xs)) ⟨[(2, .sl 8 false (([] : List (List AV)) ++ xs))], []⟩ rfl ⟨Fz.row _ _ _ _ _ _ (by first | rfl | (simp; done) | (simp; omega)), trivial⟩ trivial ?_
  refine awp_ret ?_
  refine fin_ret ⟨[], [.sl 8 false (([] : List (List AV)) ++ xs)], by kernel_rfl, trivial, ?_⟩
  exact Sub.of_eq rfl
def newD (me ep : Int) (jobs : List (List Cal)) : Cli × Int := if me < 0 ∨ ep < 1 then (⟨0, 0, 0, [], 0, 0, 0, [], []⟩, 1) else (⟨me, ep, 1, jobs, if jobs.length = 0 then 4 else 0, 0, 0, [], []⟩, 0)
def zN71 : List AV := [aI 0, aI 0, aI 0, aN, aI 0, aI 0, aI 0, aN, aN]
def zN72 (b1 : Nat) (b2 : Nat) (me : Int) (ep : Int) (V : Value) (k : Nat) (jobs : List (List Cal)) : List (Nat × Bx) := [(6, .box b1 26 zN71), (8, .box b2 26 [aI me, aI ep, aI 1, .rw 100 V k, aI 0, aI 0, aI 0, aN, aN]), (100, .row V 51 1 ((jobs.take k).map jobA))]
def zN74 (b1 : Nat) (b2 : Nat) (me : Int) (ep : Int) : List (Nat × Bx) := [(6, .box b1 26 zN71), (8, .box b2 26 [aI me, aI ep, aI 1, .rw 100 (.slice none 0 0) 0, aI 0, aI 0, aI 0, aN, aN]), (100, .row (.slice none 0 0) 51 1 ([]))]
def zN76 (me : Int) (ep : Int) (jobs : List (List Cal)) (b1 : Nat) : LS := ⟨[(0, aI me), (1, aI ep), (2, .sl 1 false (jobs.map jobA)), (6, .ptr 6 b1 0), (7, aI 0)], [(6, .box b1 26 zN71)]⟩
def zN77 (me : Int) (ep : Int) (jobs : List (List Cal)) (b1 : Nat) : LS := ⟨[(0, aI me), (1, aI ep), (2, .sl 1 false (jobs.map jobA)), (6, .ptr 6 b1 0), (7, aI 1)], [(6, .box b1 26 zN71)]⟩
def zN79 (me : Int) (ep : Int) : List AV := [aI me, aI ep, aI 1, aN, aI 0, aI 0, aI 0, aN, aN]
def zN710 (jobs : List (List Cal)) (b1 : Nat) (b2 : Nat) : List (Nat × AV) := [(2, .sl 1 false (jobs.map jobA)), (6, .ptr 6 b1 0), (7, aI 0), (8, .ptr 8 b2 0)]
def zN711 (me : Int) (ep : Int) (V : Value) (k : Nat) : List AV := [aI me, aI ep, aI 1, .rw 100 V k, aI 4, aI 0, aI 0, aN, aN]
def zN712 (me : Int) (ep : Int) (V : Value) (k : Nat) : List AV := [aI me, aI ep, aI 1, .rw 100 V k, aI 0, aI 0, aI 0, aN, aN]
set_option maxRecDepth 100000 in
set_option maxHeartbeats 4000000 in
theorem new_spec (me ep : Int) (jobs : List (List Cal)) (hl : jobs.length ≤ 100000) (hj : ∀ j ∈ jobs, j.length ≤ 100000) : FSpec Try.prog 21 [aI me, aI ep, .sl 1 false (jobs.map jobA)] (.tup [.agg (cliA (newD me ep jobs).1), aI (newD me ep jobs).2]) := by
  refine spec_enter ⟨[(0, aI me), (1, aI ep), (2, .sl 1 false (jobs.map jobA))], []⟩ Try.func21 rfl (by kernel_rfl) (by kernel_rfl) rfl (fun t => match t with | 0 => rfl | 1 => rfl | 2 => rfl | _ + 3 => rfl) (fun c hc => ?_)
  replace hc : c.n = 40 := hc
  refine awp_seq_k (fun K1 hK1 => ?_)
  refine awp_region [0, 1] (by rw [hc]; kernel_rfl) (by kernel_rfl) ?_
  refine seq_new (f := fun b1 => ⟨[(0, aI me), (1, aI ep), (2, .sl 1 false (jobs.map jobA)), (6, .ptr 6 b1 0)], [(6, .box b1 26 zN71)]⟩) (by kernel_rfl) (fun b1 => ?_)
  refine seq_run (r := []) [1] (s' := (zN76 me ep jobs b1)) (ps := []) (by kernel_rfl) trivial ?_
  refine hK1 _ ?_
  try clear hK1 K1
  refine awp_seq_k (fun K2 hK2 => ?_)
  refine awp_seq_k (fun K3 hK3 => ?_)
  refine awp_region [0, 1, 2, 3, 4, 5] (by rw [hc]; kernel_rfl) (by kernel_rfl) ?_
  refine seq_run (r := [3, 4, 5]) [0, 1, 2] (s' := ⟨[(0, aI me), (1, aI ep), (2, .sl 1 false (jobs.map jobA)), (6, .ptr 6 b1 0), (7, aI 0), (11, aI me), (12, aB (decide (me < 0))), (13, aB (decide (me < 0)))], [(6, .box b1 26 zN71)]⟩) (ps := []) (by kernel_rfl) trivial ?_
  rcases decC (me < 0) with ⟨q1, p1⟩ | ⟨q1, p1⟩
  ·
    refine seq_bool (s' := ⟨[(0, aI me), (1, aI ep), (2, .sl 1 false (jobs.map jobA)), (6, .ptr 6 b1 0), (7, aI 0), (11, aI me), (12, aB (decide (me < 0))), (13, aB true)], [(6, .box b1 26 zN71)]⟩) 13 (b := decide (me < 0)) (v := true) q1 (by kernel_rfl) (by kernel_rfl) ?_
    refine seq_run (r := []) [3, 4, 5] (s' := ⟨[(0, aI me), (1, aI ep), (2, .sl 1 false (jobs.map jobA)), (6, .ptr 6 b1 0), (7, aI 0), (11, aI me), (12, aB (decide (me < 0))), (13, aB true), (14, .val undef), (15, .val undef), (16, aB true)], [(6, .box b1 26 zN71)]⟩) (ps := []) (by kernel_rfl) trivial ?_
    refine hK3 _ ?_
    try clear hK3 K3
    refine awp_less ⟨[(0, aI me), (1, aI ep), (2, .sl 1 false (jobs.map jobA)), (6, .ptr 6 b1 0), (7, aI 0), (16, aB true)], [(6, .box b1 26 zN71)]⟩ ⟨Sub.refl _, Sub.refl _, Sub.refl _, Sub.refl _, Sub.refl _, Sub.refl _, trivial⟩ ⟨⟨_, rfl, SubB.refl _⟩, trivial⟩ ?_
    refine awp_if true (by omega) (by kernel_rfl) rfl ?_
    refine awp_seq_k (fun K4 hK4 => ?_)
    refine awp_region [0, 1, 2] (by rw [hc]; kernel_rfl) (by kernel_rfl) ?_
    refine seq_run (r := []) [0, 1, 2] (s' := ⟨[(0, aI me), (1, aI ep), (2, .sl 1 false (jobs.map jobA)), (6, .ptr 6 b1 0), (7, aI 1), (16, aB true), (17, .agg zN71)], [(6, .box b1 26 zN71)]⟩) (ps := [b1 = b1]) (by kernel_rfl) ⟨rfl, trivial⟩ ?_
    refine hK4 _ ?_
    try clear hK4 K4
    refine awp_less (zN77 me ep jobs b1) ⟨Sub.refl _, Sub.refl _, Sub.refl _, Sub.refl _, Sub.refl _, trivial⟩ ⟨⟨_, rfl, SubB.refl _⟩, trivial⟩ ?_
    refine awp_ret ?_
    refine fin_ret ⟨[b1 = b1], [.agg zN71, aI 1], by kernel_rfl, ⟨rfl, trivial⟩, ?_⟩
    rw [show newD me ep jobs = _ from if_pos (by omega)]
    exact Sub.tups ⟨Sub.aggs ⟨Sub.refl _, Sub.refl _, Sub.refl _, Sub.nil _ _, Sub.refl _, Sub.refl _, Sub.refl _, Sub.nil _ _, Sub.nil _ _, trivial⟩, Sub.refl _, trivial⟩
  refine seq_bool (s' := ⟨[(0, aI me), (1, aI ep), (2, .sl 1 false (jobs.map jobA)), (6, .ptr 6 b1 0), (7, aI 0), (11, aI me), (12, aB (decide (me < 0))), (13, aB false)], [(6, .box b1 26 zN71)]⟩) 13 (b := decide (me < 0)) (v := false) q1 (by kernel_rfl) (by kernel_rfl) ?_
  refine seq_run (r := []) [3, 4, 5] (s' := ⟨[(0, aI me), (1, aI ep), (2, .sl 1 false (jobs.map jobA)), (6, .ptr 6 b1 0), (7, aI 0), (11, aI me), (12, aB (decide (me < 0))), (13, aB false), (14, aI ep), (15, aB (decide (ep < 1))), (16, aB (decide (ep < 1)))], [(6, .box b1 26 zN71)]⟩) (ps := []) (by kernel_rfl) trivial ?_
  refine hK3 _ ?_
  try clear hK3 K3
  refine awp_less ⟨[(0, aI me), (1, aI ep), (2, .sl 1 false (jobs.map jobA)), (6, .ptr 6 b1 0), (7, aI 0), (16, aB (decide (ep < 1)))], [(6, .box b1 26 zN71)]⟩ ⟨Sub.refl _, Sub.refl _, Sub.refl _, Sub.refl _, Sub.refl _, Sub.refl _, trivial⟩ ⟨⟨_, rfl, SubB.refl _⟩, trivial⟩ ?_
  rcases decC (ep < 1) with ⟨q2, p2⟩ | ⟨q2, p2⟩
  ·
    refine awp_if true (by omega) (by kernel_rfl) q2 ?_
    refine awp_seq_k (fun K5 hK5 => ?_)
    refine awp_region [0, 1, 2] (by rw [hc]; kernel_rfl) (by kernel_rfl) ?_
    refine seq_run (r := []) [0, 1, 2] (s' := ⟨[(0, aI me), (1, aI ep), (2, .sl 1 false (jobs.map jobA)), (6, .ptr 6 b1 0), (7, aI 1), (16, aB (decide (ep < 1))), (17, .agg zN71)], [(6, .box b1 26 zN71)]⟩) (ps := [b1 = b1]) (by kernel_rfl) ⟨rfl, trivial⟩ ?_
    refine hK5 _ ?_
    try clear hK5 K5
    refine awp_less (zN77 me ep jobs b1) ⟨Sub.refl _, Sub.refl _, Sub.refl _, Sub.refl _, Sub.refl _, trivial⟩ ⟨⟨_, rfl, SubB.refl _⟩, trivial⟩ ?_
    refine awp_ret ?_
    refine fin_ret ⟨[b1 = b1], [.agg zN71, aI 1], by kernel_rfl, ⟨rfl, trivial⟩, ?_⟩
    rw [show newD me ep jobs = _ from if_pos (by omega)]
    exact Sub.tups ⟨Sub.aggs ⟨Sub.refl _, Sub.refl _, Sub.refl _, Sub.nil _ _, Sub.refl _, Sub.refl _, Sub.refl _, Sub.nil _ _, Sub.nil _ _, trivial⟩, Sub.refl _, trivial⟩
  refine awp_if false (by omega) (by kernel_rfl) q2 ?_
  refine awp_skip ?_
  refine hK2 _ ?_
  try clear hK2 K2
  refine awp_less (zN76 me ep jobs b1) ⟨Sub.refl _, Sub.refl _, Sub.refl _, Sub.refl _, Sub.refl _, trivial⟩ ⟨⟨_, rfl, SubB.refl _⟩, trivial⟩ ?_
  refine awp_seq_k (fun K6 hK6 => ?_)
  refine awp_region [0, 1, 2, 3, 4] (by rw [hc]; kernel_rfl) (by kernel_rfl) ?_
  refine seq_run (r := [3, 4]) [0, 1, 2] (s' := ⟨[(0, aI me), (1, aI ep), (2, .sl 1 false (jobs.map jobA)), (6, .ptr 6 b1 0), (7, aI 0), (18, aI me), (19, aI ep), (20, .agg (zN79 me ep))], [(6, .box b1 26 zN71)]⟩) (ps := []) (by kernel_rfl) trivial ?_
  refine seq_new (f := fun b2 => ⟨[(0, aI me), (1, aI ep), (2, .sl 1 false (jobs.map jobA)), (6, .ptr 6 b1 0), (7, aI 0), (18, aI me), (19, aI ep), (20, .agg (zN79 me ep)), (8, .ptr 8 b2 0)], [(6, .box b1 26 zN71), (8, .box b2 26 zN71)]⟩) (by kernel_rfl) (fun b2 => ?_)
  refine seq_run (r := []) [4] (s' := ⟨[(0, aI me), (1, aI ep), (2, .sl 1 false (jobs.map jobA)), (6, .ptr 6 b1 0), (7, aI 0), (18, aI me), (19, aI ep), (20, .agg (zN79 me ep)), (8, .ptr 8 b2 0)], [(6, .box b1 26 zN71), (8, .box b2 26 (zN79 me ep))]⟩) (ps := [b2 = b2]) (by kernel_rfl) ⟨rfl, trivial⟩ ?_
  refine hK6 _ ?_
  try clear hK6 K6
  refine awp_less ⟨(zN710 jobs b1 b2), [(6, .box b1 26 zN71), (8, .box b2 26 (zN79 me ep))]⟩ ⟨Sub.refl _, Sub.refl _, Sub.refl _, Sub.refl _, trivial⟩ ⟨⟨_, rfl, SubB.refl _⟩, ⟨_, rfl, SubB.refl _⟩, trivial⟩ ?_
  refine awp_seq_k (fun K7 hK7 => ?_)
  refine awp_seq_k (fun K8 hK8 => ?_)
  refine awp_rowNil (s' := ⟨(zN710 jobs b1 b2), [(6, .box b1 26 zN71), (8, .box b2 26 (zN79 me ep)), (100, .row (.slice none 0 0) 51 1 ([]))]⟩) 100 51 1 rfl rfl ?_
  refine awp_less ⟨(zN710 jobs b1 b2), (zN74 b1 b2 me ep)⟩ ⟨Sub.refl _, Sub.refl _, Sub.refl _, Sub.refl _, trivial⟩ ⟨⟨_, rfl, SubB.refl _⟩, ⟨_, rfl, SubB.boxs ⟨Sub.refl _, Sub.refl _, Sub.refl _, Sub.rwnil _, Sub.refl _, Sub.refl _, Sub.refl _, Sub.refl _, Sub.refl _, trivial⟩⟩, ⟨_, rfl, SubB.refl _⟩, trivial⟩ ?_
  refine awp_region [0, 1, 2] (by rw [hc]; kernel_rfl) (by kernel_rfl) ?_
  refine seq_run (r := [2]) [0, 1] (s' := ⟨[(2, .sl 1 false (jobs.map jobA)), (6, .ptr 6 b1 0), (7, aI 0), (8, .ptr 8 b2 0), (21, .sl 1 false (jobs.map jobA)), (22, aI ((jobs.map jobA).length : Int))], (zN74 b1 b2 me ep)⟩) (ps := []) (by kernel_rfl) trivial ?_
  refine seq_val (s' := ⟨[(2, .sl 1 false (jobs.map jobA)), (6, .ptr 6 b1 0), (7, aI 0), (8, .ptr 8 b2 0), (21, .sl 1 false (jobs.map jobA)), (22, aI (jobs.length : Int))], (zN74 b1 b2 me ep)⟩) 22 (x := aI ((jobs.map jobA).length : Int)) (y := aI (jobs.length : Int)) (by rw [List.length_map]) (by kernel_rfl) (by kernel_rfl) ?_
  refine seq_run (r := []) [2] (s' := ⟨[(2, .sl 1 false (jobs.map jobA)), (6, .ptr 6 b1 0), (7, aI 0), (8, .ptr 8 b2 0), (21, .sl 1 false (jobs.map jobA)), (22, aI (jobs.length : Int)), (23, aI 0)], (zN74 b1 b2 me ep)⟩) (ps := []) (by kernel_rfl) trivial ?_
  refine hK8 _ ?_
  try clear hK8 K8
  refine awp_block ?_
  refine awp_rounds (α := Nat × Value) (fun a => ⟨[(2, .sl 1 false (jobs.map jobA)), (6, .ptr 6 b1 0), (8, .ptr 8 b2 0), (21, .sl 1 false (jobs.map jobA)), (22, aI (jobs.length : Int)), (23, aI (a.1 : Int))], [(6, .box b1 26 zN71), (8, .box b2 26 [aI me, aI ep, aI 1, .rw 100 a.2 a.1, aI 0, aI 0, aI 0, aN, aN]), (100, .row a.2 51 1 ((jobs.take a.1).map jobA))]⟩) (fun a => jobs.length - a.1) (fun a => a.1 ≤ jobs.length) (0, .slice none 0 0) (LS.le ⟨Sub.refl _, Sub.refl _, Sub.refl _, Sub.refl _, Sub.refl _, Sub.refl _, trivial⟩ ⟨⟨_, rfl, SubB.refl _⟩, ⟨_, rfl, SubB.refl _⟩, ⟨_, rfl, SubB.refl _⟩, trivial⟩) (by show 0 ≤ _; omega) ?_
  rintro ⟨k, V⟩ hH1
  replace hH1 : k ≤ jobs.length := hH1
  show AWp _ _ _ _ (LS.fs ⟨[(2, .sl 1 false (jobs.map jobA)), (6, .ptr 6 b1 0), (8, .ptr 8 b2 0), (21, .sl 1 false (jobs.map jobA)), (22, aI (jobs.length : Int)), (23, aI (k : Int))], (zN72 b1 b2 me ep V k jobs)⟩)
  refine awp_seq_k (fun K9 hK9 => ?_)
  refine awp_region [0] (by rw [hc]; kernel_rfl) (by kernel_rfl) ?_
  refine seq_run (r := []) [0] (s' := ⟨[(2, .sl 1 false (jobs.map jobA)), (6, .ptr 6 b1 0), (8, .ptr 8 b2 0), (21, .sl 1 false (jobs.map jobA)), (22, aI (jobs.length : Int)), (23, aI (k : Int)), (24, aB (decide ((k : Int) < (jobs.length : Int))))], (zN72 b1 b2 me ep V k jobs)⟩) (ps := []) (by kernel_rfl) trivial ?_
  refine hK9 _ ?_
  try clear hK9 K9
  refine awp_seq_k (fun K10 hK10 => ?_)
  rcases decC ((k : Int) < (jobs.length : Int)) with ⟨q3, p3⟩ | ⟨q3, p3⟩
  ·
    refine awp_if true (by omega) (by kernel_rfl) q3 ?_
    refine awp_skip ?_
    refine hK10 _ ?_
    try clear hK10 K10
    refine awp_seq_k (fun K11 hK11 => ?_)
    refine awp_block ?_
    refine awp_seq_k (fun K12 hK12 => ?_)
    refine awp_region [0, 1, 2] (by rw [hc]; kernel_rfl) (by kernel_rfl) ?_
    obtain ⟨x1, hx1⟩ := some_of (l := jobs) (k := k) (by omega)
    refine seq_idx (s' := ⟨[(2, .sl 1 false (jobs.map jobA)), (6, .ptr 6 b1 0), (8, .ptr 8 b2 0), (21, .sl 1 false (jobs.map jobA)), (22, aI (jobs.length : Int)), (23, aI (k : Int)), (24, aB (decide ((k : Int) < (jobs.length : Int)))), (25, .dptr [.sl 8 false (x1.map calA)])], (zN72 b1 b2 me ep V k jobs)⟩) (xs := jobs.map jobA) (m := (k : Int)) (d := some 25) (e := [.sl 8 false (x1.map calA)]) (k) (by kernel_rfl) rfl (map_some hx1) (by kernel_rfl) ?_
    refine seq_run (r := []) [1, 2] (s' := ⟨[(2, .sl 1 false (jobs.map jobA)), (6, .ptr 6 b1 0), (8, .ptr 8 b2 0), (21, .sl 1 false (jobs.map jobA)), (22, aI (jobs.length : Int)), (23, aI (k : Int)), (24, aB (decide ((k : Int) < (jobs.length : Int)))), (25, .dptr [.sl 8 false (x1.map calA)]), (26, .sl 8 false (x1.map calA)), (10, .sl 8 false (x1.map calA))], (zN72 b1 b2 me ep V k jobs)⟩) (ps := []) (by kernel_rfl) trivial ?_
    refine hK12 _ ?_
    try clear hK12 K12
    refine awp_region_draw [0, 1, 2, 3, 4, 5, 6, 7] (by kernel_rfl) (by rw [hc]; kernel_rfl) (by kernel_rfl) ?_
    refine seq_run (r := [3, 4, 5, 6, 7]) [0, 1, 2] (s' := ⟨[(2, .sl 1 false (jobs.map jobA)), (6, .ptr 6 b1 0), (8, .ptr 8 b2 0), (21, .sl 1 false (jobs.map jobA)), (22, aI (jobs.length : Int)), (23, aI (k : Int)), (24, aB (decide ((k : Int) < (jobs.length : Int)))), (25, .dptr [.sl 8 false (x1.map calA)]), (26, .sl 8 false (x1.map calA)), (10, .sl 8 false (x1.map calA)), (27, .ptr 8 b2 3), (28, .rw 100 V k), (29, .sl 8 false (x1.map calA))], (zN72 b1 b2 me ep V k jobs)⟩) (ps := [b2 = b2]) (by kernel_rfl) ⟨rfl, trivial⟩ ?_
    refine seq_call (f := 43) (args := [.sl 8 false (x1.map calA)]) (d := some 30) (args' := [.sl 8 false (x1.map calA)]) (s' := ⟨[(2, .sl 1 false (jobs.map jobA)), (6, .ptr 6 b1 0), (8, .ptr 8 b2 0), (21, .sl 1 false (jobs.map jobA)), (22, aI (jobs.length : Int)), (23, aI (k : Int)), (24, aB (decide ((k : Int) < (jobs.length : Int)))), (25, .dptr [.sl 8 false (x1.map calA)]), (26, .sl 8 false (x1.map calA)), (10, .sl 8 false (x1.map calA)), (27, .ptr 8 b2 3), (28, .rw 100 V k), (29, .sl 8 false (x1.map calA)), (30, .sl 8 false (x1.map calA))], (zN72 b1 b2 me ep V k jobs)⟩) (by kernel_rfl) (fun _ _ => rfl) ⟨Sub.refl _, trivial⟩ (clone_cal (x1.map calA) (by simp; exact hj _ (List.mem_of_getElem? hx1))) (by kernel_rfl) ?_
    refine seq_run (r := [5, 6, 7]) [4] (s' := ⟨[(2, .sl 1 false (jobs.map jobA)), (6, .ptr 6 b1 0), (8, .ptr 8 b2 0), (21, .sl 1 false (jobs.map jobA)), (22, aI (jobs.length : Int)), (23, aI (k : Int)), (24, aB (decide ((k : Int) < (jobs.length : Int)))), (25, .dptr [.sl 8 false (x1.map calA)]), (26, .sl 8 false (x1.map calA)), (10, .sl 8 false (x1.map calA)), (27, .ptr 8 b2 3), (28, .rw 100 V k), (29, .sl 8 false (x1.map calA)), (30, .sl 8 false (x1.map calA)), (31, .sl 1 true ([[.sl 8 false (x1.map calA)]]))], (zN72 b1 b2 me ep V k jobs)⟩) (ps := []) (by kernel_rfl) trivial ?_
    refine seq_append (t := 22) (e := 51) (id := 100) (k := 1) (n := k) (bytes := 24) (d := 32) (V := V) (tt := true) (xs := (jobs.take k).map jobA) (ys := [[.sl 8 false (x1.map calA)]]) (f := fun V1 => ⟨[(2, .sl 1 false (jobs.map jobA)), (6, .ptr 6 b1 0), (8, .ptr 8 b2 0), (21, .sl 1 false (jobs.map jobA)), (22, aI (jobs.length : Int)), (23, aI (k : Int)), (24, aB (decide ((k : Int) < (jobs.length : Int)))), (25, .dptr [.sl 8 false (x1.map calA)]), (26, .sl 8 false (x1.map calA)), (10, .sl 8 false (x1.map calA)), (27, .ptr 8 b2 3), (28, .rw 100 V k), (29, .sl 8 false (x1.map calA)), (30, .sl 8 false (x1.map calA)), (31, .sl 1 true ([[.sl 8 false (x1.map calA)]])), (32, .rw 100 V1 (((jobs.take k).map jobA).length + ([[.sl 8 false (x1.map calA)]] : List (List AV)).length))], [(6, .box b1 26 zN71), (8, .box b2 26 (zN712 me ep V k)), (100, .row V1 51 1 (((jobs.take k).map jobA) ++ ([[.sl 8 false (x1.map calA)]])))]⟩) (by kernel_rfl) (by kernel_rfl) (by kernel_rfl) (by simp <;> omega) (by simp <;> omega) (fun _ => by kernel_rfl) (fun V1 => ?_)
    refine seq_run (r := []) [6, 7] (s' := ⟨[(2, .sl 1 false (jobs.map jobA)), (6, .ptr 6 b1 0), (8, .ptr 8 b2 0), (21, .sl 1 false (jobs.map jobA)), (22, aI (jobs.length : Int)), (23, aI (k : Int)), (24, aB (decide ((k : Int) < (jobs.length : Int)))), (25, .dptr [.sl 8 false (x1.map calA)]), (26, .sl 8 false (x1.map calA)), (10, .sl 8 false (x1.map calA)), (27, .ptr 8 b2 3), (28, .rw 100 V k), (29, .sl 8 false (x1.map calA)), (30, .sl 8 false (x1.map calA)), (31, .sl 1 true ([[.sl 8 false (x1.map calA)]])), (32, .rw 100 V1 (((jobs.take k).map jobA).length + ([[.sl 8 false (x1.map calA)]] : List (List AV)).length)), (33, .ptr 8 b2 3)], [(6, .box b1 26 zN71), (8, .box b2 26 [aI me, aI ep, aI 1, .rw 100 V1 (((jobs.take k).map jobA).length + ([[.sl 8 false (x1.map calA)]] : List (List AV)).length), aI 0, aI 0, aI 0, aN, aN]), (100, .row V1 51 1 (((jobs.take k).map jobA) ++ ([[.sl 8 false (x1.map calA)]])))]⟩) (ps := [b2 = b2]) (by kernel_rfl) ⟨rfl, trivial⟩ ?_
    refine hK11 _ ?_
    try clear hK11 K11
    refine awp_region [0, 1] (by rw [hc]; kernel_rfl) (by kernel_rfl) ?_
    refine seq_run (r := []) [0, 1] (s' := ⟨[(2, .sl 1 false (jobs.map jobA)), (6, .ptr 6 b1 0), (8, .ptr 8 b2 0), (21, .sl 1 false (jobs.map jobA)), (22, aI (jobs.length : Int)), (23, aI ((k : Int) + 1)), (24, aB (decide ((k : Int) < (jobs.length : Int)))), (25, .dptr [.sl 8 false (x1.map calA)]), (26, .sl 8 false (x1.map calA)), (10, .sl 8 false (x1.map calA)), (27, .ptr 8 b2 3), (28, .rw 100 V k), (29, .sl 8 false (x1.map calA)), (30, .sl 8 false (x1.map calA)), (31, .sl 1 true ([[.sl 8 false (x1.map calA)]])), (32, .rw 100 V1 (((jobs.take k).map jobA).length + ([[.sl 8 false (x1.map calA)]] : List (List AV)).length)), (33, .ptr 8 b2 3), (34, aI ((k : Int) + 1))], [(6, .box b1 26 zN71), (8, .box b2 26 [aI me, aI ep, aI 1, .rw 100 V1 (((jobs.take k).map jobA).length + ([[.sl 8 false (x1.map calA)]] : List (List AV)).length), aI 0, aI 0, aI 0, aN, aN]), (100, .row V1 51 1 (((jobs.take k).map jobA) ++ ([[.sl 8 false (x1.map calA)]])))]⟩) (ps := [rng .i64 ((k : Int) + 1)]) (by kernel_rfl) ⟨rng64 (by omega) (by omega), trivial⟩ ?_
    exact ⟨((k + 1), V1), (by omega), (by show _ < _; omega), LS.le ⟨Sub.refl _, Sub.refl _, Sub.refl _, Sub.refl _, Sub.refl _, Sub.refl _, trivial⟩ ⟨⟨_, rfl, SubB.refl _⟩, ⟨_, rfl, SubB.boxs ⟨Sub.refl _, Sub.refl _, Sub.refl _, Sub.of_eq (congrArg _ (by simp; omega)), Sub.refl _, Sub.refl _, Sub.refl _, Sub.refl _, Sub.refl _, trivial⟩⟩, ⟨_, rfl, SubB.of_eq (by simp [List.take_add_one, hx1, jobA] <;> rfl)⟩, trivial⟩⟩
  refine awp_if false (by omega) (by kernel_rfl) q3 ?_
  refine awp_exit ?_
  refine hK7 _ ?_
  try clear hK7 K7
  refine awp_less ⟨[(2, .sl 1 false (jobs.map jobA)), (6, .ptr 6 b1 0), (8, .ptr 8 b2 0)], (zN72 b1 b2 me ep V k jobs)⟩ ⟨Sub.refl _, Sub.refl _, Sub.refl _, trivial⟩ ⟨⟨_, rfl, SubB.refl _⟩, ⟨_, rfl, SubB.refl _⟩, ⟨_, rfl, SubB.refl _⟩, trivial⟩ ?_
  refine awp_seq_k (fun K13 hK13 => ?_)
  refine awp_seq_k (fun K14 hK14 => ?_)
  refine awp_region [0, 1, 2] (by rw [hc]; kernel_rfl) (by kernel_rfl) ?_
  refine seq_run (r := [2]) [0, 1] (s' := ⟨[(2, .sl 1 false (jobs.map jobA)), (6, .ptr 6 b1 0), (8, .ptr 8 b2 0), (35, .sl 1 false (jobs.map jobA)), (36, aI ((jobs.map jobA).length : Int))], (zN72 b1 b2 me ep V k jobs)⟩) (ps := []) (by kernel_rfl) trivial ?_
  refine seq_val (s' := ⟨[(2, .sl 1 false (jobs.map jobA)), (6, .ptr 6 b1 0), (8, .ptr 8 b2 0), (35, .sl 1 false (jobs.map jobA)), (36, aI (jobs.length : Int))], (zN72 b1 b2 me ep V k jobs)⟩) 36 (x := aI ((jobs.map jobA).length : Int)) (y := aI (jobs.length : Int)) (by rw [List.length_map]) (by kernel_rfl) (by kernel_rfl) ?_
  refine seq_run (r := []) [2] (s' := ⟨[(2, .sl 1 false (jobs.map jobA)), (6, .ptr 6 b1 0), (8, .ptr 8 b2 0), (35, .sl 1 false (jobs.map jobA)), (36, aI (jobs.length : Int)), (37, aB ((jobs.length : Int) == 0))], (zN72 b1 b2 me ep V k jobs)⟩) (ps := []) (by kernel_rfl) trivial ?_
  refine hK14 _ ?_
  try clear hK14 K14
  refine awp_less ⟨[(6, .ptr 6 b1 0), (8, .ptr 8 b2 0), (37, aB ((jobs.length : Int) == 0))], (zN72 b1 b2 me ep V k jobs)⟩ ⟨Sub.refl _, Sub.refl _, Sub.refl _, trivial⟩ ⟨⟨_, rfl, SubB.refl _⟩, ⟨_, rfl, SubB.refl _⟩, ⟨_, rfl, SubB.refl _⟩, trivial⟩ ?_
  rcases beqC ((jobs.length : Int)) (0) with ⟨q4, p4⟩ | ⟨q4, p4⟩
  ·
    refine awp_if true (by omega) (by kernel_rfl) q4 ?_
    refine awp_region [0, 1] (by rw [hc]; kernel_rfl) (by kernel_rfl) ?_
    refine seq_run (r := []) [0, 1] (s' := ⟨[(6, .ptr 6 b1 0), (8, .ptr 8 b2 0), (37, aB ((jobs.length : Int) == 0)), (38, .ptr 8 b2 4)], [(6, .box b1 26 zN71), (8, .box b2 26 (zN711 me ep V k)), (100, .row V 51 1 ((jobs.take k).map jobA))]⟩) (ps := [b2 = b2]) (by kernel_rfl) ⟨rfl, trivial⟩ ?_
    refine hK13 _ ?_
    try clear hK13 K13
    refine awp_less ⟨[(6, .ptr 6 b1 0), (8, .ptr 8 b2 0)], [(6, .box b1 26 zN71), (8, .box b2 26 (zN711 me ep V k)), (100, .row V 51 1 ((jobs.take k).map jobA))]⟩ ⟨Sub.refl _, Sub.refl _, trivial⟩ ⟨⟨_, rfl, SubB.refl _⟩, ⟨_, rfl, SubB.refl _⟩, ⟨_, rfl, SubB.refl _⟩, trivial⟩ ?_
    refine awp_seq_k (fun K15 hK15 => ?_)
    refine awp_region [0, 1, 2] (by rw [hc]; kernel_rfl) (by kernel_rfl) ?_
    refine seq_run (r := []) [0, 1, 2] (s' := ⟨[(6, .ptr 6 b1 0), (8, .ptr 8 b2 0), (39, .agg (zN711 me ep V k)), (7, aI 0)], [(6, .box b1 26 (zN711 me ep V k)), (8, .box b2 26 (zN711 me ep V k)), (100, .row V 51 1 ((jobs.take k).map jobA))]⟩) (ps := [b2 = b2, b1 = b1]) (by kernel_rfl) ⟨rfl, rfl, trivial⟩ ?_
    refine hK15 _ ?_
    try clear hK15 K15
    refine awp_less ⟨[(6, .ptr 6 b1 0), (7, aI 0)], [(6, .box b1 26 (zN711 me ep V k)), (100, .row V 51 1 ((jobs.take k).map jobA))]⟩ ⟨Sub.refl _, Sub.refl _, trivial⟩ ⟨⟨_, rfl, SubB.refl _⟩, ⟨_, rfl, SubB.refl _⟩, trivial⟩ ?_
    refine awp_freeze 100 (.row V 51 1 ((jobs.take k).map jobA)) ⟨[(6, .ptr 6 b1 0), (7, aI 0)], [(6, .box b1 26 [aI me, aI ep, aI 1, .sl 1 false ((jobs.take k).map jobA), aI 4, aI 0, aI 0, aN, aN])]⟩ rfl ⟨Fz.refl _ _, Fz.refl _ _, trivial⟩ ⟨⟨rfl, _, rfl, FzB.box _ _ _ _ ⟨Fz.refl _ _, Fz.refl _ _, Fz.refl _ _, Fz.row _ _ _ _ _ _ (by first | rfl | (simp; done) | (simp; omega)), Fz.refl _ _, Fz.refl _ _, Fz.refl _ _, Fz.refl _ _, Fz.refl _ _, trivial⟩⟩, trivial⟩ ?_
    refine awp_ret ?_
    refine fin_ret ⟨[b1 = b1], [.agg [aI me, aI ep, aI 1, .sl 1 false ((jobs.take k).map jobA), aI 4, aI 0, aI 0, aN, aN], aI 0], by kernel_rfl, ⟨rfl, trivial⟩, ?_⟩
    rw [show newD me ep jobs = (⟨me, ep, 1, jobs, 4, 0, 0, [], []⟩, 0) from by unfold newD; rw [if_neg (by omega)]; rw [if_pos (by omega)]]
    exact Sub.tups ⟨Sub.aggs ⟨Sub.refl _, Sub.refl _, Sub.refl _, Sub.of_eq (by first | rfl | (rw [List.take_of_length_le (by omega)])), Sub.refl _, Sub.refl _, Sub.refl _, Sub.nil _ _, Sub.nil _ _, trivial⟩, Sub.refl _, trivial⟩
  refine awp_if false (by omega) (by kernel_rfl) q4 ?_
  refine awp_skip ?_
  refine hK13 _ ?_
  try clear hK13 K13
  refine awp_less ⟨[(6, .ptr 6 b1 0), (8, .ptr 8 b2 0)], (zN72 b1 b2 me ep V k jobs)⟩ ⟨Sub.refl _, Sub.refl _, trivial⟩ ⟨⟨_, rfl, SubB.refl _⟩, ⟨_, rfl, SubB.refl _⟩, ⟨_, rfl, SubB.refl _⟩, trivial⟩ ?_
  refine awp_seq_k (fun K16 hK16 => ?_)
  refine awp_region [0, 1, 2] (by rw [hc]; kernel_rfl) (by kernel_rfl) ?_
  refine seq_run (r := []) [0, 1, 2] (s' := ⟨[(6, .ptr 6 b1 0), (8, .ptr 8 b2 0), (39, .agg (zN712 me ep V k)), (7, aI 0)], [(6, .box b1 26 (zN712 me ep V k)), (8, .box b2 26 (zN712 me ep V k)), (100, .row V 51 1 ((jobs.take k).map jobA))]⟩) (ps := [b2 = b2, b1 = b1]) (by kernel_rfl) ⟨rfl, rfl, trivial⟩ ?_
  refine hK16 _ ?_
  try clear hK16 K16
  refine awp_less ⟨[(6, .ptr 6 b1 0), (7, aI 0)], [(6, .box b1 26 (zN712 me ep V k)), (100, .row V 51 1 ((jobs.take k).map jobA))]⟩ ⟨Sub.refl _, Sub.refl _, trivial⟩ ⟨⟨_, rfl, SubB.refl _⟩, ⟨_, rfl, SubB.refl _⟩, trivial⟩ ?_
  refine awp_freeze 100 (.row V 51 1 ((jobs.take k).map jobA)) ⟨[(6, .ptr 6 b1 0), (7, aI 0)], [(6, .box b1 26 [aI me, aI ep, aI 1, .sl 1 false ((jobs.take k).map jobA), aI 0, aI 0, aI 0, aN, aN])]⟩ rfl ⟨Fz.refl _ _, Fz.refl _ _, trivial⟩ ⟨⟨rfl, _, rfl, FzB.box _ _ _ _ ⟨Fz.refl _ _, Fz.refl _ _, Fz.refl _ _, Fz.row _ _ _ _ _ _ (by first | rfl | (simp; done) | (simp; omega)), Fz.refl _ _, Fz.refl _ _, Fz.refl _ _, Fz.refl _ _, Fz.refl _ _, trivial⟩⟩, trivial⟩ ?_
  refine awp_ret ?_
  refine fin_ret ⟨[b1 = b1], [.agg [aI me, aI ep, aI 1, .sl 1 false ((jobs.take k).map jobA), aI 0, aI 0, aI 0, aN, aN], aI 0], by kernel_rfl, ⟨rfl, trivial⟩, ?_⟩
  rw [show newD me ep jobs = (⟨me, ep, 1, jobs, 0, 0, 0, [], []⟩, 0) from by unfold newD; rw [if_neg (by omega)]; rw [if_neg (by omega)]]
  exact Sub.tups ⟨Sub.aggs ⟨Sub.refl _, Sub.refl _, Sub.refl _, Sub.of_eq (by first | rfl | (rw [List.take_of_length_le (by omega)])), Sub.refl _, Sub.refl _, Sub.refl _, Sub.nil _ _, Sub.nil _ _, trivial⟩, Sub.refl _, trivial⟩
end Go.Proofs.Ytpdedjbkfcaebaa
