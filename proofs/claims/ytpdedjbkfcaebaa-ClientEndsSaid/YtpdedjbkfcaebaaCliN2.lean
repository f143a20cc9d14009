/- client.job, idle, onward; ref18.long; a row of calls anew. -/
import Derived.Test.YtpdedjbkfcaebaaCliN1
set_option linter.unusedVariables false
set_option linter.unusedSimpArgs false
namespace Go.Proofs.Ytpdedjbkfcaebaa
open Go.RowKit Copyhold
def zN21 (x : Cli) : List AV := [aI x.me, aI x.epoch, aI x.seq, .sl 1 false (x.jobs.map jobA), aI x.phase, aI x.n, aI x.stamp, .sl 4 false (x.told.map donA), .sl 6 false (x.now.map repA)]
def zN22 (x : Cli) (yes : Bool) (er : Int) : List AV := [aI x.seq, aB yes, aI er, .sl 6 false (x.now.map repA)]
def zN23 (x : Cli) (yes : Bool) (er : Int) : List AV := [aI x.me, aI x.epoch, aI x.seq, .sl 1 false (x.jobs.map jobA), aI 3, aI x.n, aI x.stamp, .sl 4 false ((x.told ++ [(⟨x.seq, yes, er, x.now⟩ : Don)]).map donA), .sl 6 false (x.now.map repA)]
def zN24 : List AV := [aI 0, aI 0, aI 0, aN, aI 0, aI 0, aI 0, aN, aN]
def zN26 (x : Cli) (yes : Bool) (er : Int) : List AV := [aI x.me, aI x.epoch, aI x.seq, .sl 1 false (x.jobs.map jobA), aI 3, aI 0, aI 0, .sl 4 false ((x.told ++ [(⟨x.seq, yes, er, x.now⟩ : Don)]).map donA), .sl 6 false (([] : List Rep).map repA)]
def zN27 (x : Cli) : List AV := [aI x.me, aI x.epoch, aI x.seq, .sl 1 false (x.jobs.map jobA), aI x.phase, aI 0, aI 0, .sl 4 false (x.told.map donA), aN]
def zN213 (b1 : Nat) (x : Cli) : LS := ⟨[(1, .ptr 1 b1 0), (2, aI 0)], [(1, .box b1 26 (zN21 x))]⟩
def zN214 (x : Cli) (b1 : Nat) : LS := ⟨[(0, .agg (zN21 x)), (1, .ptr 1 b1 0)], [(1, .box b1 26 (zN21 x))]⟩
def zN215 (b1 : Nat) (x : Cli) (yes : Bool) (er : Int) (b2 : Nat) : List (Nat × Bx) := [(3, .box b1 26 [aI x.me, aI x.epoch, aI x.seq, .sl 1 false (x.jobs.map jobA), aI x.phase, aI x.n, aI x.stamp, .sl 4 false ((x.told ++ [(⟨x.seq, yes, er, x.now⟩ : Don)]).map donA), .sl 6 false (x.now.map repA)]), (6, .box b2 26 zN24)]
def zN216 (b1 : Nat) (x : Cli) (b2 : Nat) : List (Nat × Bx) := [(3, .box b1 26 (zN21 x)), (6, .box b2 26 zN24)]
def zN217 (b1 : Nat) (x : Cli) : LS := ⟨[(1, .ptr 1 b1 0), (2, aN)], [(1, .box b1 26 (zN21 x))]⟩
def zN218 (b1 : Nat) (b2 : Nat) : List (Nat × AV) := [(3, .ptr 3 b1 0), (6, .ptr 6 b2 0)]
set_option maxRecDepth 100000 in
set_option maxHeartbeats 4000000 in
theorem job_spec (x : Cli) (hs : I64 x.seq) : FSpec Try.prog 48 [.agg [aI x.me, aI x.epoch, aI x.seq, .sl 1 false (x.jobs.map jobA), aI x.phase, aI x.n, aI x.stamp, .sl 4 false (x.told.map donA), .sl 6 false (x.now.map repA)]] (.sl 8 false ((jobOf x).map calA)) := by
  obtain ⟨hs1, hs2⟩ := hs
  refine spec_enter ⟨[(0, .agg (zN21 x))], []⟩ Try.func48 rfl (by kernel_rfl) (by kernel_rfl) rfl (fun t => match t with | 0 => rfl | _ + 1 => rfl) (fun c hc => ?_)
  replace hc : c.n = 21 := hc
  refine awp_seq_k (fun K1 hK1 => ?_)
  refine awp_region [0, 1] (by rw [hc]; kernel_rfl) (by kernel_rfl) ?_
  refine seq_new (f := fun b1 => (zN214 x b1)) (by kernel_rfl) (fun b1 => ?_)
  refine seq_run (r := []) [1] (s' := ⟨[(0, .agg (zN21 x)), (1, .ptr 1 b1 0), (2, aN)], [(1, .box b1 26 (zN21 x))]⟩) (ps := []) (by kernel_rfl) trivial ?_
  refine hK1 _ ?_
  try clear hK1 K1
  refine awp_less (zN217 b1 x) ⟨Sub.refl _, Sub.refl _, trivial⟩ ⟨⟨_, rfl, SubB.refl _⟩, trivial⟩ ?_
  refine awp_seq_k (fun K2 hK2 => ?_)
  refine awp_seq_k (fun K3 hK3 => ?_)
  refine awp_region [0, 1, 2, 3, 4, 5, 6, 7, 8, 9, 10] (by rw [hc]; kernel_rfl) (by kernel_rfl) ?_
  refine seq_run (r := [4, 5, 6, 7, 8, 9, 10]) [0, 1, 2, 3] (s' := ⟨[(1, .ptr 1 b1 0), (2, aN), (3, .ptr 1 b1 2), (4, aI x.seq), (5, aB (decide (x.seq < 1))), (6, aB (decide (x.seq < 1)))], [(1, .box b1 26 (zN21 x))]⟩) (ps := [b1 = b1]) (by kernel_rfl) ⟨rfl, trivial⟩ ?_
  rcases decC (x.seq < 1) with ⟨q1, p1⟩ | ⟨q1, p1⟩
  ·
    refine seq_bool (s' := ⟨[(1, .ptr 1 b1 0), (2, aN), (3, .ptr 1 b1 2), (4, aI x.seq), (5, aB (decide (x.seq < 1))), (6, aB true)], [(1, .box b1 26 (zN21 x))]⟩) 6 (b := decide (x.seq < 1)) (v := true) q1 (by kernel_rfl) (by kernel_rfl) ?_
    refine seq_run (r := []) [4, 5, 6, 7, 8, 9, 10] (s' := ⟨[(1, .ptr 1 b1 0), (2, aN), (3, .ptr 1 b1 2), (4, aI x.seq), (5, aB (decide (x.seq < 1))), (6, aB true), (7, .val undef), (8, .val undef), (9, .val undef), (10, .val undef), (11, .val undef), (12, .val undef), (13, aB true)], [(1, .box b1 26 (zN21 x))]⟩) (ps := []) (by kernel_rfl) trivial ?_
    refine hK3 _ ?_
    try clear hK3 K3
    refine awp_less ⟨[(1, .ptr 1 b1 0), (2, aN), (13, aB true)], [(1, .box b1 26 (zN21 x))]⟩ ⟨Sub.refl _, Sub.refl _, Sub.refl _, trivial⟩ ⟨⟨_, rfl, SubB.refl _⟩, trivial⟩ ?_
    refine awp_if true (by omega) (by kernel_rfl) rfl ?_
    refine awp_seq_k (fun K4 hK4 => ?_)
    refine awp_region [0] (by rw [hc]; kernel_rfl) (by kernel_rfl) ?_
    refine seq_run (r := []) [0] (s' := ⟨[(1, .ptr 1 b1 0), (2, aN), (13, aB true)], [(1, .box b1 26 (zN21 x))]⟩) (ps := []) (by kernel_rfl) trivial ?_
    refine hK4 _ ?_
    try clear hK4 K4
    refine awp_less (zN217 b1 x) ⟨Sub.refl _, Sub.refl _, trivial⟩ ⟨⟨_, rfl, SubB.refl _⟩, trivial⟩ ?_
    refine awp_ret ?_
    refine fin_ret ⟨[], [aN], by kernel_rfl, trivial, ?_⟩
    rw [jobOf_none (by omega)]
    exact Sub.nil _ _
  refine seq_bool (s' := ⟨[(1, .ptr 1 b1 0), (2, aN), (3, .ptr 1 b1 2), (4, aI x.seq), (5, aB (decide (x.seq < 1))), (6, aB false)], [(1, .box b1 26 (zN21 x))]⟩) 6 (b := decide (x.seq < 1)) (v := false) q1 (by kernel_rfl) (by kernel_rfl) ?_
  refine seq_run (r := [9, 10]) [4, 5, 6, 7, 8] (s' := ⟨[(1, .ptr 1 b1 0), (2, aN), (3, .ptr 1 b1 2), (4, aI x.seq), (5, aB (decide (x.seq < 1))), (6, aB false), (7, .ptr 1 b1 2), (8, aI x.seq), (9, .ptr 1 b1 3), (10, .sl 1 false (x.jobs.map jobA)), (11, aI ((x.jobs.map jobA).length : Int))], [(1, .box b1 26 (zN21 x))]⟩) (ps := [b1 = b1, b1 = b1]) (by kernel_rfl) ⟨rfl, rfl, trivial⟩ ?_
  refine seq_val (s' := ⟨[(1, .ptr 1 b1 0), (2, aN), (3, .ptr 1 b1 2), (4, aI x.seq), (5, aB (decide (x.seq < 1))), (6, aB false), (7, .ptr 1 b1 2), (8, aI x.seq), (9, .ptr 1 b1 3), (10, .sl 1 false (x.jobs.map jobA)), (11, aI (x.jobs.length : Int))], [(1, .box b1 26 (zN21 x))]⟩) 11 (x := aI ((x.jobs.map jobA).length : Int)) (y := aI (x.jobs.length : Int)) (by rw [List.length_map]) (by kernel_rfl) (by kernel_rfl) ?_
  refine seq_run (r := []) [9, 10] (s' := ⟨[(1, .ptr 1 b1 0), (2, aN), (3, .ptr 1 b1 2), (4, aI x.seq), (5, aB (decide (x.seq < 1))), (6, aB false), (7, .ptr 1 b1 2), (8, aI x.seq), (9, .ptr 1 b1 3), (10, .sl 1 false (x.jobs.map jobA)), (11, aI (x.jobs.length : Int)), (12, aB (decide (x.seq > (x.jobs.length : Int)))), (13, aB (decide (x.seq > (x.jobs.length : Int))))], [(1, .box b1 26 (zN21 x))]⟩) (ps := []) (by kernel_rfl) trivial ?_
  refine hK3 _ ?_
  try clear hK3 K3
  refine awp_less ⟨[(1, .ptr 1 b1 0), (2, aN), (13, aB (decide (x.seq > (x.jobs.length : Int))))], [(1, .box b1 26 (zN21 x))]⟩ ⟨Sub.refl _, Sub.refl _, Sub.refl _, trivial⟩ ⟨⟨_, rfl, SubB.refl _⟩, trivial⟩ ?_
  rcases decC (x.seq > (x.jobs.length : Int)) with ⟨q2, p2⟩ | ⟨q2, p2⟩
  ·
    refine awp_if true (by omega) (by kernel_rfl) q2 ?_
    refine awp_seq_k (fun K5 hK5 => ?_)
    refine awp_region [0] (by rw [hc]; kernel_rfl) (by kernel_rfl) ?_
    refine seq_run (r := []) [0] (s' := ⟨[(1, .ptr 1 b1 0), (2, aN), (13, aB (decide (x.seq > (x.jobs.length : Int))))], [(1, .box b1 26 (zN21 x))]⟩) (ps := []) (by kernel_rfl) trivial ?_
    refine hK5 _ ?_
    try clear hK5 K5
    refine awp_less (zN217 b1 x) ⟨Sub.refl _, Sub.refl _, trivial⟩ ⟨⟨_, rfl, SubB.refl _⟩, trivial⟩ ?_
    refine awp_ret ?_
    refine fin_ret ⟨[], [aN], by kernel_rfl, trivial, ?_⟩
    rw [jobOf_none (by omega)]
    exact Sub.nil _ _
  refine awp_if false (by omega) (by kernel_rfl) q2 ?_
  refine awp_skip ?_
  refine hK2 _ ?_
  try clear hK2 K2
  refine awp_less (zN217 b1 x) ⟨Sub.refl _, Sub.refl _, trivial⟩ ⟨⟨_, rfl, SubB.refl _⟩, trivial⟩ ?_
  refine awp_seq_k (fun K6 hK6 => ?_)
  refine awp_region [0, 1, 2, 3, 4, 5, 6, 7] (by rw [hc]; kernel_rfl) (by kernel_rfl) ?_
  refine seq_run (r := [5, 6, 7]) [0, 1, 2, 3, 4] (s' := ⟨[(1, .ptr 1 b1 0), (2, aN), (14, .ptr 1 b1 3), (15, .sl 1 false (x.jobs.map jobA)), (16, .ptr 1 b1 2), (17, aI x.seq), (18, aI (x.seq - 1))], [(1, .box b1 26 (zN21 x))]⟩) (ps := [b1 = b1, b1 = b1, rng .i64 (x.seq - 1)]) (by kernel_rfl) ⟨rfl, rfl, rng64 (by omega) (by omega), trivial⟩ ?_
  obtain ⟨i, hi⟩ : ∃ i : Nat, x.seq - 1 = (i : Int) := ⟨(x.seq - 1).toNat, by omega⟩
  obtain ⟨j, hj⟩ := some_of (l := x.jobs) (k := i) (by omega)
  refine seq_idx (s' := ⟨[(1, .ptr 1 b1 0), (2, aN), (14, .ptr 1 b1 3), (15, .sl 1 false (x.jobs.map jobA)), (16, .ptr 1 b1 2), (17, aI x.seq), (18, aI (x.seq - 1)), (19, .dptr [.sl 8 false (j.map calA)])], [(1, .box b1 26 (zN21 x))]⟩) (xs := x.jobs.map jobA) (m := x.seq - 1) (d := some 19) (e := [.sl 8 false (j.map calA)]) (i) (by kernel_rfl) hi (map_some hj) (by kernel_rfl) ?_
  refine seq_run (r := []) [6, 7] (s' := ⟨[(1, .ptr 1 b1 0), (2, .sl 8 false (j.map calA)), (14, .ptr 1 b1 3), (15, .sl 1 false (x.jobs.map jobA)), (16, .ptr 1 b1 2), (17, aI x.seq), (18, aI (x.seq - 1)), (19, .dptr [.sl 8 false (j.map calA)]), (20, .sl 8 false (j.map calA))], [(1, .box b1 26 (zN21 x))]⟩) (ps := []) (by kernel_rfl) trivial ?_
  refine hK6 _ ?_
  try clear hK6 K6
  refine awp_less ⟨[(2, .sl 8 false (j.map calA))], []⟩ ⟨Sub.refl _, trivial⟩ trivial ?_
  refine awp_ret ?_
  refine fin_ret ⟨[], [.sl 8 false (j.map calA)], by kernel_rfl, trivial, ?_⟩
  have hJ : jobOf x = j := by
    unfold jobOf
    rw [if_pos (by omega), hi]
    simp [List.getD, hj]
  rw [hJ]
  exact Sub.refl _
theorem pc2 {k : Nat} {t t1 t2 : Bool} (A B : List (List AV)) : Sub (.sl 1 t [[.sl k t1 A], [.sl k t2 B]]) (.sl 1 false [[.sl k false A], [.sl k false B]]) :=
  have h1 : Sub (.sl 1 t [[.sl k t1 A], [.sl k t2 B]]) (.sl 1 t [[.sl k false A], [.sl k false B]]) := Sub.sl2 rfl (fun i e e' h h' => by
    match i, h, h' with
    | 0, h, h' => simp at h h'; subst h h'; exact ⟨Sub.loose _ _ _, trivial⟩
    | 1, h, h' => simp at h h'; subst h h'; exact ⟨Sub.loose _ _ _, trivial⟩
    | i + 2, h, _ => simp at h)
  h1.trans (Sub.loose _ _ _)
theorem concat_don2 (l : List Don) (d : Don) {t t1 t2 : Bool} (hl : l.length ≤ 90000) : FSpec Try.prog 58 [.sl 1 t [[.sl 4 t1 (l.map donA)], [.sl 4 t2 [donA d]]]] (.sl 4 false ((l ++ [d]).map donA)) := by
  have h := concat_don [l.map donA, [donA d]] (by simp) (by simp; omega)
  refine h.sub rfl (fun j x y hx hy => ?_) (Sub.of_eq (by simp))
  match j, hx, hy with
  | 0, hx, hy => simp at hx hy; subst hx hy; exact pc2 _ _
  | j + 1, hx, _ => simp at hx
theorem concat_rep2 (l : List Rep) (d : Rep) {t t1 t2 : Bool} (hl : l.length ≤ 90000) : FSpec Try.prog 57 [.sl 1 t [[.sl 6 t1 (l.map repA)], [.sl 6 t2 [repA d]]]] (.sl 6 false ((l ++ [d]).map repA)) := by
  have h := concat_rep [l.map repA, [repA d]] (by simp) (by simp; omega)
  refine h.sub rfl (fun j x y hx hy => ?_) (Sub.of_eq (by simp))
  match j, hx, hy with
  | 0, hx, hy => simp at hx hy; subst hx hy; exact pc2 _ _
  | j + 1, hx, _ => simp at hx
set_option maxRecDepth 100000 in
set_option maxHeartbeats 4000000 in
theorem idle_spec (x : Cli) : FSpec Try.prog 53 [.agg [aI x.me, aI x.epoch, aI x.seq, .sl 1 false (x.jobs.map jobA), aI x.phase, aI x.n, aI x.stamp, .sl 4 false (x.told.map donA), .sl 6 false (x.now.map repA)]] (.agg (cliA (idleD x))) := by
  refine spec_enter ⟨[(0, .agg (zN21 x))], []⟩ Try.func53 rfl (by kernel_rfl) (by kernel_rfl) rfl (fun t => match t with | 0 => rfl | _ + 1 => rfl) (fun c hc => ?_)
  replace hc : c.n = 7 := hc
  refine awp_seq_k (fun K1 hK1 => ?_)
  refine awp_region [0, 1] (by rw [hc]; kernel_rfl) (by kernel_rfl) ?_
  refine seq_new (f := fun b1 => (zN214 x b1)) (by kernel_rfl) (fun b1 => ?_)
  refine seq_new (f := fun b2 => ⟨[(0, .agg (zN21 x)), (1, .ptr 1 b1 0), (2, .ptr 2 b2 0)], [(1, .box b1 26 (zN21 x)), (2, .box b2 26 zN24)]⟩) (by kernel_rfl) (fun b2 => ?_)
  refine hK1 _ ?_
  try clear hK1 K1
  refine awp_less ⟨[(1, .ptr 1 b1 0), (2, .ptr 2 b2 0)], [(1, .box b1 26 (zN21 x)), (2, .box b2 26 zN24)]⟩ ⟨Sub.refl _, Sub.refl _, trivial⟩ ⟨⟨_, rfl, SubB.refl _⟩, ⟨_, rfl, SubB.refl _⟩, trivial⟩ ?_
  refine awp_seq_k (fun K2 hK2 => ?_)
  refine awp_region [0, 1, 2, 3, 4, 5] (by rw [hc]; kernel_rfl) (by kernel_rfl) ?_
  refine seq_run (r := []) [0, 1, 2, 3, 4, 5] (s' := ⟨[(1, .ptr 1 b1 0), (2, .ptr 2 b2 0), (3, .ptr 1 b1 5), (4, .ptr 1 b1 6), (5, .ptr 1 b1 8)], [(1, .box b1 26 (zN27 x)), (2, .box b2 26 zN24)]⟩) (ps := [b1 = b1, b1 = b1, b1 = b1]) (by kernel_rfl) ⟨rfl, rfl, rfl, trivial⟩ ?_
  refine hK2 _ ?_
  try clear hK2 K2
  refine awp_less ⟨[(1, .ptr 1 b1 0), (2, .ptr 2 b2 0)], [(1, .box b1 26 (zN27 x)), (2, .box b2 26 zN24)]⟩ ⟨Sub.refl _, Sub.refl _, trivial⟩ ⟨⟨_, rfl, SubB.refl _⟩, ⟨_, rfl, SubB.refl _⟩, trivial⟩ ?_
  refine awp_seq_k (fun K3 hK3 => ?_)
  refine awp_region [0, 1] (by rw [hc]; kernel_rfl) (by kernel_rfl) ?_
  refine seq_run (r := []) [0, 1] (s' := ⟨[(1, .ptr 1 b1 0), (2, .ptr 2 b2 0), (6, .agg (zN27 x))], [(1, .box b1 26 (zN27 x)), (2, .box b2 26 (zN27 x))]⟩) (ps := [b1 = b1, b2 = b2]) (by kernel_rfl) ⟨rfl, rfl, trivial⟩ ?_
  refine hK3 _ ?_
  try clear hK3 K3
  refine awp_less ⟨[(2, .ptr 2 b2 0)], [(2, .box b2 26 (zN27 x))]⟩ ⟨Sub.refl _, trivial⟩ ⟨⟨_, rfl, SubB.refl _⟩, trivial⟩ ?_
  refine awp_ret ?_
  refine fin_ret ⟨[b2 = b2], [.agg (zN27 x)], by kernel_rfl, ⟨rfl, trivial⟩, ?_⟩
  exact Sub.aggs ⟨Sub.refl _, Sub.refl _, Sub.refl _, Sub.refl _, Sub.refl _, Sub.refl _, Sub.refl _, Sub.refl _, Sub.nil _ _, trivial⟩
set_option maxRecDepth 100000 in
set_option maxHeartbeats 4000000 in
theorem onward_spec (x : Cli) (hs : I64 x.seq) : FSpec Try.prog 55 [.agg [aI x.me, aI x.epoch, aI x.seq, .sl 1 false (x.jobs.map jobA), aI x.phase, aI x.n, aI x.stamp, .sl 4 false (x.told.map donA), .sl 6 false (x.now.map repA)]] (aI (onwardD x)) := by
  refine spec_enter ⟨[(0, .agg (zN21 x))], []⟩ Try.func55 rfl (by kernel_rfl) (by kernel_rfl) rfl (fun t => match t with | 0 => rfl | _ + 1 => rfl) (fun c hc => ?_)
  replace hc : c.n = 9 := hc
  refine awp_seq_k (fun K1 hK1 => ?_)
  refine awp_region [0, 1] (by rw [hc]; kernel_rfl) (by kernel_rfl) ?_
  refine seq_new (f := fun b1 => (zN214 x b1)) (by kernel_rfl) (fun b1 => ?_)
  refine seq_run (r := []) [1] (s' := ⟨[(0, .agg (zN21 x)), (1, .ptr 1 b1 0), (2, aI 0)], [(1, .box b1 26 (zN21 x))]⟩) (ps := []) (by kernel_rfl) trivial ?_
  refine hK1 _ ?_
  try clear hK1 K1
  refine awp_less (zN213 b1 x) ⟨Sub.refl _, Sub.refl _, trivial⟩ ⟨⟨_, rfl, SubB.refl _⟩, trivial⟩ ?_
  refine awp_seq_k (fun K2 hK2 => ?_)
  refine awp_seq_k (fun K3 hK3 => ?_)
  refine awp_region_draw [0, 1, 2, 3, 4, 5] (by kernel_rfl) (by rw [hc]; kernel_rfl) (by kernel_rfl) ?_
  refine seq_run (r := [3, 4, 5]) [0, 1, 2] (s' := ⟨[(1, .ptr 1 b1 0), (2, aI 0), (3, .ptr 1 b1 5), (4, aI x.n), (5, .agg (zN21 x))], [(1, .box b1 26 (zN21 x))]⟩) (ps := [b1 = b1, b1 = b1]) (by kernel_rfl) ⟨rfl, rfl, trivial⟩ ?_
  refine seq_call (f := 48) (args := [.agg (zN21 x)]) (d := some 6) (args' := [.agg (zN21 x)]) (s' := ⟨[(1, .ptr 1 b1 0), (2, aI 0), (3, .ptr 1 b1 5), (4, aI x.n), (5, .agg (zN21 x)), (6, .sl 8 false ((jobOf (⟨x.me, x.epoch, x.seq, x.jobs, x.phase, x.n, x.stamp, x.told, x.now⟩ : Cli)).map calA))], [(1, .box b1 26 (zN21 x))]⟩) (by kernel_rfl) (fun _ _ => rfl) ⟨Sub.refl _, trivial⟩ (job_spec (⟨x.me, x.epoch, x.seq, x.jobs, x.phase, x.n, x.stamp, x.told, x.now⟩ : Cli) hs) (by kernel_rfl) ?_
  refine seq_run (r := [5]) [4] (s' := ⟨[(1, .ptr 1 b1 0), (2, aI 0), (3, .ptr 1 b1 5), (4, aI x.n), (5, .agg (zN21 x)), (6, .sl 8 false ((jobOf (⟨x.me, x.epoch, x.seq, x.jobs, x.phase, x.n, x.stamp, x.told, x.now⟩ : Cli)).map calA)), (7, aI (((jobOf (⟨x.me, x.epoch, x.seq, x.jobs, x.phase, x.n, x.stamp, x.told, x.now⟩ : Cli)).map calA).length : Int))], [(1, .box b1 26 (zN21 x))]⟩) (ps := []) (by kernel_rfl) trivial ?_
  refine seq_val (s' := ⟨[(1, .ptr 1 b1 0), (2, aI 0), (3, .ptr 1 b1 5), (4, aI x.n), (5, .agg (zN21 x)), (6, .sl 8 false ((jobOf (⟨x.me, x.epoch, x.seq, x.jobs, x.phase, x.n, x.stamp, x.told, x.now⟩ : Cli)).map calA)), (7, aI ((jobOf (⟨x.me, x.epoch, x.seq, x.jobs, x.phase, x.n, x.stamp, x.told, x.now⟩ : Cli)).length : Int))], [(1, .box b1 26 (zN21 x))]⟩) 7 (x := aI (((jobOf (⟨x.me, x.epoch, x.seq, x.jobs, x.phase, x.n, x.stamp, x.told, x.now⟩ : Cli)).map calA).length : Int)) (y := aI ((jobOf (⟨x.me, x.epoch, x.seq, x.jobs, x.phase, x.n, x.stamp, x.told, x.now⟩ : Cli)).length : Int)) (by rw [List.length_map]) (by kernel_rfl) (by kernel_rfl) ?_
  refine seq_run (r := []) [5] (s' := ⟨[(1, .ptr 1 b1 0), (2, aI 0), (3, .ptr 1 b1 5), (4, aI x.n), (5, .agg (zN21 x)), (6, .sl 8 false ((jobOf (⟨x.me, x.epoch, x.seq, x.jobs, x.phase, x.n, x.stamp, x.told, x.now⟩ : Cli)).map calA)), (7, aI ((jobOf (⟨x.me, x.epoch, x.seq, x.jobs, x.phase, x.n, x.stamp, x.told, x.now⟩ : Cli)).length : Int)), (8, aB (x.n == ((jobOf (⟨x.me, x.epoch, x.seq, x.jobs, x.phase, x.n, x.stamp, x.told, x.now⟩ : Cli)).length : Int)))], [(1, .box b1 26 (zN21 x))]⟩) (ps := []) (by kernel_rfl) trivial ?_
  refine hK3 _ ?_
  try clear hK3 K3
  refine awp_less ⟨[(2, aI 0), (8, aB (x.n == ((jobOf (⟨x.me, x.epoch, x.seq, x.jobs, x.phase, x.n, x.stamp, x.told, x.now⟩ : Cli)).length : Int)))], []⟩ ⟨Sub.refl _, Sub.refl _, trivial⟩ trivial ?_
  rcases beqC (x.n) (((jobOf (⟨x.me, x.epoch, x.seq, x.jobs, x.phase, x.n, x.stamp, x.told, x.now⟩ : Cli)).length : Int)) with ⟨q1, p1⟩ | ⟨q1, p1⟩
  ·
    refine awp_if true (by omega) (by kernel_rfl) q1 ?_
    refine awp_seq_k (fun K4 hK4 => ?_)
    refine awp_region [0] (by rw [hc]; kernel_rfl) (by kernel_rfl) ?_
    refine seq_run (r := []) [0] (s' := ⟨[(2, aI 2), (8, aB (x.n == ((jobOf (⟨x.me, x.epoch, x.seq, x.jobs, x.phase, x.n, x.stamp, x.told, x.now⟩ : Cli)).length : Int)))], []⟩) (ps := []) (by kernel_rfl) trivial ?_
    refine hK4 _ ?_
    try clear hK4 K4
    refine awp_less ⟨[(2, aI 2)], []⟩ ⟨Sub.refl _, trivial⟩ trivial ?_
    refine awp_ret ?_
    refine fin_ret ⟨[], [aI 2], by kernel_rfl, trivial, ?_⟩
    have hF : onwardD x = 2 := if_pos p1
    rw [hF]
    exact Sub.refl _
  refine awp_if false (by omega) (by kernel_rfl) q1 ?_
  refine awp_skip ?_
  refine hK2 _ ?_
  try clear hK2 K2
  refine awp_less ⟨[(2, aI 0)], []⟩ ⟨Sub.refl _, trivial⟩ trivial ?_
  refine awp_seq_k (fun K5 hK5 => ?_)
  refine awp_region [0] (by rw [hc]; kernel_rfl) (by kernel_rfl) ?_
  refine seq_run (r := []) [0] (s' := ⟨[(2, aI 1)], []⟩) (ps := []) (by kernel_rfl) trivial ?_
  refine hK5 _ ?_
  try clear hK5 K5
  refine awp_ret ?_
  refine fin_ret ⟨[], [aI 1], by kernel_rfl, trivial, ?_⟩
  have hF : onwardD x = 1 := if_neg p1
  rw [hF]
  exact Sub.refl _
set_option maxRecDepth 100000 in
set_option maxHeartbeats 4000000 in
theorem over_spec (x : Cli) (yes : Bool) (er : Int) (ht : x.told.length ≤ 90000) : FSpec Try.prog 56 [.agg [aI x.me, aI x.epoch, aI x.seq, .sl 1 false (x.jobs.map jobA), aI x.phase, aI x.n, aI x.stamp, .sl 4 false (x.told.map donA), .sl 6 false (x.now.map repA)], aB yes, aI er] (.agg (cliA (overD x yes er))) := by
  refine spec_enter ⟨[(0, .agg (zN21 x)), (1, aB yes), (2, aI er)], []⟩ Try.func56 rfl (by kernel_rfl) (by kernel_rfl) rfl (fun t => match t with | 0 => rfl | 1 => rfl | 2 => rfl | _ + 3 => rfl) (fun c hc => ?_)
  replace hc : c.n = 23 := hc
  refine awp_seq_k (fun K1 hK1 => ?_)
  refine awp_region [0, 1] (by rw [hc]; kernel_rfl) (by kernel_rfl) ?_
  refine seq_new (f := fun b1 => ⟨[(0, .agg (zN21 x)), (1, aB yes), (2, aI er), (3, .ptr 3 b1 0)], [(3, .box b1 26 (zN21 x))]⟩) (by kernel_rfl) (fun b1 => ?_)
  refine seq_new (f := fun b2 => ⟨[(0, .agg (zN21 x)), (1, aB yes), (2, aI er), (3, .ptr 3 b1 0), (6, .ptr 6 b2 0)], (zN216 b1 x b2)⟩) (by kernel_rfl) (fun b2 => ?_)
  refine hK1 _ ?_
  try clear hK1 K1
  refine awp_less ⟨[(1, aB yes), (2, aI er), (3, .ptr 3 b1 0), (6, .ptr 6 b2 0)], (zN216 b1 x b2)⟩ ⟨Sub.refl _, Sub.refl _, Sub.refl _, Sub.refl _, trivial⟩ ⟨⟨_, rfl, SubB.refl _⟩, ⟨_, rfl, SubB.refl _⟩, trivial⟩ ?_
  refine awp_seq_k (fun K2 hK2 => ?_)
  refine awp_region [0, 1, 2, 3, 4, 5, 6, 7, 8, 9, 10, 11, 12, 13] (by rw [hc]; kernel_rfl) (by kernel_rfl) ?_
  refine seq_run (r := [11, 12, 13]) [0, 1, 2, 3, 4, 5, 6, 7, 8, 9, 10] (s' := ⟨[(1, aB yes), (2, aI er), (3, .ptr 3 b1 0), (6, .ptr 6 b2 0), (7, .ptr 3 b1 7), (8, .sl 4 false (x.told.map donA)), (9, .ptr 3 b1 2), (10, aI x.seq), (11, aB yes), (12, aI er), (13, .ptr 3 b1 8), (14, .sl 6 false (x.now.map repA)), (15, .agg (zN22 x yes er)), (16, .sl 4 true ([(zN22 x yes er)])), (17, .sl 1 true ([[.sl 4 false (x.told.map donA)], [.sl 4 true ([(zN22 x yes er)])]]))], (zN216 b1 x b2)⟩) (ps := [b1 = b1, b1 = b1, b1 = b1]) (by kernel_rfl) ⟨rfl, rfl, rfl, trivial⟩ ?_
  refine seq_call (f := 58) (args := [.sl 1 true ([[.sl 4 false (x.told.map donA)], [.sl 4 true ([(zN22 x yes er)])]])]) (d := some 18) (args' := [.sl 1 true ([[.sl 4 false (x.told.map donA)], [.sl 4 true ([(zN22 x yes er)])]])]) (s' := ⟨[(1, aB yes), (2, aI er), (3, .ptr 3 b1 0), (6, .ptr 6 b2 0), (7, .ptr 3 b1 7), (8, .sl 4 false (x.told.map donA)), (9, .ptr 3 b1 2), (10, aI x.seq), (11, aB yes), (12, aI er), (13, .ptr 3 b1 8), (14, .sl 6 false (x.now.map repA)), (15, .agg (zN22 x yes er)), (16, .sl 4 true ([(zN22 x yes er)])), (17, .sl 1 true ([[.sl 4 false (x.told.map donA)], [.sl 4 true ([(zN22 x yes er)])]])), (18, .sl 4 false ((x.told ++ [(⟨x.seq, yes, er, x.now⟩ : Don)]).map donA))], (zN216 b1 x b2)⟩) (by kernel_rfl) (fun _ _ => rfl) ⟨Sub.refl _, trivial⟩ (concat_don2 x.told (⟨x.seq, yes, er, x.now⟩ : Don) (by omega)) (by kernel_rfl) ?_
  refine seq_run (r := []) [12, 13] (s' := ⟨[(1, aB yes), (2, aI er), (3, .ptr 3 b1 0), (6, .ptr 6 b2 0), (7, .ptr 3 b1 7), (8, .sl 4 false (x.told.map donA)), (9, .ptr 3 b1 2), (10, aI x.seq), (11, aB yes), (12, aI er), (13, .ptr 3 b1 8), (14, .sl 6 false (x.now.map repA)), (15, .agg (zN22 x yes er)), (16, .sl 4 true ([(zN22 x yes er)])), (17, .sl 1 true ([[.sl 4 false (x.told.map donA)], [.sl 4 true ([(zN22 x yes er)])]])), (18, .sl 4 false ((x.told ++ [(⟨x.seq, yes, er, x.now⟩ : Don)]).map donA)), (19, .ptr 3 b1 7)], (zN215 b1 x yes er b2)⟩) (ps := [b1 = b1]) (by kernel_rfl) ⟨rfl, trivial⟩ ?_
  refine hK2 _ ?_
  try clear hK2 K2
  refine awp_less ⟨(zN218 b1 b2), (zN215 b1 x yes er b2)⟩ ⟨Sub.refl _, Sub.refl _, trivial⟩ ⟨⟨_, rfl, SubB.refl _⟩, ⟨_, rfl, SubB.refl _⟩, trivial⟩ ?_
  refine awp_seq_k (fun K3 hK3 => ?_)
  refine awp_region [0, 1] (by rw [hc]; kernel_rfl) (by kernel_rfl) ?_
  refine seq_run (r := []) [0, 1] (s' := ⟨[(3, .ptr 3 b1 0), (6, .ptr 6 b2 0), (20, .ptr 3 b1 4)], [(3, .box b1 26 (zN23 x yes er)), (6, .box b2 26 zN24)]⟩) (ps := [b1 = b1]) (by kernel_rfl) ⟨rfl, trivial⟩ ?_
  refine hK3 _ ?_
  try clear hK3 K3
  refine awp_less ⟨(zN218 b1 b2), [(3, .box b1 26 (zN23 x yes er)), (6, .box b2 26 zN24)]⟩ ⟨Sub.refl _, Sub.refl _, trivial⟩ ⟨⟨_, rfl, SubB.refl _⟩, ⟨_, rfl, SubB.refl _⟩, trivial⟩ ?_
  refine awp_seq_k (fun K4 hK4 => ?_)
  refine awp_region [0, 1, 2] (by rw [hc]; kernel_rfl) (by kernel_rfl) ?_
  refine seq_run (r := [1, 2]) [0] (s' := ⟨[(3, .ptr 3 b1 0), (6, .ptr 6 b2 0), (21, .agg (zN23 x yes er))], [(3, .box b1 26 (zN23 x yes er)), (6, .box b2 26 zN24)]⟩) (ps := [b1 = b1]) (by kernel_rfl) ⟨rfl, trivial⟩ ?_
  refine seq_call (f := 53) (args := [.agg (zN23 x yes er)]) (d := some 22) (args' := [.agg (zN23 x yes er)]) (s' := ⟨[(3, .ptr 3 b1 0), (6, .ptr 6 b2 0), (21, .agg (zN23 x yes er)), (22, .agg (zN26 x yes er))], [(3, .box b1 26 (zN23 x yes er)), (6, .box b2 26 zN24)]⟩) (by kernel_rfl) (fun _ _ => rfl) ⟨Sub.refl _, trivial⟩ (idle_spec (⟨x.me, x.epoch, x.seq, x.jobs, 3, x.n, x.stamp, (x.told ++ [(⟨x.seq, yes, er, x.now⟩ : Don)]), x.now⟩ : Cli)) (by kernel_rfl) ?_
  refine seq_run (r := []) [2] (s' := ⟨[(3, .ptr 3 b1 0), (6, .ptr 6 b2 0), (21, .agg (zN23 x yes er)), (22, .agg (zN26 x yes er))], [(3, .box b1 26 (zN23 x yes er)), (6, .box b2 26 (zN26 x yes er))]⟩) (ps := [b2 = b2]) (by kernel_rfl) ⟨rfl, trivial⟩ ?_
  refine hK4 _ ?_
  try clear hK4 K4
  refine awp_less ⟨[(6, .ptr 6 b2 0)], [(6, .box b2 26 (zN26 x yes er))]⟩ ⟨Sub.refl _, trivial⟩ ⟨⟨_, rfl, SubB.refl _⟩, trivial⟩ ?_
  refine awp_ret ?_
  refine fin_ret ⟨[b2 = b2], [.agg (zN26 x yes er)], by kernel_rfl, ⟨rfl, trivial⟩, ?_⟩
  exact Sub.refl _
end Go.Proofs.Ytpdedjbkfcaebaa
