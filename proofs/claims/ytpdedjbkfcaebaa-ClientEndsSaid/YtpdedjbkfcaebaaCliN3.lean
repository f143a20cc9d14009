/- client.begun, called, decided, ears's own; ref18.begun: what a client is behind an answer. -/
import Derived.Test.YtpdedjbkfcaebaaCliRg
set_option linter.unusedVariables false
set_option linter.unusedSimpArgs false
namespace Go.Proofs.Ytpdedjbkfcaebaa
open Go.RowKit Copyhold
def zN31 (x : Cli) : List AV := [aI x.me, aI x.epoch, aI x.seq, .sl 1 false (x.jobs.map jobA), aI x.phase, aI x.n, aI x.stamp, .sl 4 false (x.told.map donA), .sl 6 false (x.now.map repA)]
def zN32 (r : Rsp) : List AV := [aI r.kind, aI r.client, aI r.epoch, aI r.seq, aI r.n, aI r.r.e, aI r.r.a, aI r.r.b, aI r.r.n, aS r.r.t, .sl 1 false (r.r.ns.map txA)]
def zN33 (b1 : Nat) (x : Cli) (b2 : Nat) (r : Rsp) (b3 : Nat) : List (Nat × Bx) := [(2, .box b1 26 (zN31 x)), (3, .box b2 32 (zN32 r)), (4, .box b3 26 [aI 0, aI 0, aI 0, aN, aI 0, aI 0, aI 0, aN, aN])]
def zN35 (x : Cli) (r : Rsp) : List AV := [aI x.me, aI x.epoch, aI x.seq, .sl 1 false (x.jobs.map jobA), aI 3, aI 0, aI 0, .sl 4 false ((x.told ++ [doneD (⟨x.me, x.epoch, x.seq, x.jobs, x.phase, x.n, x.stamp, x.told, x.now⟩ : Cli) false r.r.e]).map donA), .sl 6 false (([] : List Rep).map repA)]
def zN36 (x : Cli) (r : Rsp) : List AV := [aI x.me, aI x.epoch, aI x.seq, .sl 1 false (x.jobs.map jobA), aI (onwardD (⟨x.me, x.epoch, x.seq, x.jobs, x.phase, x.n + 1, x.stamp, x.told, (x.now ++ [(⟨r.r.e, r.r.a, r.r.b, r.r.n, r.r.t, r.r.ns⟩ : Rep)])⟩ : Cli)), aI (x.n + 1), aI x.stamp, .sl 4 false (x.told.map donA), .sl 6 false ((x.now ++ [(⟨r.r.e, r.r.a, r.r.b, r.r.n, r.r.t, r.r.ns⟩ : Rep)]).map repA)]
def zN37 (x : Cli) (r : Rsp) : List AV := [aI x.me, aI x.epoch, aI x.seq, .sl 1 false (x.jobs.map jobA), aI x.phase, aI (x.n + 1), aI x.stamp, .sl 4 false (x.told.map donA), .sl 6 false ((x.now ++ [(⟨r.r.e, r.r.a, r.r.b, r.r.n, r.r.t, r.r.ns⟩ : Rep)]).map repA)]
def zN38 (x : Cli) : List AV := [aI x.me, aI x.epoch, aI (x.seq + 1), .sl 1 false (x.jobs.map jobA), aI 0, aI 0, aI 0, .sl 4 false (x.told.map donA), .sl 6 false (([] : List Rep).map repA)]
def zN39 : List AV := [aI 0, aI 0, aI 0, aN, aI 0, aI 0, aI 0, aN, aN]
def zN310 (x : Cli) (r : Rsp) : List AV := [aI x.me, aI x.epoch, aI x.seq, .sl 1 false (x.jobs.map jobA), aI (onwardD (⟨x.me, x.epoch, x.seq, x.jobs, x.phase, x.n, r.r.a, x.told, x.now⟩ : Cli)), aI x.n, aI r.r.a, .sl 4 false (x.told.map donA), .sl 6 false (x.now.map repA)]
def zN311 (x : Cli) (r : Rsp) : List AV := [aI x.me, aI x.epoch, aI x.seq, .sl 1 false (x.jobs.map jobA), aI x.phase, aI x.n, aI r.r.a, .sl 4 false (x.told.map donA), .sl 6 false (x.now.map repA)]
def zN312 (x : Cli) (r : Rsp) : List AV := [aI x.me, aI x.epoch, aI x.seq, .sl 1 false (x.jobs.map jobA), aI 3, aI 0, aI 0, .sl 4 false ((x.told ++ [doneD (⟨x.me, x.epoch, x.seq, x.jobs, x.phase, x.n, x.stamp, x.told, x.now⟩ : Cli) (r.r.e == 0) r.r.e]).map donA), .sl 6 false (([] : List Rep).map repA)]
def zN313 (x : Cli) : List AV := [aI x.me, aI x.epoch, aI (x.seq + 1), .sl 1 false (x.jobs.map jobA), aI 4, aI 0, aI 0, .sl 4 false (x.told.map donA), .sl 6 false (([] : List Rep).map repA)]
def zN315 (b1 : Nat) (x : Cli) (b2 : Nat) (r : Rsp) (b3 : Nat) : List (Nat × Bx) := [(2, .box b1 26 (zN31 x)), (3, .box b2 32 (zN32 r)), (4, .box b3 26 (zN31 x))]
def zN316 (r : Rsp) : List AV := [aI r.r.e, aI r.r.a, aI r.r.b, aI r.r.n, aS r.r.t, .sl 1 false (r.r.ns.map txA)]
def zN317 (b1 : Nat) (b2 : Nat) (b3 : Nat) : List (Nat × AV) := [(2, .ptr 2 b1 0), (3, .ptr 3 b2 0), (4, .ptr 4 b3 0)]
def zN318 (x : Cli) : List AV := [aI x.me, aI x.epoch, aI x.seq, .sl 1 false (x.jobs.map jobA), aI x.phase, aI 0, aI 0, .sl 4 false (x.told.map donA), .sl 6 false (([] : List Rep).map repA)]
def zN319 (x : Cli) (r : Rsp) (b1 : Nat) (b2 : Nat) : LS := ⟨[(0, .agg (zN31 x)), (1, .agg (zN32 r)), (2, .ptr 2 b1 0), (3, .ptr 3 b2 0)], [(2, .box b1 26 (zN31 x)), (3, .box b2 32 (zN32 r))]⟩
def zN320 (x : Cli) (r : Rsp) (b1 : Nat) (b2 : Nat) (b3 : Nat) : LS := ⟨[(0, .agg (zN31 x)), (1, .agg (zN32 r)), (2, .ptr 2 b1 0), (3, .ptr 3 b2 0), (4, .ptr 4 b3 0)], (zN33 b1 x b2 r b3)⟩
def zN321 (x : Cli) (r : Rsp) (b1 : Nat) : LS := ⟨[(0, .agg (zN31 x)), (1, .agg (zN32 r)), (2, .ptr 2 b1 0)], [(2, .box b1 26 (zN31 x))]⟩
def zN322 (x : Cli) (r : Rsp) : List AV := [aI x.me, aI x.epoch, aI x.seq, .sl 1 false (x.jobs.map jobA), aI x.phase, aI x.n, aI x.stamp, .sl 4 false (x.told.map donA), .sl 6 false ((x.now ++ [(⟨r.r.e, r.r.a, r.r.b, r.r.n, r.r.t, r.r.ns⟩ : Rep)]).map repA)]
def zN323 (b1 : Nat) (b3 : Nat) : List (Nat × AV) := [(2, .ptr 2 b1 0), (4, .ptr 4 b3 0)]
def zN324 (b1 : Nat) (x : Cli) (b3 : Nat) : List (Nat × Bx) := [(2, .box b1 26 (zN38 x)), (4, .box b3 26 zN39)]
def zN326 (b1 : Nat) (x : Cli) (b3 : Nat) : List (Nat × Bx) := [(2, .box b1 26 [aI x.me, aI x.epoch, aI (x.seq + 1), .sl 1 false (x.jobs.map jobA), aI x.phase, aI 0, aI 0, .sl 4 false (x.told.map donA), .sl 6 false (([] : List Rep).map repA)]), (4, .box b3 26 zN39)]
def zN327 (b1 : Nat) (b2 : Nat) (b3 : Nat) (x : Cli) (r : Rsp) : List (Nat × AV) := [(2, .ptr 2 b1 0), (3, .ptr 3 b2 0), (4, .ptr 4 b3 0), (14, .agg (zN31 x)), (15, .ptr 3 b2 5), (16, .ptr 3 b2 5), (17, aI r.r.e), (18, aB (r.r.e == 0)), (19, .ptr 3 b2 5), (20, .ptr 3 b2 5), (21, aI r.r.e), (22, .agg (zN312 x r))]
set_option maxRecDepth 100000 in
set_option maxHeartbeats 4000000 in
theorem begun_spec (x : Cli) (r : Rsp) (hs : I64 x.seq) (ht : x.told.length ≤ 90000) (hw : x.now.length ≤ 90000) (hn0 : 0 ≤ x.n) (hn1 : x.n ≤ 1000000) (hq : x.seq ≤ 1000000) : FSpec Try.prog 49 [.agg [aI x.me, aI x.epoch, aI x.seq, .sl 1 false (x.jobs.map jobA), aI x.phase, aI x.n, aI x.stamp, .sl 4 false (x.told.map donA), .sl 6 false (x.now.map repA)], .agg [aI r.kind, aI r.client, aI r.epoch, aI r.seq, aI r.n, aI r.r.e, aI r.r.a, aI r.r.b, aI r.r.n, aS r.r.t, .sl 1 false (r.r.ns.map txA)]] (.agg (cliA (begunD x r))) := by
  have hs0 := hs.1
  have hs9 := hs.2
  refine spec_enter ⟨[(0, .agg (zN31 x)), (1, .agg (zN32 r))], []⟩ Try.func49 rfl (by kernel_rfl) (by kernel_rfl) rfl (fun t => match t with | 0 => rfl | 1 => rfl | _ + 2 => rfl) (fun c hc => ?_)
  replace hc : c.n = 28 := hc
  refine awp_seq_k (fun K1 hK1 => ?_)
  refine awp_region [0, 1, 2] (by rw [hc]; kernel_rfl) (by kernel_rfl) ?_
  refine seq_new (f := fun b1 => (zN321 x r b1)) (by kernel_rfl) (fun b1 => ?_)
  refine seq_new (f := fun b2 => (zN319 x r b1 b2)) (by kernel_rfl) (fun b2 => ?_)
  refine seq_new (f := fun b3 => (zN320 x r b1 b2 b3)) (by kernel_rfl) (fun b3 => ?_)
  refine hK1 _ ?_
  try clear hK1 K1
  refine awp_less ⟨(zN317 b1 b2 b3), (zN33 b1 x b2 r b3)⟩ ⟨Sub.refl _, Sub.refl _, Sub.refl _, trivial⟩ ⟨⟨_, rfl, SubB.refl _⟩, ⟨_, rfl, SubB.refl _⟩, ⟨_, rfl, SubB.refl _⟩, trivial⟩ ?_
  refine awp_seq_k (fun K2 hK2 => ?_)
  refine awp_seq_k (fun K3 hK3 => ?_)
  refine awp_region [0, 1, 2] (by rw [hc]; kernel_rfl) (by kernel_rfl) ?_
  refine seq_run (r := []) [0, 1, 2] (s' := ⟨[(2, .ptr 2 b1 0), (3, .ptr 3 b2 0), (4, .ptr 4 b3 0), (5, .ptr 3 b2 5), (6, .ptr 3 b2 5), (7, aI r.r.e)], (zN33 b1 x b2 r b3)⟩) (ps := [b2 = b2]) (by kernel_rfl) ⟨rfl, trivial⟩ ?_
  refine hK3 _ ?_
  try clear hK3 K3
  refine awp_less ⟨[(2, .ptr 2 b1 0), (3, .ptr 3 b2 0), (4, .ptr 4 b3 0), (7, aI r.r.e)], (zN33 b1 x b2 r b3)⟩ ⟨Sub.refl _, Sub.refl _, Sub.refl _, Sub.refl _, trivial⟩ ⟨⟨_, rfl, SubB.refl _⟩, ⟨_, rfl, SubB.refl _⟩, ⟨_, rfl, SubB.refl _⟩, trivial⟩ ?_
  refine awp_block ?_
  refine awp_seq_k (fun K4 hK4 => ?_)
  refine awp_region [0, 1] (by rw [hc]; kernel_rfl) (by kernel_rfl) ?_
  refine seq_run (r := []) [0, 1] (s' := ⟨[(2, .ptr 2 b1 0), (3, .ptr 3 b2 0), (4, .ptr 4 b3 0), (7, aI r.r.e), (9, aB (r.r.e == 0)), (8, aB (r.r.e == 0))], (zN33 b1 x b2 r b3)⟩) (ps := []) (by kernel_rfl) trivial ?_
  refine hK4 _ ?_
  try clear hK4 K4
  refine awp_less ⟨[(2, .ptr 2 b1 0), (3, .ptr 3 b2 0), (4, .ptr 4 b3 0), (7, aI r.r.e), (8, aB (r.r.e == 0))], (zN33 b1 x b2 r b3)⟩ ⟨Sub.refl _, Sub.refl _, Sub.refl _, Sub.refl _, Sub.refl _, trivial⟩ ⟨⟨_, rfl, SubB.refl _⟩, ⟨_, rfl, SubB.refl _⟩, ⟨_, rfl, SubB.refl _⟩, trivial⟩ ?_
  rcases beqC (r.r.e) (0) with ⟨q1, p1⟩ | ⟨q1, p1⟩
  ·
    refine awp_if true (by omega) (by kernel_rfl) q1 ?_
    refine awp_seq_k (fun K5 hK5 => ?_)
    refine awp_region [0, 1, 2, 3, 4] (by rw [hc]; kernel_rfl) (by kernel_rfl) ?_
    refine seq_run (r := []) [0, 1, 2, 3, 4] (s' := ⟨[(2, .ptr 2 b1 0), (3, .ptr 3 b2 0), (4, .ptr 4 b3 0), (7, aI r.r.e), (8, aB (r.r.e == 0)), (10, .ptr 3 b2 5), (11, .ptr 3 b2 6), (12, aI r.r.a), (13, .ptr 2 b1 6)], [(2, .box b1 26 (zN311 x r)), (3, .box b2 32 (zN32 r)), (4, .box b3 26 zN39)]⟩) (ps := [b2 = b2, b1 = b1]) (by kernel_rfl) ⟨rfl, rfl, trivial⟩ ?_
    refine hK5 _ ?_
    try clear hK5 K5
    refine awp_less ⟨(zN317 b1 b2 b3), [(2, .box b1 26 (zN311 x r)), (3, .box b2 32 (zN32 r)), (4, .box b3 26 zN39)]⟩ ⟨Sub.refl _, Sub.refl _, Sub.refl _, trivial⟩ ⟨⟨_, rfl, SubB.refl _⟩, ⟨_, rfl, SubB.refl _⟩, ⟨_, rfl, SubB.refl _⟩, trivial⟩ ?_
    refine awp_seq_k (fun K6 hK6 => ?_)
    refine awp_region [0, 1, 2, 3] (by rw [hc]; kernel_rfl) (by kernel_rfl) ?_
    refine seq_run (r := [1, 2, 3]) [0] (s' := ⟨[(2, .ptr 2 b1 0), (3, .ptr 3 b2 0), (4, .ptr 4 b3 0), (14, .agg (zN311 x r))], [(2, .box b1 26 (zN311 x r)), (3, .box b2 32 (zN32 r)), (4, .box b3 26 zN39)]⟩) (ps := [b1 = b1]) (by kernel_rfl) ⟨rfl, trivial⟩ ?_
    refine seq_call (f := 55) (args := [.agg (zN311 x r)]) (d := some 15) (args' := [.agg (zN311 x r)]) (s' := ⟨[(2, .ptr 2 b1 0), (3, .ptr 3 b2 0), (4, .ptr 4 b3 0), (14, .agg (zN311 x r)), (15, aI (onwardD (⟨x.me, x.epoch, x.seq, x.jobs, x.phase, x.n, r.r.a, x.told, x.now⟩ : Cli)))], [(2, .box b1 26 (zN311 x r)), (3, .box b2 32 (zN32 r)), (4, .box b3 26 zN39)]⟩) (by kernel_rfl) (fun _ _ => rfl) ⟨Sub.refl _, trivial⟩ (onward_spec (⟨x.me, x.epoch, x.seq, x.jobs, x.phase, x.n, r.r.a, x.told, x.now⟩ : Cli) (by assumption)) (by kernel_rfl) ?_
    refine seq_run (r := []) [2, 3] (s' := ⟨[(2, .ptr 2 b1 0), (3, .ptr 3 b2 0), (4, .ptr 4 b3 0), (14, .agg (zN311 x r)), (15, aI (onwardD (⟨x.me, x.epoch, x.seq, x.jobs, x.phase, x.n, r.r.a, x.told, x.now⟩ : Cli))), (16, .ptr 2 b1 4)], [(2, .box b1 26 (zN310 x r)), (3, .box b2 32 (zN32 r)), (4, .box b3 26 zN39)]⟩) (ps := [b1 = b1]) (by kernel_rfl) ⟨rfl, trivial⟩ ?_
    refine hK6 _ ?_
    try clear hK6 K6
    refine awp_less ⟨(zN317 b1 b2 b3), [(2, .box b1 26 (zN310 x r)), (3, .box b2 32 (zN32 r)), (4, .box b3 26 zN39)]⟩ ⟨Sub.refl _, Sub.refl _, Sub.refl _, trivial⟩ ⟨⟨_, rfl, SubB.refl _⟩, ⟨_, rfl, SubB.refl _⟩, ⟨_, rfl, SubB.refl _⟩, trivial⟩ ?_
    refine awp_seq_k (fun K7 hK7 => ?_)
    refine awp_region [0, 1] (by rw [hc]; kernel_rfl) (by kernel_rfl) ?_
    refine seq_run (r := []) [0, 1] (s' := ⟨[(2, .ptr 2 b1 0), (3, .ptr 3 b2 0), (4, .ptr 4 b3 0), (17, .agg (zN310 x r))], [(2, .box b1 26 (zN310 x r)), (3, .box b2 32 (zN32 r)), (4, .box b3 26 (zN310 x r))]⟩) (ps := [b1 = b1, b3 = b3]) (by kernel_rfl) ⟨rfl, rfl, trivial⟩ ?_
    refine hK7 _ ?_
    try clear hK7 K7
    refine awp_less ⟨(zN317 b1 b2 b3), [(2, .box b1 26 (zN310 x r)), (3, .box b2 32 (zN32 r)), (4, .box b3 26 (zN310 x r))]⟩ ⟨Sub.refl _, Sub.refl _, Sub.refl _, trivial⟩ ⟨⟨_, rfl, SubB.refl _⟩, ⟨_, rfl, SubB.refl _⟩, ⟨_, rfl, SubB.refl _⟩, trivial⟩ ?_
    refine awp_ret ?_
    refine fin_ret ⟨[b3 = b3], [.agg (zN310 x r)], by kernel_rfl, ⟨rfl, trivial⟩, ?_⟩
    rw [show begunD x r = { stampD x r.r.a with phase := onwardD (stampD x r.r.a) } from if_pos (by omega)]
    exact Sub.refl _
  refine awp_if false (by omega) (by kernel_rfl) q1 ?_
  refine awp_seq_k (fun K8 hK8 => ?_)
  refine awp_seq_k (fun K9 hK9 => ?_)
  refine awp_region [0, 1] (by rw [hc]; kernel_rfl) (by kernel_rfl) ?_
  refine seq_run (r := []) [0, 1] (s' := ⟨[(2, .ptr 2 b1 0), (3, .ptr 3 b2 0), (4, .ptr 4 b3 0), (7, aI r.r.e), (8, aB (r.r.e == 0)), (19, aB (r.r.e == 7)), (18, aB (r.r.e == 7))], (zN33 b1 x b2 r b3)⟩) (ps := []) (by kernel_rfl) trivial ?_
  refine hK9 _ ?_
  try clear hK9 K9
  refine awp_less ⟨[(2, .ptr 2 b1 0), (3, .ptr 3 b2 0), (4, .ptr 4 b3 0), (7, aI r.r.e), (18, aB (r.r.e == 7))], (zN33 b1 x b2 r b3)⟩ ⟨Sub.refl _, Sub.refl _, Sub.refl _, Sub.refl _, Sub.refl _, trivial⟩ ⟨⟨_, rfl, SubB.refl _⟩, ⟨_, rfl, SubB.refl _⟩, ⟨_, rfl, SubB.refl _⟩, trivial⟩ ?_
  rcases beqC (r.r.e) (7) with ⟨q2, p2⟩ | ⟨q2, p2⟩
  ·
    refine awp_if true (by omega) (by kernel_rfl) q2 ?_
    refine awp_skip ?_
    refine hK8 _ ?_
    try clear hK8 K8
    refine awp_less ⟨[(2, .ptr 2 b1 0), (3, .ptr 3 b2 0), (4, .ptr 4 b3 0), (18, aB (r.r.e == 7))], (zN33 b1 x b2 r b3)⟩ ⟨Sub.refl _, Sub.refl _, Sub.refl _, Sub.refl _, trivial⟩ ⟨⟨_, rfl, SubB.refl _⟩, ⟨_, rfl, SubB.refl _⟩, ⟨_, rfl, SubB.refl _⟩, trivial⟩ ?_
    refine awp_if true (by omega) (by kernel_rfl) q2 ?_
    refine awp_seq_k (fun K10 hK10 => ?_)
    refine awp_region [0, 1] (by rw [hc]; kernel_rfl) (by kernel_rfl) ?_
    refine seq_run (r := []) [0, 1] (s' := ⟨[(2, .ptr 2 b1 0), (3, .ptr 3 b2 0), (4, .ptr 4 b3 0), (18, aB (r.r.e == 7)), (22, .agg (zN31 x))], (zN315 b1 x b2 r b3)⟩) (ps := [b1 = b1, b3 = b3]) (by kernel_rfl) ⟨rfl, rfl, trivial⟩ ?_
    refine hK10 _ ?_
    try clear hK10 K10
    refine awp_less ⟨(zN317 b1 b2 b3), (zN315 b1 x b2 r b3)⟩ ⟨Sub.refl _, Sub.refl _, Sub.refl _, trivial⟩ ⟨⟨_, rfl, SubB.refl _⟩, ⟨_, rfl, SubB.refl _⟩, ⟨_, rfl, SubB.refl _⟩, trivial⟩ ?_
    refine awp_ret ?_
    refine fin_ret ⟨[b3 = b3], [.agg (zN31 x)], by kernel_rfl, ⟨rfl, trivial⟩, ?_⟩
    rw [show begunD x r = x from by unfold begunD; rw [if_neg (by omega), if_pos (by omega)]]
    exact Sub.refl _
  refine awp_if false (by omega) (by kernel_rfl) q2 ?_
  refine awp_seq_k (fun K11 hK11 => ?_)
  refine awp_region [0, 1] (by rw [hc]; kernel_rfl) (by kernel_rfl) ?_
  refine seq_run (r := []) [0, 1] (s' := ⟨[(2, .ptr 2 b1 0), (3, .ptr 3 b2 0), (4, .ptr 4 b3 0), (7, aI r.r.e), (18, aB (r.r.e == 20)), (20, aB (r.r.e == 20))], (zN33 b1 x b2 r b3)⟩) (ps := []) (by kernel_rfl) trivial ?_
  refine hK11 _ ?_
  try clear hK11 K11
  refine awp_less ⟨[(2, .ptr 2 b1 0), (3, .ptr 3 b2 0), (4, .ptr 4 b3 0), (7, aI r.r.e), (18, aB (r.r.e == 20))], (zN33 b1 x b2 r b3)⟩ ⟨Sub.refl _, Sub.refl _, Sub.refl _, Sub.refl _, Sub.refl _, trivial⟩ ⟨⟨_, rfl, SubB.refl _⟩, ⟨_, rfl, SubB.refl _⟩, ⟨_, rfl, SubB.refl _⟩, trivial⟩ ?_
  rcases beqC (r.r.e) (20) with ⟨q3, p3⟩ | ⟨q3, p3⟩
  ·
    refine awp_if true (by omega) (by kernel_rfl) q3 ?_
    refine awp_skip ?_
    refine hK8 _ ?_
    try clear hK8 K8
    refine awp_less ⟨[(2, .ptr 2 b1 0), (3, .ptr 3 b2 0), (4, .ptr 4 b3 0), (18, aB (r.r.e == 20))], (zN33 b1 x b2 r b3)⟩ ⟨Sub.refl _, Sub.refl _, Sub.refl _, Sub.refl _, trivial⟩ ⟨⟨_, rfl, SubB.refl _⟩, ⟨_, rfl, SubB.refl _⟩, ⟨_, rfl, SubB.refl _⟩, trivial⟩ ?_
    refine awp_if true (by omega) (by kernel_rfl) q3 ?_
    refine awp_seq_k (fun K12 hK12 => ?_)
    refine awp_region [0, 1] (by rw [hc]; kernel_rfl) (by kernel_rfl) ?_
    refine seq_run (r := []) [0, 1] (s' := ⟨[(2, .ptr 2 b1 0), (3, .ptr 3 b2 0), (4, .ptr 4 b3 0), (18, aB (r.r.e == 20)), (22, .agg (zN31 x))], (zN315 b1 x b2 r b3)⟩) (ps := [b1 = b1, b3 = b3]) (by kernel_rfl) ⟨rfl, rfl, trivial⟩ ?_
    refine hK12 _ ?_
    try clear hK12 K12
    refine awp_less ⟨(zN317 b1 b2 b3), (zN315 b1 x b2 r b3)⟩ ⟨Sub.refl _, Sub.refl _, Sub.refl _, trivial⟩ ⟨⟨_, rfl, SubB.refl _⟩, ⟨_, rfl, SubB.refl _⟩, ⟨_, rfl, SubB.refl _⟩, trivial⟩ ?_
    refine awp_ret ?_
    refine fin_ret ⟨[b3 = b3], [.agg (zN31 x)], by kernel_rfl, ⟨rfl, trivial⟩, ?_⟩
    rw [show begunD x r = x from by unfold begunD; rw [if_neg (by omega), if_pos (by omega)]]
    exact Sub.refl _
  refine awp_if false (by omega) (by kernel_rfl) q3 ?_
  refine awp_region [0, 1] (by rw [hc]; kernel_rfl) (by kernel_rfl) ?_
  refine seq_run (r := []) [0, 1] (s' := ⟨[(2, .ptr 2 b1 0), (3, .ptr 3 b2 0), (4, .ptr 4 b3 0), (7, aI r.r.e), (18, aB (r.r.e == 12)), (21, aB (r.r.e == 12))], (zN33 b1 x b2 r b3)⟩) (ps := []) (by kernel_rfl) trivial ?_
  refine hK8 _ ?_
  try clear hK8 K8
  refine awp_less ⟨[(2, .ptr 2 b1 0), (3, .ptr 3 b2 0), (4, .ptr 4 b3 0), (18, aB (r.r.e == 12))], (zN33 b1 x b2 r b3)⟩ ⟨Sub.refl _, Sub.refl _, Sub.refl _, Sub.refl _, trivial⟩ ⟨⟨_, rfl, SubB.refl _⟩, ⟨_, rfl, SubB.refl _⟩, ⟨_, rfl, SubB.refl _⟩, trivial⟩ ?_
  rcases beqC (r.r.e) (12) with ⟨q4, p4⟩ | ⟨q4, p4⟩
  ·
    refine awp_if true (by omega) (by kernel_rfl) q4 ?_
    refine awp_seq_k (fun K13 hK13 => ?_)
    refine awp_region [0, 1] (by rw [hc]; kernel_rfl) (by kernel_rfl) ?_
    refine seq_run (r := []) [0, 1] (s' := ⟨[(2, .ptr 2 b1 0), (3, .ptr 3 b2 0), (4, .ptr 4 b3 0), (18, aB (r.r.e == 12)), (22, .agg (zN31 x))], (zN315 b1 x b2 r b3)⟩) (ps := [b1 = b1, b3 = b3]) (by kernel_rfl) ⟨rfl, rfl, trivial⟩ ?_
    refine hK13 _ ?_
    try clear hK13 K13
    refine awp_less ⟨(zN317 b1 b2 b3), (zN315 b1 x b2 r b3)⟩ ⟨Sub.refl _, Sub.refl _, Sub.refl _, trivial⟩ ⟨⟨_, rfl, SubB.refl _⟩, ⟨_, rfl, SubB.refl _⟩, ⟨_, rfl, SubB.refl _⟩, trivial⟩ ?_
    refine awp_ret ?_
    refine fin_ret ⟨[b3 = b3], [.agg (zN31 x)], by kernel_rfl, ⟨rfl, trivial⟩, ?_⟩
    rw [show begunD x r = x from by unfold begunD; rw [if_neg (by omega), if_pos (by omega)]]
    exact Sub.refl _
  refine awp_if false (by omega) (by kernel_rfl) q4 ?_
  refine awp_skip ?_
  refine hK2 _ ?_
  try clear hK2 K2
  refine awp_less ⟨(zN317 b1 b2 b3), (zN33 b1 x b2 r b3)⟩ ⟨Sub.refl _, Sub.refl _, Sub.refl _, trivial⟩ ⟨⟨_, rfl, SubB.refl _⟩, ⟨_, rfl, SubB.refl _⟩, ⟨_, rfl, SubB.refl _⟩, trivial⟩ ?_
  refine awp_seq_k (fun K14 hK14 => ?_)
  refine awp_region [0, 1, 2, 3, 4, 5] (by rw [hc]; kernel_rfl) (by kernel_rfl) ?_
  refine seq_run (r := [4, 5]) [0, 1, 2, 3] (s' := ⟨[(2, .ptr 2 b1 0), (3, .ptr 3 b2 0), (4, .ptr 4 b3 0), (23, .agg (zN31 x)), (24, .ptr 3 b2 5), (25, .ptr 3 b2 5), (26, aI r.r.e)], (zN33 b1 x b2 r b3)⟩) (ps := [b1 = b1, b2 = b2]) (by kernel_rfl) ⟨rfl, rfl, trivial⟩ ?_
  refine seq_call (f := 56) (args := [.agg (zN31 x), aB false, aI r.r.e]) (d := some 27) (args' := [.agg (zN31 x), aB false, aI r.r.e]) (s' := ⟨[(2, .ptr 2 b1 0), (3, .ptr 3 b2 0), (4, .ptr 4 b3 0), (23, .agg (zN31 x)), (24, .ptr 3 b2 5), (25, .ptr 3 b2 5), (26, aI r.r.e), (27, .agg (zN35 x r))], (zN33 b1 x b2 r b3)⟩) (by kernel_rfl) (fun _ _ => rfl) ⟨Sub.refl _, Sub.refl _, Sub.refl _, trivial⟩ (over_spec (⟨x.me, x.epoch, x.seq, x.jobs, x.phase, x.n, x.stamp, x.told, x.now⟩ : Cli) false r.r.e (by assumption)) (by kernel_rfl) ?_
  refine seq_run (r := []) [5] (s' := ⟨[(2, .ptr 2 b1 0), (3, .ptr 3 b2 0), (4, .ptr 4 b3 0), (23, .agg (zN31 x)), (24, .ptr 3 b2 5), (25, .ptr 3 b2 5), (26, aI r.r.e), (27, .agg (zN35 x r))], [(2, .box b1 26 (zN31 x)), (3, .box b2 32 (zN32 r)), (4, .box b3 26 (zN35 x r))]⟩) (ps := [b3 = b3]) (by kernel_rfl) ⟨rfl, trivial⟩ ?_
  refine hK14 _ ?_
  try clear hK14 K14
  refine awp_less ⟨[(4, .ptr 4 b3 0)], [(4, .box b3 26 (zN35 x r))]⟩ ⟨Sub.refl _, trivial⟩ ⟨⟨_, rfl, SubB.refl _⟩, trivial⟩ ?_
  refine awp_ret ?_
  refine fin_ret ⟨[b3 = b3], [.agg (zN35 x r)], by kernel_rfl, ⟨rfl, trivial⟩, ?_⟩
  rw [show begunD x r = overD x false r.r.e from by unfold begunD; rw [if_neg (by omega), if_neg (by omega)]]
  exact Sub.refl _
set_option maxRecDepth 100000 in
set_option maxHeartbeats 4000000 in
theorem called_spec (x : Cli) (r : Rsp) (hs : I64 x.seq) (ht : x.told.length ≤ 90000) (hw : x.now.length ≤ 90000) (hn0 : 0 ≤ x.n) (hn1 : x.n ≤ 1000000) (hq : x.seq ≤ 1000000) : FSpec Try.prog 50 [.agg [aI x.me, aI x.epoch, aI x.seq, .sl 1 false (x.jobs.map jobA), aI x.phase, aI x.n, aI x.stamp, .sl 4 false (x.told.map donA), .sl 6 false (x.now.map repA)], .agg [aI r.kind, aI r.client, aI r.epoch, aI r.seq, aI r.n, aI r.r.e, aI r.r.a, aI r.r.b, aI r.r.n, aS r.r.t, .sl 1 false (r.r.ns.map txA)]] (.agg (cliA (calledD x r))) := by
  have hs0 := hs.1
  have hs9 := hs.2
  refine spec_enter ⟨[(0, .agg (zN31 x)), (1, .agg (zN32 r))], []⟩ Try.func50 rfl (by kernel_rfl) (by kernel_rfl) rfl (fun t => match t with | 0 => rfl | 1 => rfl | _ + 2 => rfl) (fun c hc => ?_)
  replace hc : c.n = 29 := hc
  refine awp_seq_k (fun K1 hK1 => ?_)
  refine awp_region [0, 1, 2] (by rw [hc]; kernel_rfl) (by kernel_rfl) ?_
  refine seq_new (f := fun b1 => (zN321 x r b1)) (by kernel_rfl) (fun b1 => ?_)
  refine seq_new (f := fun b2 => (zN319 x r b1 b2)) (by kernel_rfl) (fun b2 => ?_)
  refine seq_new (f := fun b3 => (zN320 x r b1 b2 b3)) (by kernel_rfl) (fun b3 => ?_)
  refine hK1 _ ?_
  try clear hK1 K1
  refine awp_less ⟨(zN317 b1 b2 b3), (zN33 b1 x b2 r b3)⟩ ⟨Sub.refl _, Sub.refl _, Sub.refl _, trivial⟩ ⟨⟨_, rfl, SubB.refl _⟩, ⟨_, rfl, SubB.refl _⟩, ⟨_, rfl, SubB.refl _⟩, trivial⟩ ?_
  refine awp_seq_k (fun K2 hK2 => ?_)
  refine awp_seq_k (fun K3 hK3 => ?_)
  refine awp_region [0, 1, 2] (by rw [hc]; kernel_rfl) (by kernel_rfl) ?_
  refine seq_run (r := []) [0, 1, 2] (s' := ⟨[(2, .ptr 2 b1 0), (3, .ptr 3 b2 0), (4, .ptr 4 b3 0), (5, .ptr 3 b2 4), (6, aI r.n), (7, aB (r.n == (-1)))], (zN33 b1 x b2 r b3)⟩) (ps := [b2 = b2]) (by kernel_rfl) ⟨rfl, trivial⟩ ?_
  refine hK3 _ ?_
  try clear hK3 K3
  refine awp_less ⟨[(2, .ptr 2 b1 0), (3, .ptr 3 b2 0), (4, .ptr 4 b3 0), (7, aB (r.n == (-1)))], (zN33 b1 x b2 r b3)⟩ ⟨Sub.refl _, Sub.refl _, Sub.refl _, Sub.refl _, trivial⟩ ⟨⟨_, rfl, SubB.refl _⟩, ⟨_, rfl, SubB.refl _⟩, ⟨_, rfl, SubB.refl _⟩, trivial⟩ ?_
  rcases beqC (r.n) ((-1)) with ⟨q1, p1⟩ | ⟨q1, p1⟩
  ·
    refine awp_if true (by omega) (by kernel_rfl) q1 ?_
    refine awp_seq_k (fun K4 hK4 => ?_)
    refine awp_region [0, 1, 2, 3, 4, 5] (by rw [hc]; kernel_rfl) (by kernel_rfl) ?_
    refine seq_run (r := [4, 5]) [0, 1, 2, 3] (s' := ⟨[(2, .ptr 2 b1 0), (3, .ptr 3 b2 0), (4, .ptr 4 b3 0), (7, aB (r.n == (-1))), (8, .agg (zN31 x)), (9, .ptr 3 b2 5), (10, .ptr 3 b2 5), (11, aI r.r.e)], (zN33 b1 x b2 r b3)⟩) (ps := [b1 = b1, b2 = b2]) (by kernel_rfl) ⟨rfl, rfl, trivial⟩ ?_
    refine seq_call (f := 56) (args := [.agg (zN31 x), aB false, aI r.r.e]) (d := some 12) (args' := [.agg (zN31 x), aB false, aI r.r.e]) (s' := ⟨[(2, .ptr 2 b1 0), (3, .ptr 3 b2 0), (4, .ptr 4 b3 0), (7, aB (r.n == (-1))), (8, .agg (zN31 x)), (9, .ptr 3 b2 5), (10, .ptr 3 b2 5), (11, aI r.r.e), (12, .agg (zN35 x r))], (zN33 b1 x b2 r b3)⟩) (by kernel_rfl) (fun _ _ => rfl) ⟨Sub.refl _, Sub.refl _, Sub.refl _, trivial⟩ (over_spec (⟨x.me, x.epoch, x.seq, x.jobs, x.phase, x.n, x.stamp, x.told, x.now⟩ : Cli) false r.r.e (by assumption)) (by kernel_rfl) ?_
    refine seq_run (r := []) [5] (s' := ⟨[(2, .ptr 2 b1 0), (3, .ptr 3 b2 0), (4, .ptr 4 b3 0), (7, aB (r.n == (-1))), (8, .agg (zN31 x)), (9, .ptr 3 b2 5), (10, .ptr 3 b2 5), (11, aI r.r.e), (12, .agg (zN35 x r))], [(2, .box b1 26 (zN31 x)), (3, .box b2 32 (zN32 r)), (4, .box b3 26 (zN35 x r))]⟩) (ps := [b3 = b3]) (by kernel_rfl) ⟨rfl, trivial⟩ ?_
    refine hK4 _ ?_
    try clear hK4 K4
    refine awp_less ⟨(zN317 b1 b2 b3), [(2, .box b1 26 (zN31 x)), (3, .box b2 32 (zN32 r)), (4, .box b3 26 (zN35 x r))]⟩ ⟨Sub.refl _, Sub.refl _, Sub.refl _, trivial⟩ ⟨⟨_, rfl, SubB.refl _⟩, ⟨_, rfl, SubB.refl _⟩, ⟨_, rfl, SubB.refl _⟩, trivial⟩ ?_
    refine awp_ret ?_
    refine fin_ret ⟨[b3 = b3], [.agg (zN35 x r)], by kernel_rfl, ⟨rfl, trivial⟩, ?_⟩
    rw [show calledD x r = overD x false r.r.e from if_pos (by omega)]
    exact Sub.refl _
  refine awp_if false (by omega) (by kernel_rfl) q1 ?_
  refine awp_skip ?_
  refine hK2 _ ?_
  try clear hK2 K2
  refine awp_less ⟨(zN317 b1 b2 b3), (zN33 b1 x b2 r b3)⟩ ⟨Sub.refl _, Sub.refl _, Sub.refl _, trivial⟩ ⟨⟨_, rfl, SubB.refl _⟩, ⟨_, rfl, SubB.refl _⟩, ⟨_, rfl, SubB.refl _⟩, trivial⟩ ?_
  refine awp_seq_k (fun K5 hK5 => ?_)
  refine awp_region [0, 1, 2, 3, 4, 5, 6, 7, 8] (by rw [hc]; kernel_rfl) (by kernel_rfl) ?_
  refine seq_run (r := [6, 7, 8]) [0, 1, 2, 3, 4, 5] (s' := ⟨[(2, .ptr 2 b1 0), (3, .ptr 3 b2 0), (4, .ptr 4 b3 0), (13, .ptr 2 b1 8), (14, .sl 6 false (x.now.map repA)), (15, .ptr 3 b2 5), (16, .agg (zN316 r)), (17, .sl 6 true ([(zN316 r)])), (18, .sl 1 true ([[.sl 6 false (x.now.map repA)], [.sl 6 true ([(zN316 r)])]]))], (zN33 b1 x b2 r b3)⟩) (ps := [b1 = b1, b2 = b2]) (by kernel_rfl) ⟨rfl, rfl, trivial⟩ ?_
  refine seq_call (f := 57) (args := [.sl 1 true ([[.sl 6 false (x.now.map repA)], [.sl 6 true ([(zN316 r)])]])]) (d := some 19) (args' := [.sl 1 true ([[.sl 6 false (x.now.map repA)], [.sl 6 true ([(zN316 r)])]])]) (s' := ⟨[(2, .ptr 2 b1 0), (3, .ptr 3 b2 0), (4, .ptr 4 b3 0), (13, .ptr 2 b1 8), (14, .sl 6 false (x.now.map repA)), (15, .ptr 3 b2 5), (16, .agg (zN316 r)), (17, .sl 6 true ([(zN316 r)])), (18, .sl 1 true ([[.sl 6 false (x.now.map repA)], [.sl 6 true ([(zN316 r)])]])), (19, .sl 6 false ((x.now ++ [(⟨r.r.e, r.r.a, r.r.b, r.r.n, r.r.t, r.r.ns⟩ : Rep)]).map repA))], (zN33 b1 x b2 r b3)⟩) (by kernel_rfl) (fun _ _ => rfl) ⟨Sub.refl _, trivial⟩ (concat_rep2 x.now (⟨r.r.e, r.r.a, r.r.b, r.r.n, r.r.t, r.r.ns⟩ : Rep) (by omega)) (by kernel_rfl) ?_
  refine seq_run (r := []) [7, 8] (s' := ⟨[(2, .ptr 2 b1 0), (3, .ptr 3 b2 0), (4, .ptr 4 b3 0), (13, .ptr 2 b1 8), (14, .sl 6 false (x.now.map repA)), (15, .ptr 3 b2 5), (16, .agg (zN316 r)), (17, .sl 6 true ([(zN316 r)])), (18, .sl 1 true ([[.sl 6 false (x.now.map repA)], [.sl 6 true ([(zN316 r)])]])), (19, .sl 6 false ((x.now ++ [(⟨r.r.e, r.r.a, r.r.b, r.r.n, r.r.t, r.r.ns⟩ : Rep)]).map repA)), (20, .ptr 2 b1 8)], [(2, .box b1 26 (zN322 x r)), (3, .box b2 32 (zN32 r)), (4, .box b3 26 zN39)]⟩) (ps := [b1 = b1]) (by kernel_rfl) ⟨rfl, trivial⟩ ?_
  refine hK5 _ ?_
  try clear hK5 K5
  refine awp_less ⟨(zN323 b1 b3), [(2, .box b1 26 (zN322 x r)), (4, .box b3 26 zN39)]⟩ ⟨Sub.refl _, Sub.refl _, trivial⟩ ⟨⟨_, rfl, SubB.refl _⟩, ⟨_, rfl, SubB.refl _⟩, trivial⟩ ?_
  refine awp_seq_k (fun K6 hK6 => ?_)
  refine awp_region [0, 1, 2, 3, 4] (by rw [hc]; kernel_rfl) (by kernel_rfl) ?_
  refine seq_run (r := []) [0, 1, 2, 3, 4] (s' := ⟨[(2, .ptr 2 b1 0), (4, .ptr 4 b3 0), (21, .ptr 2 b1 5), (22, aI x.n), (23, aI (x.n + 1)), (24, .ptr 2 b1 5)], [(2, .box b1 26 (zN37 x r)), (4, .box b3 26 zN39)]⟩) (ps := [b1 = b1, rng .i64 (x.n + 1), b1 = b1]) (by kernel_rfl) ⟨rfl, rng64 (by omega) (by omega), rfl, trivial⟩ ?_
  refine hK6 _ ?_
  try clear hK6 K6
  refine awp_less ⟨(zN323 b1 b3), [(2, .box b1 26 (zN37 x r)), (4, .box b3 26 zN39)]⟩ ⟨Sub.refl _, Sub.refl _, trivial⟩ ⟨⟨_, rfl, SubB.refl _⟩, ⟨_, rfl, SubB.refl _⟩, trivial⟩ ?_
  refine awp_seq_k (fun K7 hK7 => ?_)
  refine awp_region [0, 1, 2, 3] (by rw [hc]; kernel_rfl) (by kernel_rfl) ?_
  refine seq_run (r := [1, 2, 3]) [0] (s' := ⟨[(2, .ptr 2 b1 0), (4, .ptr 4 b3 0), (25, .agg (zN37 x r))], [(2, .box b1 26 (zN37 x r)), (4, .box b3 26 zN39)]⟩) (ps := [b1 = b1]) (by kernel_rfl) ⟨rfl, trivial⟩ ?_
  refine seq_call (f := 55) (args := [.agg (zN37 x r)]) (d := some 26) (args' := [.agg (zN37 x r)]) (s' := ⟨[(2, .ptr 2 b1 0), (4, .ptr 4 b3 0), (25, .agg (zN37 x r)), (26, aI (onwardD (⟨x.me, x.epoch, x.seq, x.jobs, x.phase, x.n + 1, x.stamp, x.told, (x.now ++ [(⟨r.r.e, r.r.a, r.r.b, r.r.n, r.r.t, r.r.ns⟩ : Rep)])⟩ : Cli)))], [(2, .box b1 26 (zN37 x r)), (4, .box b3 26 zN39)]⟩) (by kernel_rfl) (fun _ _ => rfl) ⟨Sub.refl _, trivial⟩ (onward_spec (⟨x.me, x.epoch, x.seq, x.jobs, x.phase, x.n + 1, x.stamp, x.told, (x.now ++ [(⟨r.r.e, r.r.a, r.r.b, r.r.n, r.r.t, r.r.ns⟩ : Rep)])⟩ : Cli) (by assumption)) (by kernel_rfl) ?_
  refine seq_run (r := []) [2, 3] (s' := ⟨[(2, .ptr 2 b1 0), (4, .ptr 4 b3 0), (25, .agg (zN37 x r)), (26, aI (onwardD (⟨x.me, x.epoch, x.seq, x.jobs, x.phase, x.n + 1, x.stamp, x.told, (x.now ++ [(⟨r.r.e, r.r.a, r.r.b, r.r.n, r.r.t, r.r.ns⟩ : Rep)])⟩ : Cli))), (27, .ptr 2 b1 4)], [(2, .box b1 26 (zN36 x r)), (4, .box b3 26 zN39)]⟩) (ps := [b1 = b1]) (by kernel_rfl) ⟨rfl, trivial⟩ ?_
  refine hK7 _ ?_
  try clear hK7 K7
  refine awp_less ⟨(zN323 b1 b3), [(2, .box b1 26 (zN36 x r)), (4, .box b3 26 zN39)]⟩ ⟨Sub.refl _, Sub.refl _, trivial⟩ ⟨⟨_, rfl, SubB.refl _⟩, ⟨_, rfl, SubB.refl _⟩, trivial⟩ ?_
  refine awp_seq_k (fun K8 hK8 => ?_)
  refine awp_region [0, 1] (by rw [hc]; kernel_rfl) (by kernel_rfl) ?_
  refine seq_run (r := []) [0, 1] (s' := ⟨[(2, .ptr 2 b1 0), (4, .ptr 4 b3 0), (28, .agg (zN36 x r))], [(2, .box b1 26 (zN36 x r)), (4, .box b3 26 (zN36 x r))]⟩) (ps := [b1 = b1, b3 = b3]) (by kernel_rfl) ⟨rfl, rfl, trivial⟩ ?_
  refine hK8 _ ?_
  try clear hK8 K8
  refine awp_less ⟨[(4, .ptr 4 b3 0)], [(4, .box b3 26 (zN36 x r))]⟩ ⟨Sub.refl _, trivial⟩ ⟨⟨_, rfl, SubB.refl _⟩, trivial⟩ ?_
  refine awp_ret ?_
  refine fin_ret ⟨[b3 = b3], [.agg (zN36 x r)], by kernel_rfl, ⟨rfl, trivial⟩, ?_⟩
  rw [show calledD x r = { nowD x r.r with phase := onwardD (nowD x r.r) } from if_neg (by omega)]
  exact Sub.refl _
set_option maxRecDepth 100000 in
set_option maxHeartbeats 4000000 in
theorem decided_spec (x : Cli) (r : Rsp) (hs : I64 x.seq) (ht : x.told.length ≤ 90000) (hw : x.now.length ≤ 90000) (hn0 : 0 ≤ x.n) (hn1 : x.n ≤ 1000000) (hq : x.seq ≤ 1000000) : FSpec Try.prog 51 [.agg [aI x.me, aI x.epoch, aI x.seq, .sl 1 false (x.jobs.map jobA), aI x.phase, aI x.n, aI x.stamp, .sl 4 false (x.told.map donA), .sl 6 false (x.now.map repA)], .agg [aI r.kind, aI r.client, aI r.epoch, aI r.seq, aI r.n, aI r.r.e, aI r.r.a, aI r.r.b, aI r.r.n, aS r.r.t, .sl 1 false (r.r.ns.map txA)]] (.agg (cliA (decidedD x r))) := by
  have hs0 := hs.1
  have hs9 := hs.2
  refine spec_enter ⟨[(0, .agg (zN31 x)), (1, .agg (zN32 r))], []⟩ Try.func51 rfl (by kernel_rfl) (by kernel_rfl) rfl (fun t => match t with | 0 => rfl | 1 => rfl | _ + 2 => rfl) (fun c hc => ?_)
  replace hc : c.n = 23 := hc
  refine awp_seq_k (fun K1 hK1 => ?_)
  refine awp_region [0, 1, 2] (by rw [hc]; kernel_rfl) (by kernel_rfl) ?_
  refine seq_new (f := fun b1 => (zN321 x r b1)) (by kernel_rfl) (fun b1 => ?_)
  refine seq_new (f := fun b2 => (zN319 x r b1 b2)) (by kernel_rfl) (fun b2 => ?_)
  refine seq_new (f := fun b3 => (zN320 x r b1 b2 b3)) (by kernel_rfl) (fun b3 => ?_)
  refine hK1 _ ?_
  try clear hK1 K1
  refine awp_less ⟨(zN317 b1 b2 b3), (zN33 b1 x b2 r b3)⟩ ⟨Sub.refl _, Sub.refl _, Sub.refl _, trivial⟩ ⟨⟨_, rfl, SubB.refl _⟩, ⟨_, rfl, SubB.refl _⟩, ⟨_, rfl, SubB.refl _⟩, trivial⟩ ?_
  refine awp_seq_k (fun K2 hK2 => ?_)
  refine awp_seq_k (fun K3 hK3 => ?_)
  refine awp_region [0, 1, 2] (by rw [hc]; kernel_rfl) (by kernel_rfl) ?_
  refine seq_run (r := []) [0, 1, 2] (s' := ⟨[(2, .ptr 2 b1 0), (3, .ptr 3 b2 0), (4, .ptr 4 b3 0), (5, .ptr 3 b2 5), (6, .ptr 3 b2 5), (7, aI r.r.e)], (zN33 b1 x b2 r b3)⟩) (ps := [b2 = b2]) (by kernel_rfl) ⟨rfl, trivial⟩ ?_
  refine hK3 _ ?_
  try clear hK3 K3
  refine awp_less ⟨[(2, .ptr 2 b1 0), (3, .ptr 3 b2 0), (4, .ptr 4 b3 0), (7, aI r.r.e)], (zN33 b1 x b2 r b3)⟩ ⟨Sub.refl _, Sub.refl _, Sub.refl _, Sub.refl _, trivial⟩ ⟨⟨_, rfl, SubB.refl _⟩, ⟨_, rfl, SubB.refl _⟩, ⟨_, rfl, SubB.refl _⟩, trivial⟩ ?_
  refine awp_block ?_
  refine awp_seq_k (fun K4 hK4 => ?_)
  refine awp_seq_k (fun K5 hK5 => ?_)
  refine awp_region [0, 1] (by rw [hc]; kernel_rfl) (by kernel_rfl) ?_
  refine seq_run (r := []) [0, 1] (s' := ⟨[(2, .ptr 2 b1 0), (3, .ptr 3 b2 0), (4, .ptr 4 b3 0), (7, aI r.r.e), (9, aB (r.r.e == 20)), (8, aB (r.r.e == 20))], (zN33 b1 x b2 r b3)⟩) (ps := []) (by kernel_rfl) trivial ?_
  refine hK5 _ ?_
  try clear hK5 K5
  refine awp_less ⟨[(2, .ptr 2 b1 0), (3, .ptr 3 b2 0), (4, .ptr 4 b3 0), (7, aI r.r.e), (8, aB (r.r.e == 20))], (zN33 b1 x b2 r b3)⟩ ⟨Sub.refl _, Sub.refl _, Sub.refl _, Sub.refl _, Sub.refl _, trivial⟩ ⟨⟨_, rfl, SubB.refl _⟩, ⟨_, rfl, SubB.refl _⟩, ⟨_, rfl, SubB.refl _⟩, trivial⟩ ?_
  rcases beqC (r.r.e) (20) with ⟨q1, p1⟩ | ⟨q1, p1⟩
  ·
    refine awp_if true (by omega) (by kernel_rfl) q1 ?_
    refine awp_skip ?_
    refine hK4 _ ?_
    try clear hK4 K4
    refine awp_less ⟨[(2, .ptr 2 b1 0), (3, .ptr 3 b2 0), (4, .ptr 4 b3 0), (8, aB (r.r.e == 20))], (zN33 b1 x b2 r b3)⟩ ⟨Sub.refl _, Sub.refl _, Sub.refl _, Sub.refl _, trivial⟩ ⟨⟨_, rfl, SubB.refl _⟩, ⟨_, rfl, SubB.refl _⟩, ⟨_, rfl, SubB.refl _⟩, trivial⟩ ?_
    refine awp_if true (by omega) (by kernel_rfl) q1 ?_
    refine awp_seq_k (fun K6 hK6 => ?_)
    refine awp_region [0, 1] (by rw [hc]; kernel_rfl) (by kernel_rfl) ?_
    refine seq_run (r := []) [0, 1] (s' := ⟨[(2, .ptr 2 b1 0), (3, .ptr 3 b2 0), (4, .ptr 4 b3 0), (8, aB (r.r.e == 20)), (13, .agg (zN31 x))], (zN315 b1 x b2 r b3)⟩) (ps := [b1 = b1, b3 = b3]) (by kernel_rfl) ⟨rfl, rfl, trivial⟩ ?_
    refine hK6 _ ?_
    try clear hK6 K6
    refine awp_less ⟨(zN317 b1 b2 b3), (zN315 b1 x b2 r b3)⟩ ⟨Sub.refl _, Sub.refl _, Sub.refl _, trivial⟩ ⟨⟨_, rfl, SubB.refl _⟩, ⟨_, rfl, SubB.refl _⟩, ⟨_, rfl, SubB.refl _⟩, trivial⟩ ?_
    refine awp_ret ?_
    refine fin_ret ⟨[b3 = b3], [.agg (zN31 x)], by kernel_rfl, ⟨rfl, trivial⟩, ?_⟩
    rw [show decidedD x r = x from by unfold decidedD; rw [if_pos (by omega)]]
    exact Sub.refl _
  refine awp_if false (by omega) (by kernel_rfl) q1 ?_
  refine awp_seq_k (fun K7 hK7 => ?_)
  refine awp_region [0, 1] (by rw [hc]; kernel_rfl) (by kernel_rfl) ?_
  refine seq_run (r := []) [0, 1] (s' := ⟨[(2, .ptr 2 b1 0), (3, .ptr 3 b2 0), (4, .ptr 4 b3 0), (7, aI r.r.e), (8, aB (r.r.e == 12)), (10, aB (r.r.e == 12))], (zN33 b1 x b2 r b3)⟩) (ps := []) (by kernel_rfl) trivial ?_
  refine hK7 _ ?_
  try clear hK7 K7
  refine awp_less ⟨[(2, .ptr 2 b1 0), (3, .ptr 3 b2 0), (4, .ptr 4 b3 0), (7, aI r.r.e), (8, aB (r.r.e == 12))], (zN33 b1 x b2 r b3)⟩ ⟨Sub.refl _, Sub.refl _, Sub.refl _, Sub.refl _, Sub.refl _, trivial⟩ ⟨⟨_, rfl, SubB.refl _⟩, ⟨_, rfl, SubB.refl _⟩, ⟨_, rfl, SubB.refl _⟩, trivial⟩ ?_
  rcases beqC (r.r.e) (12) with ⟨q2, p2⟩ | ⟨q2, p2⟩
  ·
    refine awp_if true (by omega) (by kernel_rfl) q2 ?_
    refine awp_skip ?_
    refine hK4 _ ?_
    try clear hK4 K4
    refine awp_less ⟨[(2, .ptr 2 b1 0), (3, .ptr 3 b2 0), (4, .ptr 4 b3 0), (8, aB (r.r.e == 12))], (zN33 b1 x b2 r b3)⟩ ⟨Sub.refl _, Sub.refl _, Sub.refl _, Sub.refl _, trivial⟩ ⟨⟨_, rfl, SubB.refl _⟩, ⟨_, rfl, SubB.refl _⟩, ⟨_, rfl, SubB.refl _⟩, trivial⟩ ?_
    refine awp_if true (by omega) (by kernel_rfl) q2 ?_
    refine awp_seq_k (fun K8 hK8 => ?_)
    refine awp_region [0, 1] (by rw [hc]; kernel_rfl) (by kernel_rfl) ?_
    refine seq_run (r := []) [0, 1] (s' := ⟨[(2, .ptr 2 b1 0), (3, .ptr 3 b2 0), (4, .ptr 4 b3 0), (8, aB (r.r.e == 12)), (13, .agg (zN31 x))], (zN315 b1 x b2 r b3)⟩) (ps := [b1 = b1, b3 = b3]) (by kernel_rfl) ⟨rfl, rfl, trivial⟩ ?_
    refine hK8 _ ?_
    try clear hK8 K8
    refine awp_less ⟨(zN317 b1 b2 b3), (zN315 b1 x b2 r b3)⟩ ⟨Sub.refl _, Sub.refl _, Sub.refl _, trivial⟩ ⟨⟨_, rfl, SubB.refl _⟩, ⟨_, rfl, SubB.refl _⟩, ⟨_, rfl, SubB.refl _⟩, trivial⟩ ?_
    refine awp_ret ?_
    refine fin_ret ⟨[b3 = b3], [.agg (zN31 x)], by kernel_rfl, ⟨rfl, trivial⟩, ?_⟩
    rw [show decidedD x r = x from by unfold decidedD; rw [if_pos (by omega)]]
    exact Sub.refl _
  refine awp_if false (by omega) (by kernel_rfl) q2 ?_
  refine awp_seq_k (fun K9 hK9 => ?_)
  refine awp_region [0, 1] (by rw [hc]; kernel_rfl) (by kernel_rfl) ?_
  refine seq_run (r := []) [0, 1] (s' := ⟨[(2, .ptr 2 b1 0), (3, .ptr 3 b2 0), (4, .ptr 4 b3 0), (7, aI r.r.e), (8, aB (r.r.e == 5)), (11, aB (r.r.e == 5))], (zN33 b1 x b2 r b3)⟩) (ps := []) (by kernel_rfl) trivial ?_
  refine hK9 _ ?_
  try clear hK9 K9
  refine awp_less ⟨[(2, .ptr 2 b1 0), (3, .ptr 3 b2 0), (4, .ptr 4 b3 0), (7, aI r.r.e), (8, aB (r.r.e == 5))], (zN33 b1 x b2 r b3)⟩ ⟨Sub.refl _, Sub.refl _, Sub.refl _, Sub.refl _, Sub.refl _, trivial⟩ ⟨⟨_, rfl, SubB.refl _⟩, ⟨_, rfl, SubB.refl _⟩, ⟨_, rfl, SubB.refl _⟩, trivial⟩ ?_
  rcases beqC (r.r.e) (5) with ⟨q3, p3⟩ | ⟨q3, p3⟩
  ·
    refine awp_if true (by omega) (by kernel_rfl) q3 ?_
    refine awp_skip ?_
    refine hK4 _ ?_
    try clear hK4 K4
    refine awp_less ⟨[(2, .ptr 2 b1 0), (3, .ptr 3 b2 0), (4, .ptr 4 b3 0), (8, aB (r.r.e == 5))], (zN33 b1 x b2 r b3)⟩ ⟨Sub.refl _, Sub.refl _, Sub.refl _, Sub.refl _, trivial⟩ ⟨⟨_, rfl, SubB.refl _⟩, ⟨_, rfl, SubB.refl _⟩, ⟨_, rfl, SubB.refl _⟩, trivial⟩ ?_
    refine awp_if true (by omega) (by kernel_rfl) q3 ?_
    refine awp_seq_k (fun K10 hK10 => ?_)
    refine awp_region [0, 1] (by rw [hc]; kernel_rfl) (by kernel_rfl) ?_
    refine seq_run (r := []) [0, 1] (s' := ⟨[(2, .ptr 2 b1 0), (3, .ptr 3 b2 0), (4, .ptr 4 b3 0), (8, aB (r.r.e == 5)), (13, .agg (zN31 x))], (zN315 b1 x b2 r b3)⟩) (ps := [b1 = b1, b3 = b3]) (by kernel_rfl) ⟨rfl, rfl, trivial⟩ ?_
    refine hK10 _ ?_
    try clear hK10 K10
    refine awp_less ⟨(zN317 b1 b2 b3), (zN315 b1 x b2 r b3)⟩ ⟨Sub.refl _, Sub.refl _, Sub.refl _, trivial⟩ ⟨⟨_, rfl, SubB.refl _⟩, ⟨_, rfl, SubB.refl _⟩, ⟨_, rfl, SubB.refl _⟩, trivial⟩ ?_
    refine awp_ret ?_
    refine fin_ret ⟨[b3 = b3], [.agg (zN31 x)], by kernel_rfl, ⟨rfl, trivial⟩, ?_⟩
    rw [show decidedD x r = x from by unfold decidedD; rw [if_pos (by omega)]]
    exact Sub.refl _
  refine awp_if false (by omega) (by kernel_rfl) q3 ?_
  refine awp_region [0, 1] (by rw [hc]; kernel_rfl) (by kernel_rfl) ?_
  refine seq_run (r := []) [0, 1] (s' := ⟨[(2, .ptr 2 b1 0), (3, .ptr 3 b2 0), (4, .ptr 4 b3 0), (7, aI r.r.e), (8, aB (r.r.e == 19)), (12, aB (r.r.e == 19))], (zN33 b1 x b2 r b3)⟩) (ps := []) (by kernel_rfl) trivial ?_
  refine hK4 _ ?_
  try clear hK4 K4
  refine awp_less ⟨[(2, .ptr 2 b1 0), (3, .ptr 3 b2 0), (4, .ptr 4 b3 0), (8, aB (r.r.e == 19))], (zN33 b1 x b2 r b3)⟩ ⟨Sub.refl _, Sub.refl _, Sub.refl _, Sub.refl _, trivial⟩ ⟨⟨_, rfl, SubB.refl _⟩, ⟨_, rfl, SubB.refl _⟩, ⟨_, rfl, SubB.refl _⟩, trivial⟩ ?_
  rcases beqC (r.r.e) (19) with ⟨q4, p4⟩ | ⟨q4, p4⟩
  ·
    refine awp_if true (by omega) (by kernel_rfl) q4 ?_
    refine awp_seq_k (fun K11 hK11 => ?_)
    refine awp_region [0, 1] (by rw [hc]; kernel_rfl) (by kernel_rfl) ?_
    refine seq_run (r := []) [0, 1] (s' := ⟨[(2, .ptr 2 b1 0), (3, .ptr 3 b2 0), (4, .ptr 4 b3 0), (8, aB (r.r.e == 19)), (13, .agg (zN31 x))], (zN315 b1 x b2 r b3)⟩) (ps := [b1 = b1, b3 = b3]) (by kernel_rfl) ⟨rfl, rfl, trivial⟩ ?_
    refine hK11 _ ?_
    try clear hK11 K11
    refine awp_less ⟨(zN317 b1 b2 b3), (zN315 b1 x b2 r b3)⟩ ⟨Sub.refl _, Sub.refl _, Sub.refl _, trivial⟩ ⟨⟨_, rfl, SubB.refl _⟩, ⟨_, rfl, SubB.refl _⟩, ⟨_, rfl, SubB.refl _⟩, trivial⟩ ?_
    refine awp_ret ?_
    refine fin_ret ⟨[b3 = b3], [.agg (zN31 x)], by kernel_rfl, ⟨rfl, trivial⟩, ?_⟩
    rw [show decidedD x r = x from by unfold decidedD; rw [if_pos (by omega)]]
    exact Sub.refl _
  refine awp_if false (by omega) (by kernel_rfl) q4 ?_
  refine awp_skip ?_
  refine hK2 _ ?_
  try clear hK2 K2
  refine awp_less ⟨(zN317 b1 b2 b3), (zN33 b1 x b2 r b3)⟩ ⟨Sub.refl _, Sub.refl _, Sub.refl _, trivial⟩ ⟨⟨_, rfl, SubB.refl _⟩, ⟨_, rfl, SubB.refl _⟩, ⟨_, rfl, SubB.refl _⟩, trivial⟩ ?_
  refine awp_seq_k (fun K12 hK12 => ?_)
  refine awp_region [0, 1, 2, 3, 4, 5, 6, 7, 8, 9] (by rw [hc]; kernel_rfl) (by kernel_rfl) ?_
  refine seq_run (r := [8, 9]) [0, 1, 2, 3, 4, 5, 6, 7] (s' := ⟨[(2, .ptr 2 b1 0), (3, .ptr 3 b2 0), (4, .ptr 4 b3 0), (14, .agg (zN31 x)), (15, .ptr 3 b2 5), (16, .ptr 3 b2 5), (17, aI r.r.e), (18, aB (r.r.e == 0)), (19, .ptr 3 b2 5), (20, .ptr 3 b2 5), (21, aI r.r.e)], (zN33 b1 x b2 r b3)⟩) (ps := [b1 = b1, b2 = b2, b2 = b2]) (by kernel_rfl) ⟨rfl, rfl, rfl, trivial⟩ ?_
  refine seq_call (f := 56) (args := [.agg (zN31 x), aB (r.r.e == 0), aI r.r.e]) (d := some 22) (args' := [.agg (zN31 x), aB (r.r.e == 0), aI r.r.e]) (s' := ⟨(zN327 b1 b2 b3 x r), (zN33 b1 x b2 r b3)⟩) (by kernel_rfl) (fun _ _ => rfl) ⟨Sub.refl _, Sub.refl _, Sub.refl _, trivial⟩ (over_spec (⟨x.me, x.epoch, x.seq, x.jobs, x.phase, x.n, x.stamp, x.told, x.now⟩ : Cli) (r.r.e == 0) r.r.e (by assumption)) (by kernel_rfl) ?_
  refine seq_run (r := []) [9] (s' := ⟨(zN327 b1 b2 b3 x r), [(2, .box b1 26 (zN31 x)), (3, .box b2 32 (zN32 r)), (4, .box b3 26 (zN312 x r))]⟩) (ps := [b3 = b3]) (by kernel_rfl) ⟨rfl, trivial⟩ ?_
  refine hK12 _ ?_
  try clear hK12 K12
  refine awp_less ⟨[(4, .ptr 4 b3 0)], [(4, .box b3 26 (zN312 x r))]⟩ ⟨Sub.refl _, trivial⟩ ⟨⟨_, rfl, SubB.refl _⟩, trivial⟩ ?_
  refine awp_ret ?_
  refine fin_ret ⟨[b3 = b3], [.agg (zN312 x r)], by kernel_rfl, ⟨rfl, trivial⟩, ?_⟩
  rw [show decidedD x r = overD x (r.r.e == 0) r.r.e from by unfold decidedD; rw [if_neg (by omega)]; rfl]
  exact Sub.refl _
def ackD (x : Cli) (r : Rsp) : Cli := { x with seq := x.seq + 1, phase := if (x.jobs.length : Int) < x.seq + 1 then 4 else 0, n := 0, stamp := 0, now := [] }
set_option maxRecDepth 100000 in
set_option maxHeartbeats 4000000 in
theorem ack_spec (x : Cli) (r : Rsp) (hs : I64 x.seq) (ht : x.told.length ≤ 90000) (hw : x.now.length ≤ 90000) (hn0 : 0 ≤ x.n) (hn1 : x.n ≤ 1000000) (hq : x.seq ≤ 1000000) : FSpec Try.prog 52 [.agg [aI x.me, aI x.epoch, aI x.seq, .sl 1 false (x.jobs.map jobA), aI x.phase, aI x.n, aI x.stamp, .sl 4 false (x.told.map donA), .sl 6 false (x.now.map repA)], .agg [aI r.kind, aI r.client, aI r.epoch, aI r.seq, aI r.n, aI r.r.e, aI r.r.a, aI r.r.b, aI r.r.n, aS r.r.t, .sl 1 false (r.r.ns.map txA)]] (.agg (cliA (ackD x r))) := by
  have hs0 := hs.1
  have hs9 := hs.2
  refine spec_enter ⟨[(0, .agg (zN31 x)), (1, .agg (zN32 r))], []⟩ Try.func52 rfl (by kernel_rfl) (by kernel_rfl) rfl (fun t => match t with | 0 => rfl | 1 => rfl | _ + 2 => rfl) (fun c hc => ?_)
  replace hc : c.n = 20 := hc
  refine awp_seq_k (fun K1 hK1 => ?_)
  refine awp_region [0, 1, 2] (by rw [hc]; kernel_rfl) (by kernel_rfl) ?_
  refine seq_new (f := fun b1 => (zN321 x r b1)) (by kernel_rfl) (fun b1 => ?_)
  refine seq_new (f := fun b2 => (zN319 x r b1 b2)) (by kernel_rfl) (fun b2 => ?_)
  refine seq_new (f := fun b3 => (zN320 x r b1 b2 b3)) (by kernel_rfl) (fun b3 => ?_)
  refine hK1 _ ?_
  try clear hK1 K1
  refine awp_less ⟨(zN323 b1 b3), [(2, .box b1 26 (zN31 x)), (4, .box b3 26 zN39)]⟩ ⟨Sub.refl _, Sub.refl _, trivial⟩ ⟨⟨_, rfl, SubB.refl _⟩, ⟨_, rfl, SubB.refl _⟩, trivial⟩ ?_
  refine awp_seq_k (fun K2 hK2 => ?_)
  refine awp_region [0, 1, 2] (by rw [hc]; kernel_rfl) (by kernel_rfl) ?_
  refine seq_run (r := [1, 2]) [0] (s' := ⟨[(2, .ptr 2 b1 0), (4, .ptr 4 b3 0), (5, .agg (zN31 x))], [(2, .box b1 26 (zN31 x)), (4, .box b3 26 zN39)]⟩) (ps := [b1 = b1]) (by kernel_rfl) ⟨rfl, trivial⟩ ?_
  refine seq_call (f := 53) (args := [.agg (zN31 x)]) (d := some 6) (args' := [.agg (zN31 x)]) (s' := ⟨[(2, .ptr 2 b1 0), (4, .ptr 4 b3 0), (5, .agg (zN31 x)), (6, .agg (zN318 x))], [(2, .box b1 26 (zN31 x)), (4, .box b3 26 zN39)]⟩) (by kernel_rfl) (fun _ _ => rfl) ⟨Sub.refl _, trivial⟩ (idle_spec (⟨x.me, x.epoch, x.seq, x.jobs, x.phase, x.n, x.stamp, x.told, x.now⟩ : Cli)) (by kernel_rfl) ?_
  refine seq_run (r := []) [2] (s' := ⟨[(2, .ptr 2 b1 0), (4, .ptr 4 b3 0), (5, .agg (zN31 x)), (6, .agg (zN318 x))], [(2, .box b1 26 (zN318 x)), (4, .box b3 26 zN39)]⟩) (ps := [b1 = b1]) (by kernel_rfl) ⟨rfl, trivial⟩ ?_
  refine hK2 _ ?_
  try clear hK2 K2
  refine awp_less ⟨(zN323 b1 b3), [(2, .box b1 26 (zN318 x)), (4, .box b3 26 zN39)]⟩ ⟨Sub.refl _, Sub.refl _, trivial⟩ ⟨⟨_, rfl, SubB.refl _⟩, ⟨_, rfl, SubB.refl _⟩, trivial⟩ ?_
  refine awp_seq_k (fun K3 hK3 => ?_)
  refine awp_region [0, 1, 2, 3, 4] (by rw [hc]; kernel_rfl) (by kernel_rfl) ?_
  refine seq_run (r := []) [0, 1, 2, 3, 4] (s' := ⟨[(2, .ptr 2 b1 0), (4, .ptr 4 b3 0), (7, .ptr 2 b1 2), (8, aI x.seq), (9, aI (x.seq + 1)), (10, .ptr 2 b1 2)], (zN326 b1 x b3)⟩) (ps := [b1 = b1, rng .i64 (x.seq + 1), b1 = b1]) (by kernel_rfl) ⟨rfl, rng64 (by omega) (by omega), rfl, trivial⟩ ?_
  refine hK3 _ ?_
  try clear hK3 K3
  refine awp_less ⟨(zN323 b1 b3), (zN326 b1 x b3)⟩ ⟨Sub.refl _, Sub.refl _, trivial⟩ ⟨⟨_, rfl, SubB.refl _⟩, ⟨_, rfl, SubB.refl _⟩, trivial⟩ ?_
  refine awp_seq_k (fun K4 hK4 => ?_)
  refine awp_region [0, 1] (by rw [hc]; kernel_rfl) (by kernel_rfl) ?_
  refine seq_run (r := []) [0, 1] (s' := ⟨[(2, .ptr 2 b1 0), (4, .ptr 4 b3 0), (11, .ptr 2 b1 4)], (zN324 b1 x b3)⟩) (ps := [b1 = b1]) (by kernel_rfl) ⟨rfl, trivial⟩ ?_
  refine hK4 _ ?_
  try clear hK4 K4
  refine awp_less ⟨(zN323 b1 b3), (zN324 b1 x b3)⟩ ⟨Sub.refl _, Sub.refl _, trivial⟩ ⟨⟨_, rfl, SubB.refl _⟩, ⟨_, rfl, SubB.refl _⟩, trivial⟩ ?_
  refine awp_seq_k (fun K5 hK5 => ?_)
  refine awp_seq_k (fun K6 hK6 => ?_)
  refine awp_region [0, 1, 2, 3, 4, 5] (by rw [hc]; kernel_rfl) (by kernel_rfl) ?_
  refine seq_run (r := [5]) [0, 1, 2, 3, 4] (s' := ⟨[(2, .ptr 2 b1 0), (4, .ptr 4 b3 0), (12, .ptr 2 b1 2), (13, aI (x.seq + 1)), (14, .ptr 2 b1 3), (15, .sl 1 false (x.jobs.map jobA)), (16, aI ((x.jobs.map jobA).length : Int))], (zN324 b1 x b3)⟩) (ps := [b1 = b1, b1 = b1]) (by kernel_rfl) ⟨rfl, rfl, trivial⟩ ?_
  refine seq_val (s' := ⟨[(2, .ptr 2 b1 0), (4, .ptr 4 b3 0), (12, .ptr 2 b1 2), (13, aI (x.seq + 1)), (14, .ptr 2 b1 3), (15, .sl 1 false (x.jobs.map jobA)), (16, aI (x.jobs.length : Int))], (zN324 b1 x b3)⟩) 16 (x := aI ((x.jobs.map jobA).length : Int)) (y := aI (x.jobs.length : Int)) (by rw [List.length_map]) (by kernel_rfl) (by kernel_rfl) ?_
  refine seq_run (r := []) [5] (s' := ⟨[(2, .ptr 2 b1 0), (4, .ptr 4 b3 0), (12, .ptr 2 b1 2), (13, aI (x.seq + 1)), (14, .ptr 2 b1 3), (15, .sl 1 false (x.jobs.map jobA)), (16, aI (x.jobs.length : Int)), (17, aB (decide ((x.seq + 1) > (x.jobs.length : Int))))], (zN324 b1 x b3)⟩) (ps := []) (by kernel_rfl) trivial ?_
  refine hK6 _ ?_
  try clear hK6 K6
  refine awp_less ⟨[(2, .ptr 2 b1 0), (4, .ptr 4 b3 0), (17, aB (decide ((x.seq + 1) > (x.jobs.length : Int))))], (zN324 b1 x b3)⟩ ⟨Sub.refl _, Sub.refl _, Sub.refl _, trivial⟩ ⟨⟨_, rfl, SubB.refl _⟩, ⟨_, rfl, SubB.refl _⟩, trivial⟩ ?_
  rcases decC ((x.seq + 1) > (x.jobs.length : Int)) with ⟨q1, p1⟩ | ⟨q1, p1⟩
  ·
    refine awp_if true (by omega) (by kernel_rfl) q1 ?_
    refine awp_region [0, 1] (by rw [hc]; kernel_rfl) (by kernel_rfl) ?_
    refine seq_run (r := []) [0, 1] (s' := ⟨[(2, .ptr 2 b1 0), (4, .ptr 4 b3 0), (17, aB (decide ((x.seq + 1) > (x.jobs.length : Int)))), (18, .ptr 2 b1 4)], [(2, .box b1 26 (zN313 x)), (4, .box b3 26 zN39)]⟩) (ps := [b1 = b1]) (by kernel_rfl) ⟨rfl, trivial⟩ ?_
    refine hK5 _ ?_
    try clear hK5 K5
    refine awp_less ⟨(zN323 b1 b3), [(2, .box b1 26 (zN313 x)), (4, .box b3 26 zN39)]⟩ ⟨Sub.refl _, Sub.refl _, trivial⟩ ⟨⟨_, rfl, SubB.refl _⟩, ⟨_, rfl, SubB.refl _⟩, trivial⟩ ?_
    refine awp_seq_k (fun K7 hK7 => ?_)
    refine awp_region [0, 1] (by rw [hc]; kernel_rfl) (by kernel_rfl) ?_
    refine seq_run (r := []) [0, 1] (s' := ⟨[(2, .ptr 2 b1 0), (4, .ptr 4 b3 0), (19, .agg (zN313 x))], [(2, .box b1 26 (zN313 x)), (4, .box b3 26 (zN313 x))]⟩) (ps := [b1 = b1, b3 = b3]) (by kernel_rfl) ⟨rfl, rfl, trivial⟩ ?_
    refine hK7 _ ?_
    try clear hK7 K7
    refine awp_less ⟨[(4, .ptr 4 b3 0)], [(4, .box b3 26 (zN313 x))]⟩ ⟨Sub.refl _, trivial⟩ ⟨⟨_, rfl, SubB.refl _⟩, trivial⟩ ?_
    refine awp_ret ?_
    refine fin_ret ⟨[b3 = b3], [.agg (zN313 x)], by kernel_rfl, ⟨rfl, trivial⟩, ?_⟩
    rw [show ackD x r = { x with seq := x.seq + 1, phase := 4, n := 0, stamp := 0, now := [] } from by unfold ackD; rw [if_pos (by omega)]]
    exact Sub.refl _
  refine awp_if false (by omega) (by kernel_rfl) q1 ?_
  refine awp_skip ?_
  refine hK5 _ ?_
  try clear hK5 K5
  refine awp_less ⟨(zN323 b1 b3), (zN324 b1 x b3)⟩ ⟨Sub.refl _, Sub.refl _, trivial⟩ ⟨⟨_, rfl, SubB.refl _⟩, ⟨_, rfl, SubB.refl _⟩, trivial⟩ ?_
  refine awp_seq_k (fun K8 hK8 => ?_)
  refine awp_region [0, 1] (by rw [hc]; kernel_rfl) (by kernel_rfl) ?_
  refine seq_run (r := []) [0, 1] (s' := ⟨[(2, .ptr 2 b1 0), (4, .ptr 4 b3 0), (19, .agg (zN38 x))], [(2, .box b1 26 (zN38 x)), (4, .box b3 26 (zN38 x))]⟩) (ps := [b1 = b1, b3 = b3]) (by kernel_rfl) ⟨rfl, rfl, trivial⟩ ?_
  refine hK8 _ ?_
  try clear hK8 K8
  refine awp_less ⟨[(4, .ptr 4 b3 0)], [(4, .box b3 26 (zN38 x))]⟩ ⟨Sub.refl _, trivial⟩ ⟨⟨_, rfl, SubB.refl _⟩, trivial⟩ ?_
  refine awp_ret ?_
  refine fin_ret ⟨[b3 = b3], [.agg (zN38 x)], by kernel_rfl, ⟨rfl, trivial⟩, ?_⟩
  rw [show ackD x r = { x with seq := x.seq + 1, phase := 0, n := 0, stamp := 0, now := [] } from by unfold ackD; rw [if_neg (by omega)]]
  exact Sub.refl _
end Go.Proofs.Ytpdedjbkfcaebaa
