/- ref18.Hear. -/
import Derived.Test.YtpdedjbkfcaebaaCliN5
set_option linter.unusedVariables false
set_option linter.unusedSimpArgs false
namespace Go.Proofs.Ytpdedjbkfcaebaa
open Go.RowKit Copyhold
theorem say_kind {x : Cli} (h : (sayD x).2 = true) : (x.phase = 0 ∧ (sayD x).1.kind = 1) ∨ (x.phase = 1 ∧ (sayD x).1.kind = 2 ∧ (sayD x).1.n = x.n + 1) ∨ (x.phase = 2 ∧ (sayD x).1.kind = 3) ∨ (x.phase = 3 ∧ (sayD x).1.kind = 6) := by
  revert h; unfold sayD
  repeat' split
  all_goals simp_all
theorem asks_le {x : Cli} (hr : RightP x) : (asksD x).2 = decide (x.phase ≤ 2) := by
  have := right_phase hr
  unfold asksD
  split
  · simp; omega
  · simp; omega
def zN61 (b1 : Nat) (x : Cli) (b2 : Nat) (r : Rsp) (b3 : Nat) (b4 : Nat) : List (Nat × Bx) := [(2, .box b1 26 [aI x.me, aI x.epoch, aI x.seq, .sl 1 false (x.jobs.map jobA), aI x.phase, aI x.n, aI x.stamp, .sl 4 false (x.told.map donA), .sl 6 false (x.now.map repA)]), (3, .box b2 32 [aI r.kind, aI r.client, aI r.epoch, aI r.seq, aI r.n, aI r.r.e, aI r.r.a, aI r.r.b, aI r.r.n, aS r.r.t, .sl 1 false (r.r.ns.map txA)]), (4, .box b3 26 [aI 0, aI 0, aI 0, aN, aI 0, aI 0, aI 0, aN, aN]), (5, .box b4 38 [aI ((sayD x).1.kind), aI ((sayD x).1.client), aI ((sayD x).1.epoch), aI ((sayD x).1.seq), aI ((sayD x).1.n), aI ((sayD x).1.stamp), aI ((sayD x).1.c.kind), aI ((sayD x).1.c.ino), aI ((sayD x).1.c.dest), aI ((sayD x).1.c.pos), aI ((sayD x).1.c.many), aS ((sayD x).1.c.name), aS ((sayD x).1.c.name2), aS ((sayD x).1.c.text)])]
def zN62 (x : Cli) : List AV := [aI x.me, aI x.epoch, aI x.seq, .sl 1 false (x.jobs.map jobA), aI x.phase, aI x.n, aI x.stamp, .sl 4 false (x.told.map donA), .sl 6 false (x.now.map repA)]
def zN63 (r : Rsp) : List AV := [aI r.kind, aI r.client, aI r.epoch, aI r.seq, aI r.n, aI r.r.e, aI r.r.a, aI r.r.b, aI r.r.n, aS r.r.t, .sl 1 false (r.r.ns.map txA)]
def zN64 (x : Cli) : List AV := [aI ((sayD x).1.kind), aI ((sayD x).1.client), aI ((sayD x).1.epoch), aI ((sayD x).1.seq), aI ((sayD x).1.n), aI ((sayD x).1.stamp), aI ((sayD x).1.c.kind), aI ((sayD x).1.c.ino), aI ((sayD x).1.c.dest), aI ((sayD x).1.c.pos), aI ((sayD x).1.c.many), aS ((sayD x).1.c.name), aS ((sayD x).1.c.name2), aS ((sayD x).1.c.text)]
def zN65 (b1 : Nat) (x : Cli) (b2 : Nat) (r : Rsp) (b3 : Nat) : List (Nat × Bx) := [(2, .box b1 26 (zN62 x)), (3, .box b2 32 (zN63 r)), (4, .box b3 26 [aI 0, aI 0, aI 0, aN, aI 0, aI 0, aI 0, aN, aN])]
def zN66 (x : Cli) (r : Rsp) : List AV := [aI x.me, aI x.epoch, aI x.seq, .sl 1 false (x.jobs.map jobA), aI 3, aI 0, aI 0, .sl 4 false ((x.told ++ [doneD (⟨x.me, x.epoch, x.seq, x.jobs, x.phase, x.n, x.stamp, x.told, x.now⟩ : Cli) (r.r.e == 0) r.r.e]).map donA), .sl 6 false (([] : List Rep).map repA)]
def zN67 (x : Cli) (r : Rsp) : List AV := [aI x.me, aI x.epoch, aI x.seq, .sl 1 false (x.jobs.map jobA), aI 3, aI 0, aI 0, .sl 4 false ((x.told ++ [doneD (⟨x.me, x.epoch, x.seq, x.jobs, x.phase, x.n, x.stamp, x.told, x.now⟩ : Cli) false r.r.e]).map donA), .sl 6 false (([] : List Rep).map repA)]
def zN68 (x : Cli) (r : Rsp) : List AV := [aI x.me, aI x.epoch, aI x.seq, .sl 1 false (x.jobs.map jobA), aI x.phase, aI (x.n + 1), aI x.stamp, .sl 4 false (x.told.map donA), .sl 6 false ((([] : List (List AV)) ++ (x.now.map repA)) ++ ([[aI r.r.e, aI r.r.a, aI r.r.b, aI r.r.n, aS r.r.t, .sl 1 false (r.r.ns.map txA)]]))]
def zN69 : List AV := [aI 0, aI 0, aI 0, aN, aI 0, aI 0, aI 0, aN, aN]
def zN610 (x : Cli) (r : Rsp) : List AV := [aI x.me, aI x.epoch, aI x.seq, .sl 1 false (x.jobs.map jobA), aI x.phase, aI x.n, aI r.r.a, .sl 4 false (x.told.map donA), .sl 6 false (x.now.map repA)]
def zN611 (b1 : Nat) (x : Cli) (b2 : Nat) (r : Rsp) (b3 : Nat) : List (Nat × Bx) := [(2, .box b1 26 (zN62 x)), (3, .box b2 32 (zN63 r)), (4, .box b3 26 (zN62 x))]
def zN612 (r : Rsp) : List AV := [aI r.r.e, aI r.r.a, aI r.r.b, aI r.r.n, aS r.r.t, .sl 1 false (r.r.ns.map txA)]
def zN613 (x : Cli) : List AV := [aI x.me, aI x.epoch, aI (x.seq + 1), .sl 1 false (x.jobs.map jobA), aI 0, aI 0, aI 0, .sl 4 false (x.told.map donA), aN]
def zN614 (x : Cli) (r : Rsp) : List AV := [aI x.me, aI x.epoch, aI x.seq, .sl 1 false (x.jobs.map jobA), aI (onwardD (⟨x.me, x.epoch, x.seq, x.jobs, x.phase, x.n + 1, x.stamp, x.told, (x.now ++ [r.r])⟩ : Cli)), aI (x.n + 1), aI x.stamp, .sl 4 false (x.told.map donA), .sl 6 false ((x.now ++ [r.r]).map repA)]
def zN615 (x : Cli) (r : Rsp) : List AV := [aI x.me, aI x.epoch, aI x.seq, .sl 1 false (x.jobs.map jobA), aI (onwardD (⟨x.me, x.epoch, x.seq, x.jobs, x.phase, x.n, r.r.a, x.told, x.now⟩ : Cli)), aI x.n, aI r.r.a, .sl 4 false (x.told.map donA), .sl 6 false (x.now.map repA)]
def zN616 (b1 : Nat) (x : Cli) (b2 : Nat) (r : Rsp) (b3 : Nat) (b4 : Nat) : List (Nat × Bx) := [(2, .box b1 26 (zN62 x)), (3, .box b2 32 (zN63 r)), (4, .box b3 26 (zN62 x)), (5, .box b4 38 (zN64 x))]
def zN617 (x : Cli) : List AV := [aI x.me, aI x.epoch, aI (x.seq + 1), .sl 1 false (x.jobs.map jobA), aI 4, aI 0, aI 0, .sl 4 false (x.told.map donA), aN]
def zN618 (b1 : Nat) (b2 : Nat) (b3 : Nat) (r : Rsp) : List (Nat × AV) := [(2, .ptr 2 b1 0), (3, .ptr 3 b2 0), (4, .ptr 4 b3 0), (8, aI r.r.e)]
def zN619 (b1 : Nat) (b2 : Nat) (b3 : Nat) (r : Rsp) (x : Cli) : LS := ⟨[(2, .ptr 2 b1 0), (3, .ptr 3 b2 0), (4, .ptr 4 b3 0), (8, aI r.r.e), (136, aB true), (137, .agg (zN62 x))], (zN611 b1 x b2 r b3)⟩
def zN620 (b1 : Nat) (b2 : Nat) (b3 : Nat) (r : Rsp) (x : Cli) : List (Nat × AV) := [(2, .ptr 2 b1 0), (3, .ptr 3 b2 0), (4, .ptr 4 b3 0), (8, aI r.r.e), (138, .agg (zN62 x)), (139, aI r.r.e), (140, aB (r.r.e == 0)), (141, .ptr 3 b2 5), (142, .ptr 3 b2 5), (143, aI r.r.e), (144, .agg (zN66 x r))]
def zN621 (b1 : Nat) (b2 : Nat) (b3 : Nat) (b4 : Nat) : List (Nat × AV) := [(2, .ptr 2 b1 0), (3, .ptr 3 b2 0), (4, .ptr 4 b3 0), (5, .ptr 5 b4 0)]
def zN622 (b1 : Nat) (b2 : Nat) (b3 : Nat) (r : Rsp) (x : Cli) : LS := ⟨[(2, .ptr 2 b1 0), (3, .ptr 3 b2 0), (4, .ptr 4 b3 0), (8, aI r.r.e), (136, aB true)], (zN65 b1 x b2 r b3)⟩
def zN623 (b1 : Nat) (b3 : Nat) : List (Nat × AV) := [(2, .ptr 2 b1 0), (4, .ptr 4 b3 0)]
def zN624 (b1 : Nat) (x : Cli) (b2 : Nat) (r : Rsp) (b3 : Nat) (V2 : Value) : List (Nat × Bx) := [(2, .box b1 26 (zN62 x)), (3, .box b2 32 (zN63 r)), (4, .box b3 26 zN69), (104, .row V2 30 6 (([] : List (List AV)) ++ (x.now.map repA)))]
def zN625 (b1 : Nat) (x : Cli) (V3 : Value) (r : Rsp) (b3 : Nat) : List (Nat × Bx) := [(2, .box b1 26 [aI x.me, aI x.epoch, aI x.seq, .sl 1 false (x.jobs.map jobA), aI x.phase, aI (x.n + 1), aI x.stamp, .sl 4 false (x.told.map donA), .rw 104 V3 ((([] : List (List AV)) ++ (x.now.map repA)).length + ([(zN612 r)] : List (List AV)).length)]), (4, .box b3 26 zN69), (104, .row V3 30 6 ((([] : List (List AV)) ++ (x.now.map repA)) ++ ([(zN612 r)])))]
def zN626 (b1 : Nat) (b2 : Nat) (b3 : Nat) : List (Nat × AV) := [(2, .ptr 2 b1 0), (3, .ptr 3 b2 0), (4, .ptr 4 b3 0)]
def zN627 (x : Cli) (V3 : Value) (r : Rsp) : List AV := [aI x.me, aI x.epoch, aI x.seq, .sl 1 false (x.jobs.map jobA), aI x.phase, aI x.n, aI x.stamp, .sl 4 false (x.told.map donA), .rw 104 V3 ((([] : List (List AV)) ++ (x.now.map repA)).length + ([(zN612 r)] : List (List AV)).length)]
def zN628 (b1 : Nat) (x : Cli) (b3 : Nat) : List (Nat × Bx) := [(2, .box b1 26 (zN613 x)), (4, .box b3 26 zN69)]
def zN629 (b1 : Nat) (b2 : Nat) (b3 : Nat) (b4 : Nat) (x : Cli) (r : Rsp) : LS := ⟨[(2, .ptr 2 b1 0), (3, .ptr 3 b2 0), (4, .ptr 4 b3 0), (5, .ptr 5 b4 0), (37, aB true), (38, .agg (zN62 x))], (zN616 b1 x b2 r b3 b4)⟩
def zN630 (b1 : Nat) (x : Cli) (b3 : Nat) : List (Nat × Bx) := [(2, .box b1 26 [aI x.me, aI x.epoch, aI (x.seq + 1), .sl 1 false (x.jobs.map jobA), aI x.phase, aI x.n, aI x.stamp, .sl 4 false (x.told.map donA), .sl 6 false (x.now.map repA)]), (4, .box b3 26 zN69)]
def zN631 (b1 : Nat) (x : Cli) (b3 : Nat) : List (Nat × Bx) := [(2, .box b1 26 [aI x.me, aI x.epoch, aI (x.seq + 1), .sl 1 false (x.jobs.map jobA), aI 0, aI x.n, aI x.stamp, .sl 4 false (x.told.map donA), .sl 6 false (x.now.map repA)]), (4, .box b3 26 zN69)]
def zN632 (b1 : Nat) (x : Cli) (b3 : Nat) : List (Nat × Bx) := [(2, .box b1 26 [aI x.me, aI x.epoch, aI (x.seq + 1), .sl 1 false (x.jobs.map jobA), aI 0, aI 0, aI x.stamp, .sl 4 false (x.told.map donA), .sl 6 false (x.now.map repA)]), (4, .box b3 26 zN69)]
def zN633 (b1 : Nat) (x : Cli) (b3 : Nat) : List (Nat × Bx) := [(2, .box b1 26 [aI x.me, aI x.epoch, aI (x.seq + 1), .sl 1 false (x.jobs.map jobA), aI 0, aI 0, aI 0, .sl 4 false (x.told.map donA), .sl 6 false (x.now.map repA)]), (4, .box b3 26 zN69)]
def zN634 (b1 : Nat) (b2 : Nat) (b3 : Nat) (r : Rsp) (x : Cli) : LS := ⟨[(2, .ptr 2 b1 0), (3, .ptr 3 b2 0), (4, .ptr 4 b3 0), (8, aI r.r.e), (138, .agg (zN62 x)), (139, aI r.r.e), (140, aB (r.r.e == 0)), (141, .ptr 3 b2 5), (142, .ptr 3 b2 5), (143, aI r.r.e)], (zN65 b1 x b2 r b3)⟩
def zN635 (b1 : Nat) (b2 : Nat) (b3 : Nat) (r : Rsp) (x : Cli) : LS := ⟨(zN618 b1 b2 b3 r), (zN611 b1 x b2 r b3)⟩
def zN636 (b1 : Nat) (b2 : Nat) (b3 : Nat) (b4 : Nat) (x : Cli) (r : Rsp) : LS := ⟨[(2, .ptr 2 b1 0), (3, .ptr 3 b2 0), (4, .ptr 4 b3 0), (5, .ptr 5 b4 0), (37, aB true)], (zN61 b1 x b2 r b3 b4)⟩
set_option maxRecDepth 100000 in
set_option maxHeartbeats 4000000 in
theorem rhear_spec (x : Cli) (r : Rsp) (ok : OkX x) (hr : RightP x) (hn9 : x.now.length ≤ 1000) (ht : x.told.length ≤ 90000) (hw : x.now.length ≤ 90000) (hn0 : 0 ≤ x.n) (hn1 : x.n ≤ 1000000) (hq : x.seq ≤ 1000000) (okr : OkRsp r) : FSpec Try.prog 18 [.agg [aI x.me, aI x.epoch, aI x.seq, .sl 1 false (x.jobs.map jobA), aI x.phase, aI x.n, aI x.stamp, .sl 4 false (x.told.map donA), .sl 6 false (x.now.map repA)], .agg [aI r.kind, aI r.client, aI r.epoch, aI r.seq, aI r.n, aI r.r.e, aI r.r.a, aI r.r.b, aI r.r.n, aS r.r.t, .sl 1 false (r.r.ns.map txA)]] (.agg (cliA (hearD x r))) := by
  have hs : I64 x.seq := ok.1.1.2.2.1
  have hs0 := hs.1
  have hs9 := hs.2
  have hre0 := okr.2.1.1.1
  have hre1 := okr.2.1.1.2
  have hph := right_phase hr
  refine spec_enter ⟨[(0, .agg (zN62 x)), (1, .agg (zN63 r))], []⟩ Try.func18 rfl (by kernel_rfl) (by kernel_rfl) rfl (fun t => match t with | 0 => rfl | 1 => rfl | _ + 2 => rfl) (fun c hc => ?_)
  replace hc : c.n = 161 := hc
  refine awp_seq_k (fun K1 hK1 => ?_)
  refine awp_region [0, 1, 2] (by rw [hc]; kernel_rfl) (by kernel_rfl) ?_
  refine seq_new (f := fun b1 => ⟨[(0, .agg (zN62 x)), (1, .agg (zN63 r)), (2, .ptr 2 b1 0)], [(2, .box b1 26 (zN62 x))]⟩) (by kernel_rfl) (fun b1 => ?_)
  refine seq_new (f := fun b2 => ⟨[(0, .agg (zN62 x)), (1, .agg (zN63 r)), (2, .ptr 2 b1 0), (3, .ptr 3 b2 0)], [(2, .box b1 26 (zN62 x)), (3, .box b2 32 (zN63 r))]⟩) (by kernel_rfl) (fun b2 => ?_)
  refine seq_new (f := fun b3 => ⟨[(0, .agg (zN62 x)), (1, .agg (zN63 r)), (2, .ptr 2 b1 0), (3, .ptr 3 b2 0), (4, .ptr 4 b3 0)], (zN65 b1 x b2 r b3)⟩) (by kernel_rfl) (fun b3 => ?_)
  refine hK1 _ ?_
  try clear hK1 K1
  refine awp_less ⟨(zN626 b1 b2 b3), (zN65 b1 x b2 r b3)⟩ ⟨Sub.refl _, Sub.refl _, Sub.refl _, trivial⟩ ⟨⟨_, rfl, SubB.refl _⟩, ⟨_, rfl, SubB.refl _⟩, ⟨_, rfl, SubB.refl _⟩, trivial⟩ ?_
  refine awp_seq_k (fun K2 hK2 => ?_)
  refine awp_region [0, 1, 2, 3, 4, 5, 6, 7] (by rw [hc]; kernel_rfl) (by kernel_rfl) ?_
  refine seq_run (r := [1, 2, 3, 4, 5, 6, 7]) [0] (s' := ⟨[(2, .ptr 2 b1 0), (3, .ptr 3 b2 0), (4, .ptr 4 b3 0), (11, .agg (zN62 x))], (zN65 b1 x b2 r b3)⟩) (ps := [b1 = b1]) (by kernel_rfl) ⟨rfl, trivial⟩ ?_
  refine seq_call (f := 13) (args := [.agg (zN62 x)]) (d := some 12) (args' := [.agg (zN62 x)]) (s' := ⟨[(2, .ptr 2 b1 0), (3, .ptr 3 b2 0), (4, .ptr 4 b3 0), (11, .agg (zN62 x)), (12, .tup [.agg (zN64 x), aB ((sayD x).2)])], (zN65 b1 x b2 r b3)⟩) (by kernel_rfl) (fun _ _ => rfl) ⟨Sub.refl _, trivial⟩ (rsay_spec x ok hr hn9) (by kernel_rfl) ?_
  refine seq_run (r := [5, 6, 7]) [2, 3, 4] (s' := ⟨[(2, .ptr 2 b1 0), (3, .ptr 3 b2 0), (4, .ptr 4 b3 0), (11, .agg (zN62 x)), (12, .tup [.agg (zN64 x), aB ((sayD x).2)]), (10, .tup [.agg (zN64 x), aB ((sayD x).2)]), (13, .agg (zN64 x)), (14, aB ((sayD x).2))], (zN65 b1 x b2 r b3)⟩) (ps := []) (by kernel_rfl) trivial ?_
  refine seq_new (f := fun b4 => ⟨[(2, .ptr 2 b1 0), (3, .ptr 3 b2 0), (4, .ptr 4 b3 0), (11, .agg (zN62 x)), (12, .tup [.agg (zN64 x), aB ((sayD x).2)]), (10, .tup [.agg (zN64 x), aB ((sayD x).2)]), (13, .agg (zN64 x)), (14, aB ((sayD x).2)), (5, .ptr 5 b4 0)], [(2, .box b1 26 (zN62 x)), (3, .box b2 32 (zN63 r)), (4, .box b3 26 zN69), (5, .box b4 38 [aI 0, aI 0, aI 0, aI 0, aI 0, aI 0, aI 0, aI 0, aI 0, aI 0, aI 0, aS ([]), aS ([]), aS ([])])]⟩) (by kernel_rfl) (fun b4 => ?_)
  refine seq_run (r := []) [6, 7] (s' := ⟨[(2, .ptr 2 b1 0), (3, .ptr 3 b2 0), (4, .ptr 4 b3 0), (11, .agg (zN62 x)), (12, .tup [.agg (zN64 x), aB ((sayD x).2)]), (10, .tup [.agg (zN64 x), aB ((sayD x).2)]), (13, .agg (zN64 x)), (14, aB ((sayD x).2)), (5, .ptr 5 b4 0), (6, aB ((sayD x).2))], (zN61 b1 x b2 r b3 b4)⟩) (ps := [b4 = b4]) (by kernel_rfl) ⟨rfl, trivial⟩ ?_
  refine hK2 _ ?_
  try clear hK2 K2
  refine awp_less ⟨[(2, .ptr 2 b1 0), (3, .ptr 3 b2 0), (4, .ptr 4 b3 0), (5, .ptr 5 b4 0), (6, aB ((sayD x).2))], (zN61 b1 x b2 r b3 b4)⟩ ⟨Sub.refl _, Sub.refl _, Sub.refl _, Sub.refl _, Sub.refl _, trivial⟩ ⟨⟨_, rfl, SubB.refl _⟩, ⟨_, rfl, SubB.refl _⟩, ⟨_, rfl, SubB.refl _⟩, ⟨_, rfl, SubB.refl _⟩, trivial⟩ ?_
  refine awp_seq_k (fun K3 hK3 => ?_)
  refine awp_seq_k (fun K4 hK4 => ?_)
  refine awp_region [0, 1, 2, 3, 4, 5, 6, 7, 8, 9, 10, 11, 12, 13, 14, 15, 16, 17, 18, 19, 20, 21, 22] (by rw [hc]; kernel_rfl) (by kernel_rfl) ?_
  refine seq_run (r := [3, 4, 5, 6, 7, 8, 9, 10, 11, 12, 13, 14, 15, 16, 17, 18, 19, 20, 21, 22]) [0, 1, 2] (s' := ⟨[(2, .ptr 2 b1 0), (3, .ptr 3 b2 0), (4, .ptr 4 b3 0), (5, .ptr 5 b4 0), (6, aB ((sayD x).2)), (15, aB ((sayD x).2)), (16, aB (!((sayD x).2))), (17, aB (!((sayD x).2)))], (zN61 b1 x b2 r b3 b4)⟩) (ps := []) (by kernel_rfl) trivial ?_
  rcases boolC ((sayD x).2) with ⟨q1, p1⟩ | ⟨q1, p1⟩
  ·
    refine seq_bool (s' := ⟨[(2, .ptr 2 b1 0), (3, .ptr 3 b2 0), (4, .ptr 4 b3 0), (5, .ptr 5 b4 0), (6, aB ((sayD x).2)), (15, aB ((sayD x).2)), (16, aB (!((sayD x).2))), (17, aB false)], (zN61 b1 x b2 r b3 b4)⟩) 17 (b := !((sayD x).2)) (v := false) (show (!((sayD x).2)) = false from by rw [q1]; rfl) (by kernel_rfl) (by kernel_rfl) ?_
    refine seq_run (r := [10, 11, 12, 13, 14, 15, 16, 17, 18, 19, 20, 21, 22]) [3, 4, 5, 6, 7, 8, 9] (s' := ⟨[(2, .ptr 2 b1 0), (3, .ptr 3 b2 0), (4, .ptr 4 b3 0), (5, .ptr 5 b4 0), (6, aB ((sayD x).2)), (15, aB ((sayD x).2)), (16, aB (!((sayD x).2))), (17, aB false), (18, .ptr 3 b2 1), (19, aI r.client), (20, .ptr 2 b1 0), (21, aI x.me), (22, aB (r.client != x.me)), (23, aB (r.client != x.me)), (24, aB (r.client != x.me))], (zN61 b1 x b2 r b3 b4)⟩) (ps := [b2 = b2, b1 = b1]) (by kernel_rfl) ⟨rfl, rfl, trivial⟩ ?_
    rcases bneC (r.client) (x.me) with ⟨q2, p2⟩ | ⟨q2, p2⟩
    ·
      refine seq_bool (s' := ⟨[(2, .ptr 2 b1 0), (3, .ptr 3 b2 0), (4, .ptr 4 b3 0), (5, .ptr 5 b4 0), (6, aB ((sayD x).2)), (15, aB ((sayD x).2)), (16, aB (!((sayD x).2))), (17, aB false), (18, .ptr 3 b2 1), (19, aI r.client), (20, .ptr 2 b1 0), (21, aI x.me), (22, aB (r.client != x.me)), (23, aB (r.client != x.me)), (24, aB true)], (zN61 b1 x b2 r b3 b4)⟩) 24 (b := r.client != x.me) (v := true) q2 (by kernel_rfl) (by kernel_rfl) ?_
      refine seq_run (r := []) [10, 11, 12, 13, 14, 15, 16, 17, 18, 19, 20, 21, 22] (s' := ⟨[(2, .ptr 2 b1 0), (3, .ptr 3 b2 0), (4, .ptr 4 b3 0), (5, .ptr 5 b4 0), (6, aB ((sayD x).2)), (15, aB ((sayD x).2)), (16, aB (!((sayD x).2))), (17, aB false), (18, .ptr 3 b2 1), (19, aI r.client), (20, .ptr 2 b1 0), (21, aI x.me), (22, aB (r.client != x.me)), (23, aB (r.client != x.me)), (24, aB true), (25, .val undef), (26, .val undef), (27, .val undef), (28, .val undef), (29, .val undef), (30, aB true), (31, aB true), (32, .val undef), (33, .val undef), (34, .val undef), (35, .val undef), (36, .val undef), (37, aB true)], (zN61 b1 x b2 r b3 b4)⟩) (ps := []) (by kernel_rfl) trivial ?_
      refine hK4 _ ?_
      try clear hK4 K4
      refine awp_less (zN636 b1 b2 b3 b4 x r) ⟨Sub.refl _, Sub.refl _, Sub.refl _, Sub.refl _, Sub.refl _, trivial⟩ ⟨⟨_, rfl, SubB.refl _⟩, ⟨_, rfl, SubB.refl _⟩, ⟨_, rfl, SubB.refl _⟩, ⟨_, rfl, SubB.refl _⟩, trivial⟩ ?_
      refine awp_if true (by omega) (by kernel_rfl) rfl ?_
      refine awp_seq_k (fun K5 hK5 => ?_)
      refine awp_region [0, 1] (by rw [hc]; kernel_rfl) (by kernel_rfl) ?_
      refine seq_run (r := []) [0, 1] (s' := (zN629 b1 b2 b3 b4 x r)) (ps := [b1 = b1, b3 = b3]) (by kernel_rfl) ⟨rfl, rfl, trivial⟩ ?_
      refine hK5 _ ?_
      try clear hK5 K5
      refine awp_less ⟨(zN621 b1 b2 b3 b4), (zN616 b1 x b2 r b3 b4)⟩ ⟨Sub.refl _, Sub.refl _, Sub.refl _, Sub.refl _, trivial⟩ ⟨⟨_, rfl, SubB.refl _⟩, ⟨_, rfl, SubB.refl _⟩, ⟨_, rfl, SubB.refl _⟩, ⟨_, rfl, SubB.refl _⟩, trivial⟩ ?_
      refine awp_ret ?_
      refine fin_ret ⟨[b3 = b3], [.agg (zN62 x)], by kernel_rfl, ⟨rfl, trivial⟩, ?_⟩
      have hM : hearD x r = x := by
        have hk := say_kind q1
        have hm : meantD x r = false := by
          unfold meantD
          repeat' split
          all_goals first | rfl | omega | (rw [asks_le hr]; simp; omega) | (simp; omega) | simp_all
        unfold hearD begunD calledD decidedD ackD
        repeat (first | rw [if_pos (by first | assumption | omega)] | rw [if_neg (by first | assumption | omega | (rw [q1]; decide) | simp_all)])
        try rfl
      rw [hM]
      exact Sub.refl _
    refine seq_bool (s' := ⟨[(2, .ptr 2 b1 0), (3, .ptr 3 b2 0), (4, .ptr 4 b3 0), (5, .ptr 5 b4 0), (6, aB ((sayD x).2)), (15, aB ((sayD x).2)), (16, aB (!((sayD x).2))), (17, aB false), (18, .ptr 3 b2 1), (19, aI r.client), (20, .ptr 2 b1 0), (21, aI x.me), (22, aB (r.client != x.me)), (23, aB (r.client != x.me)), (24, aB false)], (zN61 b1 x b2 r b3 b4)⟩) 24 (b := r.client != x.me) (v := false) q2 (by kernel_rfl) (by kernel_rfl) ?_
    refine seq_run (r := [17, 18, 19, 20, 21, 22]) [10, 11, 12, 13, 14, 15, 16] (s' := ⟨[(2, .ptr 2 b1 0), (3, .ptr 3 b2 0), (4, .ptr 4 b3 0), (5, .ptr 5 b4 0), (6, aB ((sayD x).2)), (15, aB ((sayD x).2)), (16, aB (!((sayD x).2))), (17, aB false), (18, .ptr 3 b2 1), (19, aI r.client), (20, .ptr 2 b1 0), (21, aI x.me), (22, aB (r.client != x.me)), (23, aB (r.client != x.me)), (24, aB false), (25, .ptr 3 b2 2), (26, aI r.epoch), (27, .ptr 2 b1 1), (28, aI x.epoch), (29, aB (r.epoch != x.epoch)), (30, aB (r.epoch != x.epoch)), (31, aB (r.epoch != x.epoch))], (zN61 b1 x b2 r b3 b4)⟩) (ps := [b2 = b2, b1 = b1]) (by kernel_rfl) ⟨rfl, rfl, trivial⟩ ?_
    rcases bneC (r.epoch) (x.epoch) with ⟨q3, p3⟩ | ⟨q3, p3⟩
    ·
      refine seq_bool (s' := ⟨[(2, .ptr 2 b1 0), (3, .ptr 3 b2 0), (4, .ptr 4 b3 0), (5, .ptr 5 b4 0), (6, aB ((sayD x).2)), (15, aB ((sayD x).2)), (16, aB (!((sayD x).2))), (17, aB false), (18, .ptr 3 b2 1), (19, aI r.client), (20, .ptr 2 b1 0), (21, aI x.me), (22, aB (r.client != x.me)), (23, aB (r.client != x.me)), (24, aB false), (25, .ptr 3 b2 2), (26, aI r.epoch), (27, .ptr 2 b1 1), (28, aI x.epoch), (29, aB (r.epoch != x.epoch)), (30, aB (r.epoch != x.epoch)), (31, aB true)], (zN61 b1 x b2 r b3 b4)⟩) 31 (b := r.epoch != x.epoch) (v := true) q3 (by kernel_rfl) (by kernel_rfl) ?_
      refine seq_run (r := []) [17, 18, 19, 20, 21, 22] (s' := ⟨[(2, .ptr 2 b1 0), (3, .ptr 3 b2 0), (4, .ptr 4 b3 0), (5, .ptr 5 b4 0), (6, aB ((sayD x).2)), (15, aB ((sayD x).2)), (16, aB (!((sayD x).2))), (17, aB false), (18, .ptr 3 b2 1), (19, aI r.client), (20, .ptr 2 b1 0), (21, aI x.me), (22, aB (r.client != x.me)), (23, aB (r.client != x.me)), (24, aB false), (25, .ptr 3 b2 2), (26, aI r.epoch), (27, .ptr 2 b1 1), (28, aI x.epoch), (29, aB (r.epoch != x.epoch)), (30, aB (r.epoch != x.epoch)), (31, aB true), (32, .val undef), (33, .val undef), (34, .val undef), (35, .val undef), (36, .val undef), (37, aB true)], (zN61 b1 x b2 r b3 b4)⟩) (ps := []) (by kernel_rfl) trivial ?_
      refine hK4 _ ?_
      try clear hK4 K4
      refine awp_less (zN636 b1 b2 b3 b4 x r) ⟨Sub.refl _, Sub.refl _, Sub.refl _, Sub.refl _, Sub.refl _, trivial⟩ ⟨⟨_, rfl, SubB.refl _⟩, ⟨_, rfl, SubB.refl _⟩, ⟨_, rfl, SubB.refl _⟩, ⟨_, rfl, SubB.refl _⟩, trivial⟩ ?_
      refine awp_if true (by omega) (by kernel_rfl) rfl ?_
      refine awp_seq_k (fun K6 hK6 => ?_)
      refine awp_region [0, 1] (by rw [hc]; kernel_rfl) (by kernel_rfl) ?_
      refine seq_run (r := []) [0, 1] (s' := (zN629 b1 b2 b3 b4 x r)) (ps := [b1 = b1, b3 = b3]) (by kernel_rfl) ⟨rfl, rfl, trivial⟩ ?_
      refine hK6 _ ?_
      try clear hK6 K6
      refine awp_less ⟨(zN621 b1 b2 b3 b4), (zN616 b1 x b2 r b3 b4)⟩ ⟨Sub.refl _, Sub.refl _, Sub.refl _, Sub.refl _, trivial⟩ ⟨⟨_, rfl, SubB.refl _⟩, ⟨_, rfl, SubB.refl _⟩, ⟨_, rfl, SubB.refl _⟩, ⟨_, rfl, SubB.refl _⟩, trivial⟩ ?_
      refine awp_ret ?_
      refine fin_ret ⟨[b3 = b3], [.agg (zN62 x)], by kernel_rfl, ⟨rfl, trivial⟩, ?_⟩
      have hM : hearD x r = x := by
        have hk := say_kind q1
        have hm : meantD x r = false := by
          unfold meantD
          repeat' split
          all_goals first | rfl | omega | (rw [asks_le hr]; simp; omega) | (simp; omega) | simp_all
        unfold hearD begunD calledD decidedD ackD
        repeat (first | rw [if_pos (by first | assumption | omega)] | rw [if_neg (by first | assumption | omega | (rw [q1]; decide) | simp_all)])
        try rfl
      rw [hM]
      exact Sub.refl _
    refine seq_bool (s' := ⟨[(2, .ptr 2 b1 0), (3, .ptr 3 b2 0), (4, .ptr 4 b3 0), (5, .ptr 5 b4 0), (6, aB ((sayD x).2)), (15, aB ((sayD x).2)), (16, aB (!((sayD x).2))), (17, aB false), (18, .ptr 3 b2 1), (19, aI r.client), (20, .ptr 2 b1 0), (21, aI x.me), (22, aB (r.client != x.me)), (23, aB (r.client != x.me)), (24, aB false), (25, .ptr 3 b2 2), (26, aI r.epoch), (27, .ptr 2 b1 1), (28, aI x.epoch), (29, aB (r.epoch != x.epoch)), (30, aB (r.epoch != x.epoch)), (31, aB false)], (zN61 b1 x b2 r b3 b4)⟩) 31 (b := r.epoch != x.epoch) (v := false) q3 (by kernel_rfl) (by kernel_rfl) ?_
    refine seq_run (r := []) [17, 18, 19, 20, 21, 22] (s' := ⟨[(2, .ptr 2 b1 0), (3, .ptr 3 b2 0), (4, .ptr 4 b3 0), (5, .ptr 5 b4 0), (6, aB ((sayD x).2)), (15, aB ((sayD x).2)), (16, aB (!((sayD x).2))), (17, aB false), (18, .ptr 3 b2 1), (19, aI r.client), (20, .ptr 2 b1 0), (21, aI x.me), (22, aB (r.client != x.me)), (23, aB (r.client != x.me)), (24, aB false), (25, .ptr 3 b2 2), (26, aI r.epoch), (27, .ptr 2 b1 1), (28, aI x.epoch), (29, aB (r.epoch != x.epoch)), (30, aB (r.epoch != x.epoch)), (31, aB false), (32, .ptr 3 b2 3), (33, aI r.seq), (34, .ptr 2 b1 2), (35, aI x.seq), (36, aB (r.seq != x.seq)), (37, aB (r.seq != x.seq))], (zN61 b1 x b2 r b3 b4)⟩) (ps := [b2 = b2, b1 = b1]) (by kernel_rfl) ⟨rfl, rfl, trivial⟩ ?_
    refine hK4 _ ?_
    try clear hK4 K4
    refine awp_less ⟨[(2, .ptr 2 b1 0), (3, .ptr 3 b2 0), (4, .ptr 4 b3 0), (5, .ptr 5 b4 0), (37, aB (r.seq != x.seq))], (zN61 b1 x b2 r b3 b4)⟩ ⟨Sub.refl _, Sub.refl _, Sub.refl _, Sub.refl _, Sub.refl _, trivial⟩ ⟨⟨_, rfl, SubB.refl _⟩, ⟨_, rfl, SubB.refl _⟩, ⟨_, rfl, SubB.refl _⟩, ⟨_, rfl, SubB.refl _⟩, trivial⟩ ?_
    rcases bneC (r.seq) (x.seq) with ⟨q4, p4⟩ | ⟨q4, p4⟩
    ·
      refine awp_if true (by omega) (by kernel_rfl) q4 ?_
      refine awp_seq_k (fun K7 hK7 => ?_)
      refine awp_region [0, 1] (by rw [hc]; kernel_rfl) (by kernel_rfl) ?_
      refine seq_run (r := []) [0, 1] (s' := ⟨[(2, .ptr 2 b1 0), (3, .ptr 3 b2 0), (4, .ptr 4 b3 0), (5, .ptr 5 b4 0), (37, aB (r.seq != x.seq)), (38, .agg (zN62 x))], (zN616 b1 x b2 r b3 b4)⟩) (ps := [b1 = b1, b3 = b3]) (by kernel_rfl) ⟨rfl, rfl, trivial⟩ ?_
      refine hK7 _ ?_
      try clear hK7 K7
      refine awp_less ⟨(zN621 b1 b2 b3 b4), (zN616 b1 x b2 r b3 b4)⟩ ⟨Sub.refl _, Sub.refl _, Sub.refl _, Sub.refl _, trivial⟩ ⟨⟨_, rfl, SubB.refl _⟩, ⟨_, rfl, SubB.refl _⟩, ⟨_, rfl, SubB.refl _⟩, ⟨_, rfl, SubB.refl _⟩, trivial⟩ ?_
      refine awp_ret ?_
      refine fin_ret ⟨[b3 = b3], [.agg (zN62 x)], by kernel_rfl, ⟨rfl, trivial⟩, ?_⟩
      have hM : hearD x r = x := by
        have hk := say_kind q1
        have hm : meantD x r = false := by
          unfold meantD
          repeat' split
          all_goals first | rfl | omega | (rw [asks_le hr]; simp; omega) | (simp; omega) | simp_all
        unfold hearD begunD calledD decidedD ackD
        repeat (first | rw [if_pos (by first | assumption | omega)] | rw [if_neg (by first | assumption | omega | (rw [q1]; decide) | simp_all)])
        try rfl
      rw [hM]
      exact Sub.refl _
    refine awp_if false (by omega) (by kernel_rfl) q4 ?_
    refine awp_skip ?_
    refine hK3 _ ?_
    try clear hK3 K3
    refine awp_less ⟨(zN621 b1 b2 b3 b4), (zN61 b1 x b2 r b3 b4)⟩ ⟨Sub.refl _, Sub.refl _, Sub.refl _, Sub.refl _, trivial⟩ ⟨⟨_, rfl, SubB.refl _⟩, ⟨_, rfl, SubB.refl _⟩, ⟨_, rfl, SubB.refl _⟩, ⟨_, rfl, SubB.refl _⟩, trivial⟩ ?_
    refine awp_seq_k (fun K8 hK8 => ?_)
    refine awp_region [0, 1, 2, 3, 4, 5, 6, 7, 8] (by rw [hc]; kernel_rfl) (by kernel_rfl) ?_
    refine seq_run (r := [4, 5, 6, 7, 8]) [0, 1, 2, 3] (s' := ⟨[(2, .ptr 2 b1 0), (3, .ptr 3 b2 0), (4, .ptr 4 b3 0), (5, .ptr 5 b4 0), (39, .ptr 3 b2 0), (40, aI r.kind), (41, aB (r.kind == 5)), (42, aB (r.kind == 5))], (zN61 b1 x b2 r b3 b4)⟩) (ps := [b2 = b2]) (by kernel_rfl) ⟨rfl, trivial⟩ ?_
    rcases beqC (r.kind) (5) with ⟨q5, p5⟩ | ⟨q5, p5⟩
    ·
      refine seq_bool (s' := ⟨[(2, .ptr 2 b1 0), (3, .ptr 3 b2 0), (4, .ptr 4 b3 0), (5, .ptr 5 b4 0), (39, .ptr 3 b2 0), (40, aI r.kind), (41, aB (r.kind == 5)), (42, aB true)], (zN61 b1 x b2 r b3 b4)⟩) 42 (b := r.kind == 5) (v := true) q5 (by kernel_rfl) (by kernel_rfl) ?_
      refine seq_run (r := []) [4, 5, 6, 7, 8] (s' := ⟨[(2, .ptr 2 b1 0), (3, .ptr 3 b2 0), (4, .ptr 4 b3 0), (5, .ptr 5 b4 0), (39, .ptr 3 b2 0), (40, aI r.kind), (41, aB (r.kind == 5)), (42, aB true), (43, .ptr 2 b1 4), (44, aI x.phase), (45, aB (decide (x.phase ≤ 2))), (46, aB (decide (x.phase ≤ 2))), (7, aB (decide (x.phase ≤ 2)))], (zN61 b1 x b2 r b3 b4)⟩) (ps := [b1 = b1]) (by kernel_rfl) ⟨rfl, trivial⟩ ?_
      refine hK8 _ ?_
      try clear hK8 K8
      refine awp_less ⟨[(2, .ptr 2 b1 0), (3, .ptr 3 b2 0), (4, .ptr 4 b3 0), (5, .ptr 5 b4 0), (7, aB (decide (x.phase ≤ 2)))], (zN61 b1 x b2 r b3 b4)⟩ ⟨Sub.refl _, Sub.refl _, Sub.refl _, Sub.refl _, Sub.refl _, trivial⟩ ⟨⟨_, rfl, SubB.refl _⟩, ⟨_, rfl, SubB.refl _⟩, ⟨_, rfl, SubB.refl _⟩, ⟨_, rfl, SubB.refl _⟩, trivial⟩ ?_
      refine awp_seq_k (fun K9 hK9 => ?_)
      refine awp_seq_k (fun K10 hK10 => ?_)
      refine awp_region [0, 1, 2, 3, 4, 5, 6, 7, 8] (by rw [hc]; kernel_rfl) (by kernel_rfl) ?_
      refine seq_run (r := [6, 7, 8]) [0, 1, 2, 3, 4, 5] (s' := ⟨[(2, .ptr 2 b1 0), (3, .ptr 3 b2 0), (4, .ptr 4 b3 0), (5, .ptr 5 b4 0), (7, aB (decide (x.phase ≤ 2))), (47, .ptr 3 b2 0), (48, aI r.kind), (49, .ptr 5 b4 0), (50, aI ((sayD x).1.kind)), (51, aB (r.kind != ((sayD x).1.kind))), (52, aB (r.kind != ((sayD x).1.kind)))], (zN61 b1 x b2 r b3 b4)⟩) (ps := [b2 = b2, b4 = b4]) (by kernel_rfl) ⟨rfl, rfl, trivial⟩ ?_
      rcases bneC (r.kind) (((sayD x).1.kind)) with ⟨q6, p6⟩ | ⟨q6, p6⟩
      ·
        refine seq_bool (s' := ⟨[(2, .ptr 2 b1 0), (3, .ptr 3 b2 0), (4, .ptr 4 b3 0), (5, .ptr 5 b4 0), (7, aB (decide (x.phase ≤ 2))), (47, .ptr 3 b2 0), (48, aI r.kind), (49, .ptr 5 b4 0), (50, aI ((sayD x).1.kind)), (51, aB (r.kind != ((sayD x).1.kind))), (52, aB true)], (zN61 b1 x b2 r b3 b4)⟩) 52 (b := r.kind != ((sayD x).1.kind)) (v := true) q6 (by kernel_rfl) (by kernel_rfl) ?_
        refine seq_run (r := []) [6, 7, 8] (s' := ⟨[(2, .ptr 2 b1 0), (3, .ptr 3 b2 0), (4, .ptr 4 b3 0), (5, .ptr 5 b4 0), (7, aB (decide (x.phase ≤ 2))), (47, .ptr 3 b2 0), (48, aI r.kind), (49, .ptr 5 b4 0), (50, aI ((sayD x).1.kind)), (51, aB (r.kind != ((sayD x).1.kind))), (52, aB true), (53, aB (decide (x.phase ≤ 2))), (54, aB (!(decide (x.phase ≤ 2)))), (55, aB (!(decide (x.phase ≤ 2))))], (zN61 b1 x b2 r b3 b4)⟩) (ps := []) (by kernel_rfl) trivial ?_
        refine hK10 _ ?_
        try clear hK10 K10
        refine awp_less ⟨[(2, .ptr 2 b1 0), (3, .ptr 3 b2 0), (4, .ptr 4 b3 0), (5, .ptr 5 b4 0), (55, aB (!(decide (x.phase ≤ 2))))], (zN61 b1 x b2 r b3 b4)⟩ ⟨Sub.refl _, Sub.refl _, Sub.refl _, Sub.refl _, Sub.refl _, trivial⟩ ⟨⟨_, rfl, SubB.refl _⟩, ⟨_, rfl, SubB.refl _⟩, ⟨_, rfl, SubB.refl _⟩, ⟨_, rfl, SubB.refl _⟩, trivial⟩ ?_
        rcases decC (x.phase ≤ 2) with ⟨q7, p7⟩ | ⟨q7, p7⟩
        ·
          refine awp_if false (by omega) (by kernel_rfl) (show (!(decide (x.phase ≤ 2))) = false from by rw [q7]; rfl) ?_
          refine awp_skip ?_
          refine hK9 _ ?_
          try clear hK9 K9
          refine awp_less ⟨(zN621 b1 b2 b3 b4), (zN61 b1 x b2 r b3 b4)⟩ ⟨Sub.refl _, Sub.refl _, Sub.refl _, Sub.refl _, trivial⟩ ⟨⟨_, rfl, SubB.refl _⟩, ⟨_, rfl, SubB.refl _⟩, ⟨_, rfl, SubB.refl _⟩, ⟨_, rfl, SubB.refl _⟩, trivial⟩ ?_
          refine awp_seq_k (fun K11 hK11 => ?_)
          refine awp_region [0, 1, 2, 3] (by rw [hc]; kernel_rfl) (by kernel_rfl) ?_
          refine seq_run (r := []) [0, 1, 2, 3] (s' := ⟨[(2, .ptr 2 b1 0), (3, .ptr 3 b2 0), (4, .ptr 4 b3 0), (5, .ptr 5 b4 0), (57, .ptr 3 b2 5), (58, .ptr 3 b2 5), (59, aI r.r.e), (8, aI r.r.e)], (zN61 b1 x b2 r b3 b4)⟩) (ps := [b2 = b2]) (by kernel_rfl) ⟨rfl, trivial⟩ ?_
          refine hK11 _ ?_
          try clear hK11 K11
          refine awp_less ⟨[(2, .ptr 2 b1 0), (3, .ptr 3 b2 0), (4, .ptr 4 b3 0), (5, .ptr 5 b4 0), (8, aI r.r.e)], (zN61 b1 x b2 r b3 b4)⟩ ⟨Sub.refl _, Sub.refl _, Sub.refl _, Sub.refl _, Sub.refl _, trivial⟩ ⟨⟨_, rfl, SubB.refl _⟩, ⟨_, rfl, SubB.refl _⟩, ⟨_, rfl, SubB.refl _⟩, ⟨_, rfl, SubB.refl _⟩, trivial⟩ ?_
          refine awp_seq_k (fun K12 hK12 => ?_)
          refine awp_seq_k (fun K13 hK13 => ?_)
          refine awp_region [0, 1] (by rw [hc]; kernel_rfl) (by kernel_rfl) ?_
          refine seq_run (r := []) [0, 1] (s' := ⟨[(2, .ptr 2 b1 0), (3, .ptr 3 b2 0), (4, .ptr 4 b3 0), (5, .ptr 5 b4 0), (8, aI r.r.e), (60, .ptr 3 b2 0), (61, aI r.kind)], (zN61 b1 x b2 r b3 b4)⟩) (ps := [b2 = b2]) (by kernel_rfl) ⟨rfl, trivial⟩ ?_
          refine hK13 _ ?_
          try clear hK13 K13
          refine awp_less ⟨[(2, .ptr 2 b1 0), (3, .ptr 3 b2 0), (4, .ptr 4 b3 0), (5, .ptr 5 b4 0), (8, aI r.r.e), (61, aI r.kind)], (zN61 b1 x b2 r b3 b4)⟩ ⟨Sub.refl _, Sub.refl _, Sub.refl _, Sub.refl _, Sub.refl _, Sub.refl _, trivial⟩ ⟨⟨_, rfl, SubB.refl _⟩, ⟨_, rfl, SubB.refl _⟩, ⟨_, rfl, SubB.refl _⟩, ⟨_, rfl, SubB.refl _⟩, trivial⟩ ?_
          refine awp_block ?_
          refine awp_seq_k (fun K14 hK14 => ?_)
          refine awp_region [0, 1] (by rw [hc]; kernel_rfl) (by kernel_rfl) ?_
          refine seq_run (r := []) [0, 1] (s' := ⟨[(2, .ptr 2 b1 0), (3, .ptr 3 b2 0), (4, .ptr 4 b3 0), (5, .ptr 5 b4 0), (8, aI r.r.e), (61, aI r.kind), (63, aB (r.kind == 1)), (62, aB (r.kind == 1))], (zN61 b1 x b2 r b3 b4)⟩) (ps := []) (by kernel_rfl) trivial ?_
          refine hK14 _ ?_
          try clear hK14 K14
          refine awp_less ⟨[(2, .ptr 2 b1 0), (3, .ptr 3 b2 0), (4, .ptr 4 b3 0), (5, .ptr 5 b4 0), (8, aI r.r.e), (61, aI r.kind), (62, aB (r.kind == 1))], (zN61 b1 x b2 r b3 b4)⟩ ⟨Sub.refl _, Sub.refl _, Sub.refl _, Sub.refl _, Sub.refl _, Sub.refl _, Sub.refl _, trivial⟩ ⟨⟨_, rfl, SubB.refl _⟩, ⟨_, rfl, SubB.refl _⟩, ⟨_, rfl, SubB.refl _⟩, ⟨_, rfl, SubB.refl _⟩, trivial⟩ ?_
          rcases beqC (r.kind) (1) with ⟨q8, p8⟩ | ⟨q8, p8⟩
          ·
            exfalso
            omega
          refine awp_if false (by omega) (by kernel_rfl) q8 ?_
          refine awp_seq_k (fun K15 hK15 => ?_)
          refine awp_region [0, 1] (by rw [hc]; kernel_rfl) (by kernel_rfl) ?_
          refine seq_run (r := []) [0, 1] (s' := ⟨[(2, .ptr 2 b1 0), (3, .ptr 3 b2 0), (4, .ptr 4 b3 0), (5, .ptr 5 b4 0), (8, aI r.r.e), (61, aI r.kind), (62, aB (r.kind == 1)), (89, aB (r.kind == 2)), (88, aB (r.kind == 2))], (zN61 b1 x b2 r b3 b4)⟩) (ps := []) (by kernel_rfl) trivial ?_
          refine hK15 _ ?_
          try clear hK15 K15
          refine awp_less ⟨[(2, .ptr 2 b1 0), (3, .ptr 3 b2 0), (4, .ptr 4 b3 0), (5, .ptr 5 b4 0), (8, aI r.r.e), (61, aI r.kind), (88, aB (r.kind == 2))], (zN61 b1 x b2 r b3 b4)⟩ ⟨Sub.refl _, Sub.refl _, Sub.refl _, Sub.refl _, Sub.refl _, Sub.refl _, Sub.refl _, trivial⟩ ⟨⟨_, rfl, SubB.refl _⟩, ⟨_, rfl, SubB.refl _⟩, ⟨_, rfl, SubB.refl _⟩, ⟨_, rfl, SubB.refl _⟩, trivial⟩ ?_
          rcases beqC (r.kind) (2) with ⟨q9, p9⟩ | ⟨q9, p9⟩
          ·
            exfalso
            omega
          refine awp_if false (by omega) (by kernel_rfl) q9 ?_
          refine awp_seq_k (fun K16 hK16 => ?_)
          refine awp_seq_k (fun K17 hK17 => ?_)
          refine awp_region [0, 1] (by rw [hc]; kernel_rfl) (by kernel_rfl) ?_
          refine seq_run (r := []) [0, 1] (s' := ⟨[(2, .ptr 2 b1 0), (3, .ptr 3 b2 0), (4, .ptr 4 b3 0), (5, .ptr 5 b4 0), (8, aI r.r.e), (61, aI r.kind), (88, aB (r.kind == 2)), (121, aB (r.kind == 3)), (120, aB (r.kind == 3))], (zN61 b1 x b2 r b3 b4)⟩) (ps := []) (by kernel_rfl) trivial ?_
          refine hK17 _ ?_
          try clear hK17 K17
          refine awp_less ⟨[(2, .ptr 2 b1 0), (3, .ptr 3 b2 0), (4, .ptr 4 b3 0), (8, aI r.r.e), (61, aI r.kind), (120, aB (r.kind == 3))], (zN65 b1 x b2 r b3)⟩ ⟨Sub.refl _, Sub.refl _, Sub.refl _, Sub.refl _, Sub.refl _, Sub.refl _, trivial⟩ ⟨⟨_, rfl, SubB.refl _⟩, ⟨_, rfl, SubB.refl _⟩, ⟨_, rfl, SubB.refl _⟩, trivial⟩ ?_
          rcases beqC (r.kind) (3) with ⟨q10, p10⟩ | ⟨q10, p10⟩
          ·
            exfalso
            omega
          refine awp_if false (by omega) (by kernel_rfl) q10 ?_
          refine awp_region [0, 1] (by rw [hc]; kernel_rfl) (by kernel_rfl) ?_
          refine seq_run (r := []) [0, 1] (s' := ⟨[(2, .ptr 2 b1 0), (3, .ptr 3 b2 0), (4, .ptr 4 b3 0), (8, aI r.r.e), (61, aI r.kind), (120, aB (r.kind == 5)), (122, aB (r.kind == 5))], (zN65 b1 x b2 r b3)⟩) (ps := []) (by kernel_rfl) trivial ?_
          refine hK16 _ ?_
          try clear hK16 K16
          refine awp_less ⟨[(2, .ptr 2 b1 0), (3, .ptr 3 b2 0), (4, .ptr 4 b3 0), (8, aI r.r.e), (120, aB (r.kind == 5))], (zN65 b1 x b2 r b3)⟩ ⟨Sub.refl _, Sub.refl _, Sub.refl _, Sub.refl _, Sub.refl _, trivial⟩ ⟨⟨_, rfl, SubB.refl _⟩, ⟨_, rfl, SubB.refl _⟩, ⟨_, rfl, SubB.refl _⟩, trivial⟩ ?_
          refine awp_if true (by omega) (by kernel_rfl) q5 ?_
          refine awp_seq_k (fun K18 hK18 => ?_)
          refine awp_seq_k (fun K19 hK19 => ?_)
          refine awp_region [0, 1, 2, 3, 4, 5, 6, 7, 8, 9, 10, 11, 12, 13] (by rw [hc]; kernel_rfl) (by kernel_rfl) ?_
          refine seq_run (r := [3, 4, 5, 6, 7, 8, 9, 10, 11, 12, 13]) [0, 1, 2] (s' := ⟨[(2, .ptr 2 b1 0), (3, .ptr 3 b2 0), (4, .ptr 4 b3 0), (8, aI r.r.e), (120, aB (r.kind == 5)), (123, aI r.r.e), (124, aB (r.r.e == 20)), (125, aB (r.r.e == 20))], (zN65 b1 x b2 r b3)⟩) (ps := []) (by kernel_rfl) trivial ?_
          rcases beqC (r.r.e) (20) with ⟨q11, p11⟩ | ⟨q11, p11⟩
          ·
            refine seq_bool (s' := ⟨[(2, .ptr 2 b1 0), (3, .ptr 3 b2 0), (4, .ptr 4 b3 0), (8, aI r.r.e), (120, aB (r.kind == 5)), (123, aI r.r.e), (124, aB (r.r.e == 20)), (125, aB true)], (zN65 b1 x b2 r b3)⟩) 125 (b := r.r.e == 20) (v := true) q11 (by kernel_rfl) (by kernel_rfl) ?_
            refine seq_run (r := []) [3, 4, 5, 6, 7, 8, 9, 10, 11, 12, 13] (s' := ⟨[(2, .ptr 2 b1 0), (3, .ptr 3 b2 0), (4, .ptr 4 b3 0), (8, aI r.r.e), (120, aB (r.kind == 5)), (123, aI r.r.e), (124, aB (r.r.e == 20)), (125, aB true), (126, .val undef), (127, .val undef), (128, aB true), (129, aB true), (130, .val undef), (131, .val undef), (132, aB true), (133, aB true), (134, .val undef), (135, .val undef), (136, aB true)], (zN65 b1 x b2 r b3)⟩) (ps := []) (by kernel_rfl) trivial ?_
            refine hK19 _ ?_
            try clear hK19 K19
            refine awp_less (zN622 b1 b2 b3 r x) ⟨Sub.refl _, Sub.refl _, Sub.refl _, Sub.refl _, Sub.refl _, trivial⟩ ⟨⟨_, rfl, SubB.refl _⟩, ⟨_, rfl, SubB.refl _⟩, ⟨_, rfl, SubB.refl _⟩, trivial⟩ ?_
            refine awp_if true (by omega) (by kernel_rfl) rfl ?_
            refine awp_seq_k (fun K20 hK20 => ?_)
            refine awp_region [0, 1] (by rw [hc]; kernel_rfl) (by kernel_rfl) ?_
            refine seq_run (r := []) [0, 1] (s' := (zN619 b1 b2 b3 r x)) (ps := [b1 = b1, b3 = b3]) (by kernel_rfl) ⟨rfl, rfl, trivial⟩ ?_
            refine hK20 _ ?_
            try clear hK20 K20
            refine awp_less (zN635 b1 b2 b3 r x) ⟨Sub.refl _, Sub.refl _, Sub.refl _, Sub.refl _, trivial⟩ ⟨⟨_, rfl, SubB.refl _⟩, ⟨_, rfl, SubB.refl _⟩, ⟨_, rfl, SubB.refl _⟩, trivial⟩ ?_
            refine awp_ret ?_
            refine fin_ret ⟨[b3 = b3], [.agg (zN62 x)], by kernel_rfl, ⟨rfl, trivial⟩, ?_⟩
            have hM : hearD x r = x := by
              have hk := say_kind q1
              have hm : meantD x r = true := by
                unfold meantD
                repeat (first | rw [if_pos (by first | assumption | omega)] | rw [if_neg (by first | assumption | omega | (rw [q1]; decide) | simp_all)])
                try first | rfl | (rw [asks_le hr]; simp; omega) | (simp; omega)
              unfold hearD begunD calledD decidedD ackD
              repeat (first | rw [if_pos (by first | assumption | omega)] | rw [if_neg (by first | assumption | omega | (rw [q1]; decide) | simp_all)])
              try rfl
            rw [hM]
            exact Sub.refl _
          refine seq_bool (s' := ⟨[(2, .ptr 2 b1 0), (3, .ptr 3 b2 0), (4, .ptr 4 b3 0), (8, aI r.r.e), (120, aB (r.kind == 5)), (123, aI r.r.e), (124, aB (r.r.e == 20)), (125, aB false)], (zN65 b1 x b2 r b3)⟩) 125 (b := r.r.e == 20) (v := false) q11 (by kernel_rfl) (by kernel_rfl) ?_
          refine seq_run (r := [7, 8, 9, 10, 11, 12, 13]) [3, 4, 5, 6] (s' := ⟨[(2, .ptr 2 b1 0), (3, .ptr 3 b2 0), (4, .ptr 4 b3 0), (8, aI r.r.e), (120, aB (r.kind == 5)), (123, aI r.r.e), (124, aB (r.r.e == 20)), (125, aB false), (126, aI r.r.e), (127, aB (r.r.e == 12)), (128, aB (r.r.e == 12)), (129, aB (r.r.e == 12))], (zN65 b1 x b2 r b3)⟩) (ps := []) (by kernel_rfl) trivial ?_
          rcases beqC (r.r.e) (12) with ⟨q12, p12⟩ | ⟨q12, p12⟩
          ·
            refine seq_bool (s' := ⟨[(2, .ptr 2 b1 0), (3, .ptr 3 b2 0), (4, .ptr 4 b3 0), (8, aI r.r.e), (120, aB (r.kind == 5)), (123, aI r.r.e), (124, aB (r.r.e == 20)), (125, aB false), (126, aI r.r.e), (127, aB (r.r.e == 12)), (128, aB (r.r.e == 12)), (129, aB true)], (zN65 b1 x b2 r b3)⟩) 129 (b := r.r.e == 12) (v := true) q12 (by kernel_rfl) (by kernel_rfl) ?_
            refine seq_run (r := []) [7, 8, 9, 10, 11, 12, 13] (s' := ⟨[(2, .ptr 2 b1 0), (3, .ptr 3 b2 0), (4, .ptr 4 b3 0), (8, aI r.r.e), (120, aB (r.kind == 5)), (123, aI r.r.e), (124, aB (r.r.e == 20)), (125, aB false), (126, aI r.r.e), (127, aB (r.r.e == 12)), (128, aB (r.r.e == 12)), (129, aB true), (130, .val undef), (131, .val undef), (132, aB true), (133, aB true), (134, .val undef), (135, .val undef), (136, aB true)], (zN65 b1 x b2 r b3)⟩) (ps := []) (by kernel_rfl) trivial ?_
            refine hK19 _ ?_
            try clear hK19 K19
            refine awp_less (zN622 b1 b2 b3 r x) ⟨Sub.refl _, Sub.refl _, Sub.refl _, Sub.refl _, Sub.refl _, trivial⟩ ⟨⟨_, rfl, SubB.refl _⟩, ⟨_, rfl, SubB.refl _⟩, ⟨_, rfl, SubB.refl _⟩, trivial⟩ ?_
            refine awp_if true (by omega) (by kernel_rfl) rfl ?_
            refine awp_seq_k (fun K21 hK21 => ?_)
            refine awp_region [0, 1] (by rw [hc]; kernel_rfl) (by kernel_rfl) ?_
            refine seq_run (r := []) [0, 1] (s' := (zN619 b1 b2 b3 r x)) (ps := [b1 = b1, b3 = b3]) (by kernel_rfl) ⟨rfl, rfl, trivial⟩ ?_
            refine hK21 _ ?_
            try clear hK21 K21
            refine awp_less (zN635 b1 b2 b3 r x) ⟨Sub.refl _, Sub.refl _, Sub.refl _, Sub.refl _, trivial⟩ ⟨⟨_, rfl, SubB.refl _⟩, ⟨_, rfl, SubB.refl _⟩, ⟨_, rfl, SubB.refl _⟩, trivial⟩ ?_
            refine awp_ret ?_
            refine fin_ret ⟨[b3 = b3], [.agg (zN62 x)], by kernel_rfl, ⟨rfl, trivial⟩, ?_⟩
            have hM : hearD x r = x := by
              have hk := say_kind q1
              have hm : meantD x r = true := by
                unfold meantD
                repeat (first | rw [if_pos (by first | assumption | omega)] | rw [if_neg (by first | assumption | omega | (rw [q1]; decide) | simp_all)])
                try first | rfl | (rw [asks_le hr]; simp; omega) | (simp; omega)
              unfold hearD begunD calledD decidedD ackD
              repeat (first | rw [if_pos (by first | assumption | omega)] | rw [if_neg (by first | assumption | omega | (rw [q1]; decide) | simp_all)])
              try rfl
            rw [hM]
            exact Sub.refl _
          refine seq_bool (s' := ⟨[(2, .ptr 2 b1 0), (3, .ptr 3 b2 0), (4, .ptr 4 b3 0), (8, aI r.r.e), (120, aB (r.kind == 5)), (123, aI r.r.e), (124, aB (r.r.e == 20)), (125, aB false), (126, aI r.r.e), (127, aB (r.r.e == 12)), (128, aB (r.r.e == 12)), (129, aB false)], (zN65 b1 x b2 r b3)⟩) 129 (b := r.r.e == 12) (v := false) q12 (by kernel_rfl) (by kernel_rfl) ?_
          refine seq_run (r := [11, 12, 13]) [7, 8, 9, 10] (s' := ⟨[(2, .ptr 2 b1 0), (3, .ptr 3 b2 0), (4, .ptr 4 b3 0), (8, aI r.r.e), (120, aB (r.kind == 5)), (123, aI r.r.e), (124, aB (r.r.e == 20)), (125, aB false), (126, aI r.r.e), (127, aB (r.r.e == 12)), (128, aB (r.r.e == 12)), (129, aB false), (130, aI r.r.e), (131, aB (r.r.e == 5)), (132, aB (r.r.e == 5)), (133, aB (r.r.e == 5))], (zN65 b1 x b2 r b3)⟩) (ps := []) (by kernel_rfl) trivial ?_
          rcases beqC (r.r.e) (5) with ⟨q13, p13⟩ | ⟨q13, p13⟩
          ·
            refine seq_bool (s' := ⟨[(2, .ptr 2 b1 0), (3, .ptr 3 b2 0), (4, .ptr 4 b3 0), (8, aI r.r.e), (120, aB (r.kind == 5)), (123, aI r.r.e), (124, aB (r.r.e == 20)), (125, aB false), (126, aI r.r.e), (127, aB (r.r.e == 12)), (128, aB (r.r.e == 12)), (129, aB false), (130, aI r.r.e), (131, aB (r.r.e == 5)), (132, aB (r.r.e == 5)), (133, aB true)], (zN65 b1 x b2 r b3)⟩) 133 (b := r.r.e == 5) (v := true) q13 (by kernel_rfl) (by kernel_rfl) ?_
            refine seq_run (r := []) [11, 12, 13] (s' := ⟨[(2, .ptr 2 b1 0), (3, .ptr 3 b2 0), (4, .ptr 4 b3 0), (8, aI r.r.e), (120, aB (r.kind == 5)), (123, aI r.r.e), (124, aB (r.r.e == 20)), (125, aB false), (126, aI r.r.e), (127, aB (r.r.e == 12)), (128, aB (r.r.e == 12)), (129, aB false), (130, aI r.r.e), (131, aB (r.r.e == 5)), (132, aB (r.r.e == 5)), (133, aB true), (134, .val undef), (135, .val undef), (136, aB true)], (zN65 b1 x b2 r b3)⟩) (ps := []) (by kernel_rfl) trivial ?_
            refine hK19 _ ?_
            try clear hK19 K19
            refine awp_less (zN622 b1 b2 b3 r x) ⟨Sub.refl _, Sub.refl _, Sub.refl _, Sub.refl _, Sub.refl _, trivial⟩ ⟨⟨_, rfl, SubB.refl _⟩, ⟨_, rfl, SubB.refl _⟩, ⟨_, rfl, SubB.refl _⟩, trivial⟩ ?_
            refine awp_if true (by omega) (by kernel_rfl) rfl ?_
            refine awp_seq_k (fun K22 hK22 => ?_)
            refine awp_region [0, 1] (by rw [hc]; kernel_rfl) (by kernel_rfl) ?_
            refine seq_run (r := []) [0, 1] (s' := (zN619 b1 b2 b3 r x)) (ps := [b1 = b1, b3 = b3]) (by kernel_rfl) ⟨rfl, rfl, trivial⟩ ?_
            refine hK22 _ ?_
            try clear hK22 K22
            refine awp_less (zN635 b1 b2 b3 r x) ⟨Sub.refl _, Sub.refl _, Sub.refl _, Sub.refl _, trivial⟩ ⟨⟨_, rfl, SubB.refl _⟩, ⟨_, rfl, SubB.refl _⟩, ⟨_, rfl, SubB.refl _⟩, trivial⟩ ?_
            refine awp_ret ?_
            refine fin_ret ⟨[b3 = b3], [.agg (zN62 x)], by kernel_rfl, ⟨rfl, trivial⟩, ?_⟩
            have hM : hearD x r = x := by
              have hk := say_kind q1
              have hm : meantD x r = true := by
                unfold meantD
                repeat (first | rw [if_pos (by first | assumption | omega)] | rw [if_neg (by first | assumption | omega | (rw [q1]; decide) | simp_all)])
                try first | rfl | (rw [asks_le hr]; simp; omega) | (simp; omega)
              unfold hearD begunD calledD decidedD ackD
              repeat (first | rw [if_pos (by first | assumption | omega)] | rw [if_neg (by first | assumption | omega | (rw [q1]; decide) | simp_all)])
              try rfl
            rw [hM]
            exact Sub.refl _
          refine seq_bool (s' := ⟨[(2, .ptr 2 b1 0), (3, .ptr 3 b2 0), (4, .ptr 4 b3 0), (8, aI r.r.e), (120, aB (r.kind == 5)), (123, aI r.r.e), (124, aB (r.r.e == 20)), (125, aB false), (126, aI r.r.e), (127, aB (r.r.e == 12)), (128, aB (r.r.e == 12)), (129, aB false), (130, aI r.r.e), (131, aB (r.r.e == 5)), (132, aB (r.r.e == 5)), (133, aB false)], (zN65 b1 x b2 r b3)⟩) 133 (b := r.r.e == 5) (v := false) q13 (by kernel_rfl) (by kernel_rfl) ?_
          refine seq_run (r := []) [11, 12, 13] (s' := ⟨[(2, .ptr 2 b1 0), (3, .ptr 3 b2 0), (4, .ptr 4 b3 0), (8, aI r.r.e), (120, aB (r.kind == 5)), (123, aI r.r.e), (124, aB (r.r.e == 20)), (125, aB false), (126, aI r.r.e), (127, aB (r.r.e == 12)), (128, aB (r.r.e == 12)), (129, aB false), (130, aI r.r.e), (131, aB (r.r.e == 5)), (132, aB (r.r.e == 5)), (133, aB false), (134, aI r.r.e), (135, aB (r.r.e == 19)), (136, aB (r.r.e == 19))], (zN65 b1 x b2 r b3)⟩) (ps := []) (by kernel_rfl) trivial ?_
          refine hK19 _ ?_
          try clear hK19 K19
          refine awp_less ⟨[(2, .ptr 2 b1 0), (3, .ptr 3 b2 0), (4, .ptr 4 b3 0), (8, aI r.r.e), (136, aB (r.r.e == 19))], (zN65 b1 x b2 r b3)⟩ ⟨Sub.refl _, Sub.refl _, Sub.refl _, Sub.refl _, Sub.refl _, trivial⟩ ⟨⟨_, rfl, SubB.refl _⟩, ⟨_, rfl, SubB.refl _⟩, ⟨_, rfl, SubB.refl _⟩, trivial⟩ ?_
          rcases beqC (r.r.e) (19) with ⟨q14, p14⟩ | ⟨q14, p14⟩
          ·
            refine awp_if true (by omega) (by kernel_rfl) q14 ?_
            refine awp_seq_k (fun K23 hK23 => ?_)
            refine awp_region [0, 1] (by rw [hc]; kernel_rfl) (by kernel_rfl) ?_
            refine seq_run (r := []) [0, 1] (s' := ⟨[(2, .ptr 2 b1 0), (3, .ptr 3 b2 0), (4, .ptr 4 b3 0), (8, aI r.r.e), (136, aB (r.r.e == 19)), (137, .agg (zN62 x))], (zN611 b1 x b2 r b3)⟩) (ps := [b1 = b1, b3 = b3]) (by kernel_rfl) ⟨rfl, rfl, trivial⟩ ?_
            refine hK23 _ ?_
            try clear hK23 K23
            refine awp_less (zN635 b1 b2 b3 r x) ⟨Sub.refl _, Sub.refl _, Sub.refl _, Sub.refl _, trivial⟩ ⟨⟨_, rfl, SubB.refl _⟩, ⟨_, rfl, SubB.refl _⟩, ⟨_, rfl, SubB.refl _⟩, trivial⟩ ?_
            refine awp_ret ?_
            refine fin_ret ⟨[b3 = b3], [.agg (zN62 x)], by kernel_rfl, ⟨rfl, trivial⟩, ?_⟩
            have hM : hearD x r = x := by
              have hk := say_kind q1
              have hm : meantD x r = true := by
                unfold meantD
                repeat (first | rw [if_pos (by first | assumption | omega)] | rw [if_neg (by first | assumption | omega | (rw [q1]; decide) | simp_all)])
                try first | rfl | (rw [asks_le hr]; simp; omega) | (simp; omega)
              unfold hearD begunD calledD decidedD ackD
              repeat (first | rw [if_pos (by first | assumption | omega)] | rw [if_neg (by first | assumption | omega | (rw [q1]; decide) | simp_all)])
              try rfl
            rw [hM]
            exact Sub.refl _
          refine awp_if false (by omega) (by kernel_rfl) q14 ?_
          refine awp_skip ?_
          refine hK18 _ ?_
          try clear hK18 K18
          refine awp_less ⟨(zN618 b1 b2 b3 r), (zN65 b1 x b2 r b3)⟩ ⟨Sub.refl _, Sub.refl _, Sub.refl _, Sub.refl _, trivial⟩ ⟨⟨_, rfl, SubB.refl _⟩, ⟨_, rfl, SubB.refl _⟩, ⟨_, rfl, SubB.refl _⟩, trivial⟩ ?_
          refine awp_seq_k (fun K24 hK24 => ?_)
          refine awp_region [0, 1, 2, 3, 4, 5, 6, 7] (by rw [hc]; kernel_rfl) (by kernel_rfl) ?_
          refine seq_run (r := [6, 7]) [0, 1, 2, 3, 4, 5] (s' := (zN634 b1 b2 b3 r x)) (ps := [b1 = b1, b2 = b2]) (by kernel_rfl) ⟨rfl, rfl, trivial⟩ ?_
          refine seq_call (f := 33) (args := [.agg (zN62 x), aB (r.r.e == 0), aI r.r.e]) (d := some 144) (args' := [.agg (zN62 x), aB (r.r.e == 0), aI r.r.e]) (s' := ⟨(zN620 b1 b2 b3 r x), (zN65 b1 x b2 r b3)⟩) (by kernel_rfl) (fun _ _ => rfl) ⟨Sub.refl _, Sub.refl _, Sub.refl _, trivial⟩ (rover_spec (⟨x.me, x.epoch, x.seq, x.jobs, x.phase, x.n, x.stamp, x.told, x.now⟩ : Cli) (r.r.e == 0) r.r.e (by assumption)) (by kernel_rfl) ?_
          refine seq_run (r := []) [7] (s' := ⟨(zN620 b1 b2 b3 r x), [(2, .box b1 26 (zN62 x)), (3, .box b2 32 (zN63 r)), (4, .box b3 26 (zN66 x r))]⟩) (ps := [b3 = b3]) (by kernel_rfl) ⟨rfl, trivial⟩ ?_
          refine hK24 _ ?_
          try clear hK24 K24
          refine awp_less ⟨(zN623 b1 b3), [(2, .box b1 26 (zN62 x)), (4, .box b3 26 (zN66 x r))]⟩ ⟨Sub.refl _, Sub.refl _, trivial⟩ ⟨⟨_, rfl, SubB.refl _⟩, ⟨_, rfl, SubB.refl _⟩, trivial⟩ ?_
          refine awp_ret ?_
          refine fin_ret ⟨[b3 = b3], [.agg (zN66 x r)], by kernel_rfl, ⟨rfl, trivial⟩, ?_⟩
          have hM : hearD x r = (⟨x.me, x.epoch, x.seq, x.jobs, 3, 0, 0, (x.told ++ [doneD (⟨x.me, x.epoch, x.seq, x.jobs, x.phase, x.n, x.stamp, x.told, x.now⟩ : Cli) (r.r.e == 0) r.r.e]), ([] : List Rep)⟩ : Cli) := by
            have hk := say_kind q1
            have hm : meantD x r = true := by
              unfold meantD
              repeat (first | rw [if_pos (by first | assumption | omega)] | rw [if_neg (by first | assumption | omega | (rw [q1]; decide) | simp_all)])
              try first | rfl | (rw [asks_le hr]; simp; omega) | (simp; omega)
            unfold hearD begunD calledD decidedD ackD
            repeat (first | rw [if_pos (by first | assumption | omega)] | rw [if_neg (by first | assumption | omega | (rw [q1]; decide) | simp_all)])
            try rfl
          rw [hM]
          exact Sub.refl _
        refine awp_if true (by omega) (by kernel_rfl) (show (!(decide (x.phase ≤ 2))) = true from by rw [q7]; rfl) ?_
        refine awp_seq_k (fun K25 hK25 => ?_)
        refine awp_region [0, 1] (by rw [hc]; kernel_rfl) (by kernel_rfl) ?_
        refine seq_run (r := []) [0, 1] (s' := ⟨[(2, .ptr 2 b1 0), (3, .ptr 3 b2 0), (4, .ptr 4 b3 0), (5, .ptr 5 b4 0), (55, aB (!(decide (x.phase ≤ 2)))), (56, .agg (zN62 x))], (zN616 b1 x b2 r b3 b4)⟩) (ps := [b1 = b1, b3 = b3]) (by kernel_rfl) ⟨rfl, rfl, trivial⟩ ?_
        refine hK25 _ ?_
        try clear hK25 K25
        refine awp_less ⟨(zN621 b1 b2 b3 b4), (zN616 b1 x b2 r b3 b4)⟩ ⟨Sub.refl _, Sub.refl _, Sub.refl _, Sub.refl _, trivial⟩ ⟨⟨_, rfl, SubB.refl _⟩, ⟨_, rfl, SubB.refl _⟩, ⟨_, rfl, SubB.refl _⟩, ⟨_, rfl, SubB.refl _⟩, trivial⟩ ?_
        refine awp_ret ?_
        refine fin_ret ⟨[b3 = b3], [.agg (zN62 x)], by kernel_rfl, ⟨rfl, trivial⟩, ?_⟩
        have hM : hearD x r = x := by
          have hk := say_kind q1
          have hm : meantD x r = false := by
            unfold meantD
            repeat' split
            all_goals first | rfl | omega | (rw [asks_le hr]; simp; omega) | (simp; omega) | simp_all
          unfold hearD begunD calledD decidedD ackD
          repeat (first | rw [if_pos (by first | assumption | omega)] | rw [if_neg (by first | assumption | omega | (rw [q1]; decide) | simp_all)])
          try rfl
        rw [hM]
        exact Sub.refl _
      exfalso
      (have hk := say_kind (by assumption); omega)
    refine seq_bool (s' := ⟨[(2, .ptr 2 b1 0), (3, .ptr 3 b2 0), (4, .ptr 4 b3 0), (5, .ptr 5 b4 0), (39, .ptr 3 b2 0), (40, aI r.kind), (41, aB (r.kind == 5)), (42, aB false)], (zN61 b1 x b2 r b3 b4)⟩) 42 (b := r.kind == 5) (v := false) q5 (by kernel_rfl) (by kernel_rfl) ?_
    refine seq_run (r := []) [4, 5, 6, 7, 8] (s' := ⟨[(2, .ptr 2 b1 0), (3, .ptr 3 b2 0), (4, .ptr 4 b3 0), (5, .ptr 5 b4 0), (39, .ptr 3 b2 0), (40, aI r.kind), (41, aB (r.kind == 5)), (42, aB false), (43, .val undef), (44, .val undef), (45, .val undef), (46, aB false), (7, aB false)], (zN61 b1 x b2 r b3 b4)⟩) (ps := []) (by kernel_rfl) trivial ?_
    refine hK8 _ ?_
    try clear hK8 K8
    refine awp_less ⟨[(2, .ptr 2 b1 0), (3, .ptr 3 b2 0), (4, .ptr 4 b3 0), (5, .ptr 5 b4 0), (7, aB false)], (zN61 b1 x b2 r b3 b4)⟩ ⟨Sub.refl _, Sub.refl _, Sub.refl _, Sub.refl _, Sub.refl _, trivial⟩ ⟨⟨_, rfl, SubB.refl _⟩, ⟨_, rfl, SubB.refl _⟩, ⟨_, rfl, SubB.refl _⟩, ⟨_, rfl, SubB.refl _⟩, trivial⟩ ?_
    refine awp_seq_k (fun K26 hK26 => ?_)
    refine awp_seq_k (fun K27 hK27 => ?_)
    refine awp_region [0, 1, 2, 3, 4, 5, 6, 7, 8] (by rw [hc]; kernel_rfl) (by kernel_rfl) ?_
    refine seq_run (r := [6, 7, 8]) [0, 1, 2, 3, 4, 5] (s' := ⟨[(2, .ptr 2 b1 0), (3, .ptr 3 b2 0), (4, .ptr 4 b3 0), (5, .ptr 5 b4 0), (7, aB false), (47, .ptr 3 b2 0), (48, aI r.kind), (49, .ptr 5 b4 0), (50, aI ((sayD x).1.kind)), (51, aB (r.kind != ((sayD x).1.kind))), (52, aB (r.kind != ((sayD x).1.kind)))], (zN61 b1 x b2 r b3 b4)⟩) (ps := [b2 = b2, b4 = b4]) (by kernel_rfl) ⟨rfl, rfl, trivial⟩ ?_
    rcases bneC (r.kind) (((sayD x).1.kind)) with ⟨q15, p15⟩ | ⟨q15, p15⟩
    ·
      refine seq_bool (s' := ⟨[(2, .ptr 2 b1 0), (3, .ptr 3 b2 0), (4, .ptr 4 b3 0), (5, .ptr 5 b4 0), (7, aB false), (47, .ptr 3 b2 0), (48, aI r.kind), (49, .ptr 5 b4 0), (50, aI ((sayD x).1.kind)), (51, aB (r.kind != ((sayD x).1.kind))), (52, aB true)], (zN61 b1 x b2 r b3 b4)⟩) 52 (b := r.kind != ((sayD x).1.kind)) (v := true) q15 (by kernel_rfl) (by kernel_rfl) ?_
      refine seq_run (r := []) [6, 7, 8] (s' := ⟨[(2, .ptr 2 b1 0), (3, .ptr 3 b2 0), (4, .ptr 4 b3 0), (5, .ptr 5 b4 0), (7, aB false), (47, .ptr 3 b2 0), (48, aI r.kind), (49, .ptr 5 b4 0), (50, aI ((sayD x).1.kind)), (51, aB (r.kind != ((sayD x).1.kind))), (52, aB true), (53, aB false), (54, aB true), (55, aB true)], (zN61 b1 x b2 r b3 b4)⟩) (ps := []) (by kernel_rfl) trivial ?_
      refine hK27 _ ?_
      try clear hK27 K27
      refine awp_less ⟨[(2, .ptr 2 b1 0), (3, .ptr 3 b2 0), (4, .ptr 4 b3 0), (5, .ptr 5 b4 0), (55, aB true)], (zN61 b1 x b2 r b3 b4)⟩ ⟨Sub.refl _, Sub.refl _, Sub.refl _, Sub.refl _, Sub.refl _, trivial⟩ ⟨⟨_, rfl, SubB.refl _⟩, ⟨_, rfl, SubB.refl _⟩, ⟨_, rfl, SubB.refl _⟩, ⟨_, rfl, SubB.refl _⟩, trivial⟩ ?_
      refine awp_if true (by omega) (by kernel_rfl) rfl ?_
      refine awp_seq_k (fun K28 hK28 => ?_)
      refine awp_region [0, 1] (by rw [hc]; kernel_rfl) (by kernel_rfl) ?_
      refine seq_run (r := []) [0, 1] (s' := ⟨[(2, .ptr 2 b1 0), (3, .ptr 3 b2 0), (4, .ptr 4 b3 0), (5, .ptr 5 b4 0), (55, aB true), (56, .agg (zN62 x))], (zN616 b1 x b2 r b3 b4)⟩) (ps := [b1 = b1, b3 = b3]) (by kernel_rfl) ⟨rfl, rfl, trivial⟩ ?_
      refine hK28 _ ?_
      try clear hK28 K28
      refine awp_less ⟨(zN621 b1 b2 b3 b4), (zN616 b1 x b2 r b3 b4)⟩ ⟨Sub.refl _, Sub.refl _, Sub.refl _, Sub.refl _, trivial⟩ ⟨⟨_, rfl, SubB.refl _⟩, ⟨_, rfl, SubB.refl _⟩, ⟨_, rfl, SubB.refl _⟩, ⟨_, rfl, SubB.refl _⟩, trivial⟩ ?_
      refine awp_ret ?_
      refine fin_ret ⟨[b3 = b3], [.agg (zN62 x)], by kernel_rfl, ⟨rfl, trivial⟩, ?_⟩
      have hM : hearD x r = x := by
        have hk := say_kind q1
        have hm : meantD x r = false := by
          unfold meantD
          repeat' split
          all_goals first | rfl | omega | (rw [asks_le hr]; simp; omega) | (simp; omega) | simp_all
        unfold hearD begunD calledD decidedD ackD
        repeat (first | rw [if_pos (by first | assumption | omega)] | rw [if_neg (by first | assumption | omega | (rw [q1]; decide) | simp_all)])
        try rfl
      rw [hM]
      exact Sub.refl _
    refine seq_bool (s' := ⟨[(2, .ptr 2 b1 0), (3, .ptr 3 b2 0), (4, .ptr 4 b3 0), (5, .ptr 5 b4 0), (7, aB false), (47, .ptr 3 b2 0), (48, aI r.kind), (49, .ptr 5 b4 0), (50, aI ((sayD x).1.kind)), (51, aB (r.kind != ((sayD x).1.kind))), (52, aB false)], (zN61 b1 x b2 r b3 b4)⟩) 52 (b := r.kind != ((sayD x).1.kind)) (v := false) q15 (by kernel_rfl) (by kernel_rfl) ?_
    refine seq_run (r := []) [6, 7, 8] (s' := ⟨[(2, .ptr 2 b1 0), (3, .ptr 3 b2 0), (4, .ptr 4 b3 0), (5, .ptr 5 b4 0), (7, aB false), (47, .ptr 3 b2 0), (48, aI r.kind), (49, .ptr 5 b4 0), (50, aI ((sayD x).1.kind)), (51, aB (r.kind != ((sayD x).1.kind))), (52, aB false), (53, .val undef), (54, .val undef), (55, aB false)], (zN61 b1 x b2 r b3 b4)⟩) (ps := []) (by kernel_rfl) trivial ?_
    refine hK27 _ ?_
    try clear hK27 K27
    refine awp_less ⟨[(2, .ptr 2 b1 0), (3, .ptr 3 b2 0), (4, .ptr 4 b3 0), (5, .ptr 5 b4 0), (55, aB false)], (zN61 b1 x b2 r b3 b4)⟩ ⟨Sub.refl _, Sub.refl _, Sub.refl _, Sub.refl _, Sub.refl _, trivial⟩ ⟨⟨_, rfl, SubB.refl _⟩, ⟨_, rfl, SubB.refl _⟩, ⟨_, rfl, SubB.refl _⟩, ⟨_, rfl, SubB.refl _⟩, trivial⟩ ?_
    refine awp_if false (by omega) (by kernel_rfl) rfl ?_
    refine awp_skip ?_
    refine hK26 _ ?_
    try clear hK26 K26
    refine awp_less ⟨(zN621 b1 b2 b3 b4), (zN61 b1 x b2 r b3 b4)⟩ ⟨Sub.refl _, Sub.refl _, Sub.refl _, Sub.refl _, trivial⟩ ⟨⟨_, rfl, SubB.refl _⟩, ⟨_, rfl, SubB.refl _⟩, ⟨_, rfl, SubB.refl _⟩, ⟨_, rfl, SubB.refl _⟩, trivial⟩ ?_
    refine awp_seq_k (fun K29 hK29 => ?_)
    refine awp_region [0, 1, 2, 3] (by rw [hc]; kernel_rfl) (by kernel_rfl) ?_
    refine seq_run (r := []) [0, 1, 2, 3] (s' := ⟨[(2, .ptr 2 b1 0), (3, .ptr 3 b2 0), (4, .ptr 4 b3 0), (5, .ptr 5 b4 0), (57, .ptr 3 b2 5), (58, .ptr 3 b2 5), (59, aI r.r.e), (8, aI r.r.e)], (zN61 b1 x b2 r b3 b4)⟩) (ps := [b2 = b2]) (by kernel_rfl) ⟨rfl, trivial⟩ ?_
    refine hK29 _ ?_
    try clear hK29 K29
    refine awp_less ⟨[(2, .ptr 2 b1 0), (3, .ptr 3 b2 0), (4, .ptr 4 b3 0), (5, .ptr 5 b4 0), (8, aI r.r.e)], (zN61 b1 x b2 r b3 b4)⟩ ⟨Sub.refl _, Sub.refl _, Sub.refl _, Sub.refl _, Sub.refl _, trivial⟩ ⟨⟨_, rfl, SubB.refl _⟩, ⟨_, rfl, SubB.refl _⟩, ⟨_, rfl, SubB.refl _⟩, ⟨_, rfl, SubB.refl _⟩, trivial⟩ ?_
    refine awp_seq_k (fun K30 hK30 => ?_)
    refine awp_seq_k (fun K31 hK31 => ?_)
    refine awp_region [0, 1] (by rw [hc]; kernel_rfl) (by kernel_rfl) ?_
    refine seq_run (r := []) [0, 1] (s' := ⟨[(2, .ptr 2 b1 0), (3, .ptr 3 b2 0), (4, .ptr 4 b3 0), (5, .ptr 5 b4 0), (8, aI r.r.e), (60, .ptr 3 b2 0), (61, aI r.kind)], (zN61 b1 x b2 r b3 b4)⟩) (ps := [b2 = b2]) (by kernel_rfl) ⟨rfl, trivial⟩ ?_
    refine hK31 _ ?_
    try clear hK31 K31
    refine awp_less ⟨[(2, .ptr 2 b1 0), (3, .ptr 3 b2 0), (4, .ptr 4 b3 0), (5, .ptr 5 b4 0), (8, aI r.r.e), (61, aI r.kind)], (zN61 b1 x b2 r b3 b4)⟩ ⟨Sub.refl _, Sub.refl _, Sub.refl _, Sub.refl _, Sub.refl _, Sub.refl _, trivial⟩ ⟨⟨_, rfl, SubB.refl _⟩, ⟨_, rfl, SubB.refl _⟩, ⟨_, rfl, SubB.refl _⟩, ⟨_, rfl, SubB.refl _⟩, trivial⟩ ?_
    refine awp_block ?_
    refine awp_seq_k (fun K32 hK32 => ?_)
    refine awp_region [0, 1] (by rw [hc]; kernel_rfl) (by kernel_rfl) ?_
    refine seq_run (r := []) [0, 1] (s' := ⟨[(2, .ptr 2 b1 0), (3, .ptr 3 b2 0), (4, .ptr 4 b3 0), (5, .ptr 5 b4 0), (8, aI r.r.e), (61, aI r.kind), (63, aB (r.kind == 1)), (62, aB (r.kind == 1))], (zN61 b1 x b2 r b3 b4)⟩) (ps := []) (by kernel_rfl) trivial ?_
    refine hK32 _ ?_
    try clear hK32 K32
    refine awp_less ⟨[(2, .ptr 2 b1 0), (3, .ptr 3 b2 0), (4, .ptr 4 b3 0), (5, .ptr 5 b4 0), (8, aI r.r.e), (61, aI r.kind), (62, aB (r.kind == 1))], (zN61 b1 x b2 r b3 b4)⟩ ⟨Sub.refl _, Sub.refl _, Sub.refl _, Sub.refl _, Sub.refl _, Sub.refl _, Sub.refl _, trivial⟩ ⟨⟨_, rfl, SubB.refl _⟩, ⟨_, rfl, SubB.refl _⟩, ⟨_, rfl, SubB.refl _⟩, ⟨_, rfl, SubB.refl _⟩, trivial⟩ ?_
    rcases beqC (r.kind) (1) with ⟨q16, p16⟩ | ⟨q16, p16⟩
    ·
      refine awp_if true (by omega) (by kernel_rfl) q16 ?_
      refine awp_seq_k (fun K33 hK33 => ?_)
      refine awp_seq_k (fun K34 hK34 => ?_)
      refine awp_region [0, 1] (by rw [hc]; kernel_rfl) (by kernel_rfl) ?_
      refine seq_run (r := []) [0, 1] (s' := ⟨[(2, .ptr 2 b1 0), (3, .ptr 3 b2 0), (4, .ptr 4 b3 0), (5, .ptr 5 b4 0), (8, aI r.r.e), (61, aI r.kind), (62, aB (r.kind == 1)), (64, aI r.r.e), (65, aB (r.r.e == 0))], (zN61 b1 x b2 r b3 b4)⟩) (ps := []) (by kernel_rfl) trivial ?_
      refine hK34 _ ?_
      try clear hK34 K34
      refine awp_less ⟨[(2, .ptr 2 b1 0), (3, .ptr 3 b2 0), (4, .ptr 4 b3 0), (8, aI r.r.e), (65, aB (r.r.e == 0))], (zN65 b1 x b2 r b3)⟩ ⟨Sub.refl _, Sub.refl _, Sub.refl _, Sub.refl _, Sub.refl _, trivial⟩ ⟨⟨_, rfl, SubB.refl _⟩, ⟨_, rfl, SubB.refl _⟩, ⟨_, rfl, SubB.refl _⟩, trivial⟩ ?_
      rcases beqC (r.r.e) (0) with ⟨q17, p17⟩ | ⟨q17, p17⟩
      ·
        refine awp_if true (by omega) (by kernel_rfl) q17 ?_
        refine awp_seq_k (fun K35 hK35 => ?_)
        refine awp_region [0, 1, 2, 3, 4] (by rw [hc]; kernel_rfl) (by kernel_rfl) ?_
        refine seq_run (r := []) [0, 1, 2, 3, 4] (s' := ⟨[(2, .ptr 2 b1 0), (3, .ptr 3 b2 0), (4, .ptr 4 b3 0), (8, aI r.r.e), (65, aB (r.r.e == 0)), (66, .ptr 3 b2 5), (67, .ptr 3 b2 6), (68, aI r.r.a), (69, .ptr 2 b1 6)], [(2, .box b1 26 (zN610 x r)), (3, .box b2 32 (zN63 r)), (4, .box b3 26 zN69)]⟩) (ps := [b2 = b2, b1 = b1]) (by kernel_rfl) ⟨rfl, rfl, trivial⟩ ?_
        refine hK35 _ ?_
        try clear hK35 K35
        refine awp_less ⟨(zN618 b1 b2 b3 r), [(2, .box b1 26 (zN610 x r)), (3, .box b2 32 (zN63 r)), (4, .box b3 26 zN69)]⟩ ⟨Sub.refl _, Sub.refl _, Sub.refl _, Sub.refl _, trivial⟩ ⟨⟨_, rfl, SubB.refl _⟩, ⟨_, rfl, SubB.refl _⟩, ⟨_, rfl, SubB.refl _⟩, trivial⟩ ?_
        refine awp_seq_k (fun K36 hK36 => ?_)
        refine awp_region [0, 1, 2] (by rw [hc]; kernel_rfl) (by kernel_rfl) ?_
        refine seq_run (r := [1, 2]) [0] (s' := ⟨[(2, .ptr 2 b1 0), (3, .ptr 3 b2 0), (4, .ptr 4 b3 0), (8, aI r.r.e), (70, .agg (zN610 x r))], [(2, .box b1 26 (zN610 x r)), (3, .box b2 32 (zN63 r)), (4, .box b3 26 zN69)]⟩) (ps := [b1 = b1]) (by kernel_rfl) ⟨rfl, trivial⟩ ?_
        refine seq_call (f := 32) (args := [.agg (zN610 x r)]) (d := some 71) (args' := [.agg (zN610 x r)]) (s' := ⟨[(2, .ptr 2 b1 0), (3, .ptr 3 b2 0), (4, .ptr 4 b3 0), (8, aI r.r.e), (70, .agg (zN610 x r)), (71, .agg (zN615 x r))], [(2, .box b1 26 (zN610 x r)), (3, .box b2 32 (zN63 r)), (4, .box b3 26 zN69)]⟩) (by kernel_rfl) (fun _ _ => rfl) ⟨Sub.refl _, trivial⟩ (rbegun_spec (⟨x.me, x.epoch, x.seq, x.jobs, x.phase, x.n, r.r.a, x.told, x.now⟩ : Cli) hs) (by kernel_rfl) ?_
        refine seq_run (r := []) [2] (s' := ⟨[(2, .ptr 2 b1 0), (3, .ptr 3 b2 0), (4, .ptr 4 b3 0), (8, aI r.r.e), (70, .agg (zN610 x r)), (71, .agg (zN615 x r))], [(2, .box b1 26 (zN610 x r)), (3, .box b2 32 (zN63 r)), (4, .box b3 26 (zN615 x r))]⟩) (ps := [b3 = b3]) (by kernel_rfl) ⟨rfl, trivial⟩ ?_
        refine hK36 _ ?_
        try clear hK36 K36
        refine awp_less ⟨(zN618 b1 b2 b3 r), [(2, .box b1 26 (zN610 x r)), (3, .box b2 32 (zN63 r)), (4, .box b3 26 (zN615 x r))]⟩ ⟨Sub.refl _, Sub.refl _, Sub.refl _, Sub.refl _, trivial⟩ ⟨⟨_, rfl, SubB.refl _⟩, ⟨_, rfl, SubB.refl _⟩, ⟨_, rfl, SubB.refl _⟩, trivial⟩ ?_
        refine awp_ret ?_
        refine fin_ret ⟨[b3 = b3], [.agg (zN615 x r)], by kernel_rfl, ⟨rfl, trivial⟩, ?_⟩
        have hM : hearD x r = (⟨x.me, x.epoch, x.seq, x.jobs, onwardD (⟨x.me, x.epoch, x.seq, x.jobs, x.phase, x.n, r.r.a, x.told, x.now⟩ : Cli), x.n, r.r.a, x.told, x.now⟩ : Cli) := by
          have hk := say_kind q1
          have hm : meantD x r = true := by
            unfold meantD
            repeat (first | rw [if_pos (by first | assumption | omega)] | rw [if_neg (by first | assumption | omega | (rw [q1]; decide) | simp_all)])
            try first | rfl | (rw [asks_le hr]; simp; omega) | (simp; omega)
          unfold hearD begunD calledD decidedD ackD
          repeat (first | rw [if_pos (by first | assumption | omega)] | rw [if_neg (by first | assumption | omega | (rw [q1]; decide) | simp_all)])
          try rfl
        rw [hM]
        exact Sub.refl _
      refine awp_if false (by omega) (by kernel_rfl) q17 ?_
      refine awp_skip ?_
      refine hK33 _ ?_
      try clear hK33 K33
      refine awp_less ⟨(zN618 b1 b2 b3 r), (zN65 b1 x b2 r b3)⟩ ⟨Sub.refl _, Sub.refl _, Sub.refl _, Sub.refl _, trivial⟩ ⟨⟨_, rfl, SubB.refl _⟩, ⟨_, rfl, SubB.refl _⟩, ⟨_, rfl, SubB.refl _⟩, trivial⟩ ?_
      refine awp_seq_k (fun K37 hK37 => ?_)
      refine awp_seq_k (fun K38 hK38 => ?_)
      refine awp_region [0, 1, 2, 3, 4, 5, 6, 7, 8, 9] (by rw [hc]; kernel_rfl) (by kernel_rfl) ?_
      refine seq_run (r := [3, 4, 5, 6, 7, 8, 9]) [0, 1, 2] (s' := ⟨[(2, .ptr 2 b1 0), (3, .ptr 3 b2 0), (4, .ptr 4 b3 0), (8, aI r.r.e), (72, aI r.r.e), (73, aB (r.r.e == 7)), (74, aB (r.r.e == 7))], (zN65 b1 x b2 r b3)⟩) (ps := []) (by kernel_rfl) trivial ?_
      rcases beqC (r.r.e) (7) with ⟨q18, p18⟩ | ⟨q18, p18⟩
      ·
        refine seq_bool (s' := ⟨[(2, .ptr 2 b1 0), (3, .ptr 3 b2 0), (4, .ptr 4 b3 0), (8, aI r.r.e), (72, aI r.r.e), (73, aB (r.r.e == 7)), (74, aB true)], (zN65 b1 x b2 r b3)⟩) 74 (b := r.r.e == 7) (v := true) q18 (by kernel_rfl) (by kernel_rfl) ?_
        refine seq_run (r := []) [3, 4, 5, 6, 7, 8, 9] (s' := ⟨[(2, .ptr 2 b1 0), (3, .ptr 3 b2 0), (4, .ptr 4 b3 0), (8, aI r.r.e), (72, aI r.r.e), (73, aB (r.r.e == 7)), (74, aB true), (75, .val undef), (76, .val undef), (77, aB true), (78, aB true), (79, .val undef), (80, .val undef), (81, aB true)], (zN65 b1 x b2 r b3)⟩) (ps := []) (by kernel_rfl) trivial ?_
        refine hK38 _ ?_
        try clear hK38 K38
        refine awp_less ⟨[(2, .ptr 2 b1 0), (3, .ptr 3 b2 0), (4, .ptr 4 b3 0), (81, aB true)], (zN65 b1 x b2 r b3)⟩ ⟨Sub.refl _, Sub.refl _, Sub.refl _, Sub.refl _, trivial⟩ ⟨⟨_, rfl, SubB.refl _⟩, ⟨_, rfl, SubB.refl _⟩, ⟨_, rfl, SubB.refl _⟩, trivial⟩ ?_
        refine awp_if true (by omega) (by kernel_rfl) rfl ?_
        refine awp_seq_k (fun K39 hK39 => ?_)
        refine awp_region [0, 1] (by rw [hc]; kernel_rfl) (by kernel_rfl) ?_
        refine seq_run (r := []) [0, 1] (s' := ⟨[(2, .ptr 2 b1 0), (3, .ptr 3 b2 0), (4, .ptr 4 b3 0), (81, aB true), (82, .agg (zN62 x))], (zN611 b1 x b2 r b3)⟩) (ps := [b1 = b1, b3 = b3]) (by kernel_rfl) ⟨rfl, rfl, trivial⟩ ?_
        refine hK39 _ ?_
        try clear hK39 K39
        refine awp_less ⟨(zN626 b1 b2 b3), (zN611 b1 x b2 r b3)⟩ ⟨Sub.refl _, Sub.refl _, Sub.refl _, trivial⟩ ⟨⟨_, rfl, SubB.refl _⟩, ⟨_, rfl, SubB.refl _⟩, ⟨_, rfl, SubB.refl _⟩, trivial⟩ ?_
        refine awp_ret ?_
        refine fin_ret ⟨[b3 = b3], [.agg (zN62 x)], by kernel_rfl, ⟨rfl, trivial⟩, ?_⟩
        have hM : hearD x r = x := by
          have hk := say_kind q1
          have hm : meantD x r = true := by
            unfold meantD
            repeat (first | rw [if_pos (by first | assumption | omega)] | rw [if_neg (by first | assumption | omega | (rw [q1]; decide) | simp_all)])
            try first | rfl | (rw [asks_le hr]; simp; omega) | (simp; omega)
          unfold hearD begunD calledD decidedD ackD
          repeat (first | rw [if_pos (by first | assumption | omega)] | rw [if_neg (by first | assumption | omega | (rw [q1]; decide) | simp_all)])
          try rfl
        rw [hM]
        exact Sub.refl _
      refine seq_bool (s' := ⟨[(2, .ptr 2 b1 0), (3, .ptr 3 b2 0), (4, .ptr 4 b3 0), (8, aI r.r.e), (72, aI r.r.e), (73, aB (r.r.e == 7)), (74, aB false)], (zN65 b1 x b2 r b3)⟩) 74 (b := r.r.e == 7) (v := false) q18 (by kernel_rfl) (by kernel_rfl) ?_
      refine seq_run (r := [7, 8, 9]) [3, 4, 5, 6] (s' := ⟨[(2, .ptr 2 b1 0), (3, .ptr 3 b2 0), (4, .ptr 4 b3 0), (8, aI r.r.e), (72, aI r.r.e), (73, aB (r.r.e == 7)), (74, aB false), (75, aI r.r.e), (76, aB (r.r.e == 20)), (77, aB (r.r.e == 20)), (78, aB (r.r.e == 20))], (zN65 b1 x b2 r b3)⟩) (ps := []) (by kernel_rfl) trivial ?_
      rcases beqC (r.r.e) (20) with ⟨q19, p19⟩ | ⟨q19, p19⟩
      ·
        refine seq_bool (s' := ⟨[(2, .ptr 2 b1 0), (3, .ptr 3 b2 0), (4, .ptr 4 b3 0), (8, aI r.r.e), (72, aI r.r.e), (73, aB (r.r.e == 7)), (74, aB false), (75, aI r.r.e), (76, aB (r.r.e == 20)), (77, aB (r.r.e == 20)), (78, aB true)], (zN65 b1 x b2 r b3)⟩) 78 (b := r.r.e == 20) (v := true) q19 (by kernel_rfl) (by kernel_rfl) ?_
        refine seq_run (r := []) [7, 8, 9] (s' := ⟨[(2, .ptr 2 b1 0), (3, .ptr 3 b2 0), (4, .ptr 4 b3 0), (8, aI r.r.e), (72, aI r.r.e), (73, aB (r.r.e == 7)), (74, aB false), (75, aI r.r.e), (76, aB (r.r.e == 20)), (77, aB (r.r.e == 20)), (78, aB true), (79, .val undef), (80, .val undef), (81, aB true)], (zN65 b1 x b2 r b3)⟩) (ps := []) (by kernel_rfl) trivial ?_
        refine hK38 _ ?_
        try clear hK38 K38
        refine awp_less ⟨[(2, .ptr 2 b1 0), (3, .ptr 3 b2 0), (4, .ptr 4 b3 0), (81, aB true)], (zN65 b1 x b2 r b3)⟩ ⟨Sub.refl _, Sub.refl _, Sub.refl _, Sub.refl _, trivial⟩ ⟨⟨_, rfl, SubB.refl _⟩, ⟨_, rfl, SubB.refl _⟩, ⟨_, rfl, SubB.refl _⟩, trivial⟩ ?_
        refine awp_if true (by omega) (by kernel_rfl) rfl ?_
        refine awp_seq_k (fun K40 hK40 => ?_)
        refine awp_region [0, 1] (by rw [hc]; kernel_rfl) (by kernel_rfl) ?_
        refine seq_run (r := []) [0, 1] (s' := ⟨[(2, .ptr 2 b1 0), (3, .ptr 3 b2 0), (4, .ptr 4 b3 0), (81, aB true), (82, .agg (zN62 x))], (zN611 b1 x b2 r b3)⟩) (ps := [b1 = b1, b3 = b3]) (by kernel_rfl) ⟨rfl, rfl, trivial⟩ ?_
        refine hK40 _ ?_
        try clear hK40 K40
        refine awp_less ⟨(zN626 b1 b2 b3), (zN611 b1 x b2 r b3)⟩ ⟨Sub.refl _, Sub.refl _, Sub.refl _, trivial⟩ ⟨⟨_, rfl, SubB.refl _⟩, ⟨_, rfl, SubB.refl _⟩, ⟨_, rfl, SubB.refl _⟩, trivial⟩ ?_
        refine awp_ret ?_
        refine fin_ret ⟨[b3 = b3], [.agg (zN62 x)], by kernel_rfl, ⟨rfl, trivial⟩, ?_⟩
        have hM : hearD x r = x := by
          have hk := say_kind q1
          have hm : meantD x r = true := by
            unfold meantD
            repeat (first | rw [if_pos (by first | assumption | omega)] | rw [if_neg (by first | assumption | omega | (rw [q1]; decide) | simp_all)])
            try first | rfl | (rw [asks_le hr]; simp; omega) | (simp; omega)
          unfold hearD begunD calledD decidedD ackD
          repeat (first | rw [if_pos (by first | assumption | omega)] | rw [if_neg (by first | assumption | omega | (rw [q1]; decide) | simp_all)])
          try rfl
        rw [hM]
        exact Sub.refl _
      refine seq_bool (s' := ⟨[(2, .ptr 2 b1 0), (3, .ptr 3 b2 0), (4, .ptr 4 b3 0), (8, aI r.r.e), (72, aI r.r.e), (73, aB (r.r.e == 7)), (74, aB false), (75, aI r.r.e), (76, aB (r.r.e == 20)), (77, aB (r.r.e == 20)), (78, aB false)], (zN65 b1 x b2 r b3)⟩) 78 (b := r.r.e == 20) (v := false) q19 (by kernel_rfl) (by kernel_rfl) ?_
      refine seq_run (r := []) [7, 8, 9] (s' := ⟨[(2, .ptr 2 b1 0), (3, .ptr 3 b2 0), (4, .ptr 4 b3 0), (8, aI r.r.e), (72, aI r.r.e), (73, aB (r.r.e == 7)), (74, aB false), (75, aI r.r.e), (76, aB (r.r.e == 20)), (77, aB (r.r.e == 20)), (78, aB false), (79, aI r.r.e), (80, aB (r.r.e == 12)), (81, aB (r.r.e == 12))], (zN65 b1 x b2 r b3)⟩) (ps := []) (by kernel_rfl) trivial ?_
      refine hK38 _ ?_
      try clear hK38 K38
      refine awp_less ⟨[(2, .ptr 2 b1 0), (3, .ptr 3 b2 0), (4, .ptr 4 b3 0), (81, aB (r.r.e == 12))], (zN65 b1 x b2 r b3)⟩ ⟨Sub.refl _, Sub.refl _, Sub.refl _, Sub.refl _, trivial⟩ ⟨⟨_, rfl, SubB.refl _⟩, ⟨_, rfl, SubB.refl _⟩, ⟨_, rfl, SubB.refl _⟩, trivial⟩ ?_
      rcases beqC (r.r.e) (12) with ⟨q20, p20⟩ | ⟨q20, p20⟩
      ·
        refine awp_if true (by omega) (by kernel_rfl) q20 ?_
        refine awp_seq_k (fun K41 hK41 => ?_)
        refine awp_region [0, 1] (by rw [hc]; kernel_rfl) (by kernel_rfl) ?_
        refine seq_run (r := []) [0, 1] (s' := ⟨[(2, .ptr 2 b1 0), (3, .ptr 3 b2 0), (4, .ptr 4 b3 0), (81, aB (r.r.e == 12)), (82, .agg (zN62 x))], (zN611 b1 x b2 r b3)⟩) (ps := [b1 = b1, b3 = b3]) (by kernel_rfl) ⟨rfl, rfl, trivial⟩ ?_
        refine hK41 _ ?_
        try clear hK41 K41
        refine awp_less ⟨(zN626 b1 b2 b3), (zN611 b1 x b2 r b3)⟩ ⟨Sub.refl _, Sub.refl _, Sub.refl _, trivial⟩ ⟨⟨_, rfl, SubB.refl _⟩, ⟨_, rfl, SubB.refl _⟩, ⟨_, rfl, SubB.refl _⟩, trivial⟩ ?_
        refine awp_ret ?_
        refine fin_ret ⟨[b3 = b3], [.agg (zN62 x)], by kernel_rfl, ⟨rfl, trivial⟩, ?_⟩
        have hM : hearD x r = x := by
          have hk := say_kind q1
          have hm : meantD x r = true := by
            unfold meantD
            repeat (first | rw [if_pos (by first | assumption | omega)] | rw [if_neg (by first | assumption | omega | (rw [q1]; decide) | simp_all)])
            try first | rfl | (rw [asks_le hr]; simp; omega) | (simp; omega)
          unfold hearD begunD calledD decidedD ackD
          repeat (first | rw [if_pos (by first | assumption | omega)] | rw [if_neg (by first | assumption | omega | (rw [q1]; decide) | simp_all)])
          try rfl
        rw [hM]
        exact Sub.refl _
      refine awp_if false (by omega) (by kernel_rfl) q20 ?_
      refine awp_skip ?_
      refine hK37 _ ?_
      try clear hK37 K37
      refine awp_less ⟨(zN626 b1 b2 b3), (zN65 b1 x b2 r b3)⟩ ⟨Sub.refl _, Sub.refl _, Sub.refl _, trivial⟩ ⟨⟨_, rfl, SubB.refl _⟩, ⟨_, rfl, SubB.refl _⟩, ⟨_, rfl, SubB.refl _⟩, trivial⟩ ?_
      refine awp_seq_k (fun K42 hK42 => ?_)
      refine awp_region [0, 1, 2, 3, 4, 5] (by rw [hc]; kernel_rfl) (by kernel_rfl) ?_
      refine seq_run (r := [4, 5]) [0, 1, 2, 3] (s' := ⟨[(2, .ptr 2 b1 0), (3, .ptr 3 b2 0), (4, .ptr 4 b3 0), (83, .agg (zN62 x)), (84, .ptr 3 b2 5), (85, .ptr 3 b2 5), (86, aI r.r.e)], (zN65 b1 x b2 r b3)⟩) (ps := [b1 = b1, b2 = b2]) (by kernel_rfl) ⟨rfl, rfl, trivial⟩ ?_
      refine seq_call (f := 33) (args := [.agg (zN62 x), aB false, aI r.r.e]) (d := some 87) (args' := [.agg (zN62 x), aB false, aI r.r.e]) (s' := ⟨[(2, .ptr 2 b1 0), (3, .ptr 3 b2 0), (4, .ptr 4 b3 0), (83, .agg (zN62 x)), (84, .ptr 3 b2 5), (85, .ptr 3 b2 5), (86, aI r.r.e), (87, .agg (zN67 x r))], (zN65 b1 x b2 r b3)⟩) (by kernel_rfl) (fun _ _ => rfl) ⟨Sub.refl _, Sub.refl _, Sub.refl _, trivial⟩ (rover_spec (⟨x.me, x.epoch, x.seq, x.jobs, x.phase, x.n, x.stamp, x.told, x.now⟩ : Cli) false r.r.e (by assumption)) (by kernel_rfl) ?_
      refine seq_run (r := []) [5] (s' := ⟨[(2, .ptr 2 b1 0), (3, .ptr 3 b2 0), (4, .ptr 4 b3 0), (83, .agg (zN62 x)), (84, .ptr 3 b2 5), (85, .ptr 3 b2 5), (86, aI r.r.e), (87, .agg (zN67 x r))], [(2, .box b1 26 (zN62 x)), (3, .box b2 32 (zN63 r)), (4, .box b3 26 (zN67 x r))]⟩) (ps := [b3 = b3]) (by kernel_rfl) ⟨rfl, trivial⟩ ?_
      refine hK42 _ ?_
      try clear hK42 K42
      refine awp_less ⟨(zN623 b1 b3), [(2, .box b1 26 (zN62 x)), (4, .box b3 26 (zN67 x r))]⟩ ⟨Sub.refl _, Sub.refl _, trivial⟩ ⟨⟨_, rfl, SubB.refl _⟩, ⟨_, rfl, SubB.refl _⟩, trivial⟩ ?_
      refine awp_ret ?_
      refine fin_ret ⟨[b3 = b3], [.agg (zN67 x r)], by kernel_rfl, ⟨rfl, trivial⟩, ?_⟩
      have hM : hearD x r = (⟨x.me, x.epoch, x.seq, x.jobs, 3, 0, 0, (x.told ++ [doneD (⟨x.me, x.epoch, x.seq, x.jobs, x.phase, x.n, x.stamp, x.told, x.now⟩ : Cli) false r.r.e]), ([] : List Rep)⟩ : Cli) := by
        have hk := say_kind q1
        have hm : meantD x r = true := by
          unfold meantD
          repeat (first | rw [if_pos (by first | assumption | omega)] | rw [if_neg (by first | assumption | omega | (rw [q1]; decide) | simp_all)])
          try first | rfl | (rw [asks_le hr]; simp; omega) | (simp; omega)
        unfold hearD begunD calledD decidedD ackD
        repeat (first | rw [if_pos (by first | assumption | omega)] | rw [if_neg (by first | assumption | omega | (rw [q1]; decide) | simp_all)])
        try rfl
      rw [hM]
      exact Sub.refl _
    refine awp_if false (by omega) (by kernel_rfl) q16 ?_
    refine awp_seq_k (fun K43 hK43 => ?_)
    refine awp_region [0, 1] (by rw [hc]; kernel_rfl) (by kernel_rfl) ?_
    refine seq_run (r := []) [0, 1] (s' := ⟨[(2, .ptr 2 b1 0), (3, .ptr 3 b2 0), (4, .ptr 4 b3 0), (5, .ptr 5 b4 0), (8, aI r.r.e), (61, aI r.kind), (62, aB (r.kind == 1)), (89, aB (r.kind == 2)), (88, aB (r.kind == 2))], (zN61 b1 x b2 r b3 b4)⟩) (ps := []) (by kernel_rfl) trivial ?_
    refine hK43 _ ?_
    try clear hK43 K43
    refine awp_less ⟨[(2, .ptr 2 b1 0), (3, .ptr 3 b2 0), (4, .ptr 4 b3 0), (5, .ptr 5 b4 0), (8, aI r.r.e), (61, aI r.kind), (88, aB (r.kind == 2))], (zN61 b1 x b2 r b3 b4)⟩ ⟨Sub.refl _, Sub.refl _, Sub.refl _, Sub.refl _, Sub.refl _, Sub.refl _, Sub.refl _, trivial⟩ ⟨⟨_, rfl, SubB.refl _⟩, ⟨_, rfl, SubB.refl _⟩, ⟨_, rfl, SubB.refl _⟩, ⟨_, rfl, SubB.refl _⟩, trivial⟩ ?_
    rcases beqC (r.kind) (2) with ⟨q21, p21⟩ | ⟨q21, p21⟩
    ·
      refine awp_if true (by omega) (by kernel_rfl) q21 ?_
      refine awp_seq_k (fun K44 hK44 => ?_)
      refine awp_seq_k (fun K45 hK45 => ?_)
      refine awp_region [0, 1, 2] (by rw [hc]; kernel_rfl) (by kernel_rfl) ?_
      refine seq_run (r := []) [0, 1, 2] (s' := ⟨[(2, .ptr 2 b1 0), (3, .ptr 3 b2 0), (4, .ptr 4 b3 0), (5, .ptr 5 b4 0), (8, aI r.r.e), (61, aI r.kind), (88, aB (r.kind == 2)), (90, .ptr 3 b2 4), (91, aI r.n), (92, aB (r.n == (-1)))], (zN61 b1 x b2 r b3 b4)⟩) (ps := [b2 = b2]) (by kernel_rfl) ⟨rfl, trivial⟩ ?_
      refine hK45 _ ?_
      try clear hK45 K45
      refine awp_less ⟨[(2, .ptr 2 b1 0), (3, .ptr 3 b2 0), (4, .ptr 4 b3 0), (5, .ptr 5 b4 0), (92, aB (r.n == (-1)))], (zN61 b1 x b2 r b3 b4)⟩ ⟨Sub.refl _, Sub.refl _, Sub.refl _, Sub.refl _, Sub.refl _, trivial⟩ ⟨⟨_, rfl, SubB.refl _⟩, ⟨_, rfl, SubB.refl _⟩, ⟨_, rfl, SubB.refl _⟩, ⟨_, rfl, SubB.refl _⟩, trivial⟩ ?_
      rcases beqC (r.n) ((-1)) with ⟨q22, p22⟩ | ⟨q22, p22⟩
      ·
        refine awp_if true (by omega) (by kernel_rfl) q22 ?_
        refine awp_seq_k (fun K46 hK46 => ?_)
        refine awp_region [0, 1, 2, 3, 4, 5] (by rw [hc]; kernel_rfl) (by kernel_rfl) ?_
        refine seq_run (r := [4, 5]) [0, 1, 2, 3] (s' := ⟨[(2, .ptr 2 b1 0), (3, .ptr 3 b2 0), (4, .ptr 4 b3 0), (5, .ptr 5 b4 0), (92, aB (r.n == (-1))), (93, .agg (zN62 x)), (94, .ptr 3 b2 5), (95, .ptr 3 b2 5), (96, aI r.r.e)], (zN61 b1 x b2 r b3 b4)⟩) (ps := [b1 = b1, b2 = b2]) (by kernel_rfl) ⟨rfl, rfl, trivial⟩ ?_
        refine seq_call (f := 33) (args := [.agg (zN62 x), aB false, aI r.r.e]) (d := some 97) (args' := [.agg (zN62 x), aB false, aI r.r.e]) (s' := ⟨[(2, .ptr 2 b1 0), (3, .ptr 3 b2 0), (4, .ptr 4 b3 0), (5, .ptr 5 b4 0), (92, aB (r.n == (-1))), (93, .agg (zN62 x)), (94, .ptr 3 b2 5), (95, .ptr 3 b2 5), (96, aI r.r.e), (97, .agg (zN67 x r))], (zN61 b1 x b2 r b3 b4)⟩) (by kernel_rfl) (fun _ _ => rfl) ⟨Sub.refl _, Sub.refl _, Sub.refl _, trivial⟩ (rover_spec (⟨x.me, x.epoch, x.seq, x.jobs, x.phase, x.n, x.stamp, x.told, x.now⟩ : Cli) false r.r.e (by assumption)) (by kernel_rfl) ?_
        refine seq_run (r := []) [5] (s' := ⟨[(2, .ptr 2 b1 0), (3, .ptr 3 b2 0), (4, .ptr 4 b3 0), (5, .ptr 5 b4 0), (92, aB (r.n == (-1))), (93, .agg (zN62 x)), (94, .ptr 3 b2 5), (95, .ptr 3 b2 5), (96, aI r.r.e), (97, .agg (zN67 x r))], [(2, .box b1 26 (zN62 x)), (3, .box b2 32 (zN63 r)), (4, .box b3 26 (zN67 x r)), (5, .box b4 38 (zN64 x))]⟩) (ps := [b3 = b3]) (by kernel_rfl) ⟨rfl, trivial⟩ ?_
        refine hK46 _ ?_
        try clear hK46 K46
        refine awp_less ⟨(zN621 b1 b2 b3 b4), [(2, .box b1 26 (zN62 x)), (3, .box b2 32 (zN63 r)), (4, .box b3 26 (zN67 x r)), (5, .box b4 38 (zN64 x))]⟩ ⟨Sub.refl _, Sub.refl _, Sub.refl _, Sub.refl _, trivial⟩ ⟨⟨_, rfl, SubB.refl _⟩, ⟨_, rfl, SubB.refl _⟩, ⟨_, rfl, SubB.refl _⟩, ⟨_, rfl, SubB.refl _⟩, trivial⟩ ?_
        refine awp_ret ?_
        refine fin_ret ⟨[b3 = b3], [.agg (zN67 x r)], by kernel_rfl, ⟨rfl, trivial⟩, ?_⟩
        have hM : hearD x r = (⟨x.me, x.epoch, x.seq, x.jobs, 3, 0, 0, (x.told ++ [doneD (⟨x.me, x.epoch, x.seq, x.jobs, x.phase, x.n, x.stamp, x.told, x.now⟩ : Cli) false r.r.e]), ([] : List Rep)⟩ : Cli) := by
          have hk := say_kind q1
          have hm : meantD x r = true := by
            unfold meantD
            repeat (first | rw [if_pos (by first | assumption | omega)] | rw [if_neg (by first | assumption | omega | (rw [q1]; decide) | simp_all)])
            try first | rfl | (rw [asks_le hr]; simp; omega) | (simp; omega)
          unfold hearD begunD calledD decidedD ackD
          repeat (first | rw [if_pos (by first | assumption | omega)] | rw [if_neg (by first | assumption | omega | (rw [q1]; decide) | simp_all)])
          try rfl
        rw [hM]
        exact Sub.refl _
      refine awp_if false (by omega) (by kernel_rfl) q22 ?_
      refine awp_skip ?_
      refine hK44 _ ?_
      try clear hK44 K44
      refine awp_less ⟨(zN621 b1 b2 b3 b4), (zN61 b1 x b2 r b3 b4)⟩ ⟨Sub.refl _, Sub.refl _, Sub.refl _, Sub.refl _, trivial⟩ ⟨⟨_, rfl, SubB.refl _⟩, ⟨_, rfl, SubB.refl _⟩, ⟨_, rfl, SubB.refl _⟩, ⟨_, rfl, SubB.refl _⟩, trivial⟩ ?_
      refine awp_seq_k (fun K47 hK47 => ?_)
      refine awp_seq_k (fun K48 hK48 => ?_)
      refine awp_region [0, 1, 2, 3, 4] (by rw [hc]; kernel_rfl) (by kernel_rfl) ?_
      refine seq_run (r := []) [0, 1, 2, 3, 4] (s' := ⟨[(2, .ptr 2 b1 0), (3, .ptr 3 b2 0), (4, .ptr 4 b3 0), (5, .ptr 5 b4 0), (98, .ptr 3 b2 4), (99, aI r.n), (100, .ptr 5 b4 4), (101, aI ((sayD x).1.n)), (102, aB (r.n != ((sayD x).1.n)))], (zN61 b1 x b2 r b3 b4)⟩) (ps := [b2 = b2, b4 = b4]) (by kernel_rfl) ⟨rfl, rfl, trivial⟩ ?_
      refine hK48 _ ?_
      try clear hK48 K48
      refine awp_less ⟨[(2, .ptr 2 b1 0), (3, .ptr 3 b2 0), (4, .ptr 4 b3 0), (102, aB (r.n != ((sayD x).1.n)))], (zN65 b1 x b2 r b3)⟩ ⟨Sub.refl _, Sub.refl _, Sub.refl _, Sub.refl _, trivial⟩ ⟨⟨_, rfl, SubB.refl _⟩, ⟨_, rfl, SubB.refl _⟩, ⟨_, rfl, SubB.refl _⟩, trivial⟩ ?_
      rcases bneC (r.n) (((sayD x).1.n)) with ⟨q23, p23⟩ | ⟨q23, p23⟩
      ·
        refine awp_if true (by omega) (by kernel_rfl) q23 ?_
        refine awp_seq_k (fun K49 hK49 => ?_)
        refine awp_region [0, 1] (by rw [hc]; kernel_rfl) (by kernel_rfl) ?_
        refine seq_run (r := []) [0, 1] (s' := ⟨[(2, .ptr 2 b1 0), (3, .ptr 3 b2 0), (4, .ptr 4 b3 0), (102, aB (r.n != ((sayD x).1.n))), (103, .agg (zN62 x))], (zN611 b1 x b2 r b3)⟩) (ps := [b1 = b1, b3 = b3]) (by kernel_rfl) ⟨rfl, rfl, trivial⟩ ?_
        refine hK49 _ ?_
        try clear hK49 K49
        refine awp_less ⟨(zN626 b1 b2 b3), (zN611 b1 x b2 r b3)⟩ ⟨Sub.refl _, Sub.refl _, Sub.refl _, trivial⟩ ⟨⟨_, rfl, SubB.refl _⟩, ⟨_, rfl, SubB.refl _⟩, ⟨_, rfl, SubB.refl _⟩, trivial⟩ ?_
        refine awp_ret ?_
        refine fin_ret ⟨[b3 = b3], [.agg (zN62 x)], by kernel_rfl, ⟨rfl, trivial⟩, ?_⟩
        have hM : hearD x r = x := by
          have hk := say_kind q1
          have hm : meantD x r = false := by
            unfold meantD
            repeat' split
            all_goals first | rfl | omega | (rw [asks_le hr]; simp; omega) | (simp; omega) | simp_all
          unfold hearD begunD calledD decidedD ackD
          repeat (first | rw [if_pos (by first | assumption | omega)] | rw [if_neg (by first | assumption | omega | (rw [q1]; decide) | simp_all)])
          try rfl
        rw [hM]
        exact Sub.refl _
      refine awp_if false (by omega) (by kernel_rfl) q23 ?_
      refine awp_skip ?_
      refine hK47 _ ?_
      try clear hK47 K47
      refine awp_less ⟨(zN626 b1 b2 b3), (zN65 b1 x b2 r b3)⟩ ⟨Sub.refl _, Sub.refl _, Sub.refl _, trivial⟩ ⟨⟨_, rfl, SubB.refl _⟩, ⟨_, rfl, SubB.refl _⟩, ⟨_, rfl, SubB.refl _⟩, trivial⟩ ?_
      refine awp_seq_k (fun K50 hK50 => ?_)
      refine awp_region [0, 1, 2, 3, 4] (by rw [hc]; kernel_rfl) (by kernel_rfl) ?_
      refine seqLit0 (e := 30) (k := 6) (d := 104) (f := fun V1 => ⟨[(2, .ptr 2 b1 0), (3, .ptr 3 b2 0), (4, .ptr 4 b3 0), (104, .rw 104 V1 0)], [(2, .box b1 26 (zN62 x)), (3, .box b2 32 (zN63 r)), (4, .box b3 26 zN69), (104, .row V1 30 6 ([]))]⟩) (by kernel_rfl) rfl (fun _ => by kernel_rfl) (fun V1 => ?_)
      refine seq_run (r := [3, 4]) [1, 2] (s' := ⟨[(2, .ptr 2 b1 0), (3, .ptr 3 b2 0), (4, .ptr 4 b3 0), (104, .rw 104 V1 0), (105, .ptr 2 b1 8), (106, .sl 6 false (x.now.map repA))], [(2, .box b1 26 (zN62 x)), (3, .box b2 32 (zN63 r)), (4, .box b3 26 zN69), (104, .row V1 30 6 ([]))]⟩) (ps := [b1 = b1]) (by kernel_rfl) ⟨rfl, trivial⟩ ?_
      refine seq_append (t := 24) (e := 30) (id := 104) (k := 6) (n := 0) (bytes := 72) (d := 107) (V := V1) (tt := false) (xs := ([] : List (List AV))) (ys := x.now.map repA) (f := fun V2 => ⟨[(2, .ptr 2 b1 0), (3, .ptr 3 b2 0), (4, .ptr 4 b3 0), (104, .rw 104 V1 0), (105, .ptr 2 b1 8), (106, .sl 6 false (x.now.map repA)), (107, .rw 104 V2 (([] : List (List AV)).length + (x.now.map repA).length))], (zN624 b1 x b2 r b3 V2)⟩) (by kernel_rfl) (by kernel_rfl) (by kernel_rfl) (by simp <;> omega) (by simp <;> omega) (fun _ => by kernel_rfl) (fun V2 => ?_)
      refine seq_run (r := []) [4] (s' := ⟨[(2, .ptr 2 b1 0), (3, .ptr 3 b2 0), (4, .ptr 4 b3 0), (104, .rw 104 V1 0), (105, .ptr 2 b1 8), (106, .sl 6 false (x.now.map repA)), (107, .rw 104 V2 (([] : List (List AV)).length + (x.now.map repA).length)), (9, .rw 104 V2 (([] : List (List AV)).length + (x.now.map repA).length))], (zN624 b1 x b2 r b3 V2)⟩) (ps := []) (by kernel_rfl) trivial ?_
      refine hK50 _ ?_
      try clear hK50 K50
      refine awp_less ⟨[(2, .ptr 2 b1 0), (3, .ptr 3 b2 0), (4, .ptr 4 b3 0), (9, .rw 104 V2 (([] : List (List AV)).length + (x.now.map repA).length))], (zN624 b1 x b2 r b3 V2)⟩ ⟨Sub.refl _, Sub.refl _, Sub.refl _, Sub.refl _, trivial⟩ ⟨⟨_, rfl, SubB.refl _⟩, ⟨_, rfl, SubB.refl _⟩, ⟨_, rfl, SubB.refl _⟩, ⟨_, rfl, SubB.refl _⟩, trivial⟩ ?_
      refine awp_seq_k (fun K51 hK51 => ?_)
      refine awp_region [0, 1, 2, 3, 4, 5, 6] (by rw [hc]; kernel_rfl) (by kernel_rfl) ?_
      refine seq_run (r := [4, 5, 6]) [0, 1, 2, 3] (s' := ⟨[(2, .ptr 2 b1 0), (3, .ptr 3 b2 0), (4, .ptr 4 b3 0), (9, .rw 104 V2 (([] : List (List AV)).length + (x.now.map repA).length)), (108, .rw 104 V2 (([] : List (List AV)).length + (x.now.map repA).length)), (109, .ptr 3 b2 5), (110, .agg (zN612 r)), (111, .sl 6 true ([(zN612 r)]))], (zN624 b1 x b2 r b3 V2)⟩) (ps := [b2 = b2]) (by kernel_rfl) ⟨rfl, trivial⟩ ?_
      refine seq_append (t := 24) (e := 30) (id := 104) (k := 6) (n := (([] : List (List AV)).length + (x.now.map repA).length)) (bytes := 72) (d := 112) (V := V2) (tt := true) (xs := ([] : List (List AV)) ++ (x.now.map repA)) (ys := [(zN612 r)]) (f := fun V3 => ⟨[(2, .ptr 2 b1 0), (3, .ptr 3 b2 0), (4, .ptr 4 b3 0), (9, .rw 104 V2 (([] : List (List AV)).length + (x.now.map repA).length)), (108, .rw 104 V2 (([] : List (List AV)).length + (x.now.map repA).length)), (109, .ptr 3 b2 5), (110, .agg (zN612 r)), (111, .sl 6 true ([(zN612 r)])), (112, .rw 104 V3 ((([] : List (List AV)) ++ (x.now.map repA)).length + ([(zN612 r)] : List (List AV)).length))], [(2, .box b1 26 (zN62 x)), (3, .box b2 32 (zN63 r)), (4, .box b3 26 zN69), (104, .row V3 30 6 ((([] : List (List AV)) ++ (x.now.map repA)) ++ ([(zN612 r)])))]⟩) (by kernel_rfl) (by kernel_rfl) (by kernel_rfl) (by simp <;> omega) (by simp <;> omega) (fun _ => by kernel_rfl) (fun V3 => ?_)
      refine seq_run (r := []) [5, 6] (s' := ⟨[(2, .ptr 2 b1 0), (3, .ptr 3 b2 0), (4, .ptr 4 b3 0), (9, .rw 104 V2 (([] : List (List AV)).length + (x.now.map repA).length)), (108, .rw 104 V2 (([] : List (List AV)).length + (x.now.map repA).length)), (109, .ptr 3 b2 5), (110, .agg (zN612 r)), (111, .sl 6 true ([(zN612 r)])), (112, .rw 104 V3 ((([] : List (List AV)) ++ (x.now.map repA)).length + ([(zN612 r)] : List (List AV)).length)), (113, .ptr 2 b1 8)], [(2, .box b1 26 (zN627 x V3 r)), (3, .box b2 32 (zN63 r)), (4, .box b3 26 zN69), (104, .row V3 30 6 ((([] : List (List AV)) ++ (x.now.map repA)) ++ ([(zN612 r)])))]⟩) (ps := [b1 = b1]) (by kernel_rfl) ⟨rfl, trivial⟩ ?_
      refine hK51 _ ?_
      try clear hK51 K51
      refine awp_less ⟨(zN623 b1 b3), [(2, .box b1 26 (zN627 x V3 r)), (4, .box b3 26 zN69), (104, .row V3 30 6 ((([] : List (List AV)) ++ (x.now.map repA)) ++ ([(zN612 r)])))]⟩ ⟨Sub.refl _, Sub.refl _, trivial⟩ ⟨⟨_, rfl, SubB.refl _⟩, ⟨_, rfl, SubB.refl _⟩, ⟨_, rfl, SubB.refl _⟩, trivial⟩ ?_
      refine awp_seq_k (fun K52 hK52 => ?_)
      refine awp_region [0, 1, 2, 3, 4] (by rw [hc]; kernel_rfl) (by kernel_rfl) ?_
      refine seq_run (r := []) [0, 1, 2, 3, 4] (s' := ⟨[(2, .ptr 2 b1 0), (4, .ptr 4 b3 0), (114, .ptr 2 b1 5), (115, aI x.n), (116, aI (x.n + 1)), (117, .ptr 2 b1 5)], (zN625 b1 x V3 r b3)⟩) (ps := [b1 = b1, rng .i64 (x.n + 1), b1 = b1]) (by kernel_rfl) ⟨rfl, rng64 (by omega) (by omega), rfl, trivial⟩ ?_
      refine hK52 _ ?_
      try clear hK52 K52
      refine awp_less ⟨(zN623 b1 b3), (zN625 b1 x V3 r b3)⟩ ⟨Sub.refl _, Sub.refl _, trivial⟩ ⟨⟨_, rfl, SubB.refl _⟩, ⟨_, rfl, SubB.refl _⟩, ⟨_, rfl, SubB.refl _⟩, trivial⟩ ?_
      refine awp_seq_k (fun K53 hK53 => ?_)
      refine awp_freeze 104 (.row V3 30 6 ((([] : List (List AV)) ++ (x.now.map repA)) ++ ([(zN612 r)]))) ⟨(zN623 b1 b3), [(2, .box b1 26 (zN68 x r)), (4, .box b3 26 zN69)]⟩ rfl ⟨Fz.refl _ _, Fz.refl _ _, trivial⟩ ⟨⟨rfl, _, rfl, FzB.box _ _ _ _ ⟨Fz.refl _ _, Fz.refl _ _, Fz.refl _ _, Fz.refl _ _, Fz.refl _ _, Fz.refl _ _, Fz.refl _ _, Fz.refl _ _, Fz.row _ _ _ _ _ _ (by first | rfl | (simp; done) | (simp; omega)), trivial⟩⟩, ⟨rfl, _, rfl, FzB.refl _⟩, trivial⟩ ?_
      refine awp_region [0, 1, 2] (by rw [hc]; kernel_rfl) (by kernel_rfl) ?_
      refine seq_run (r := [1, 2]) [0] (s' := ⟨[(2, .ptr 2 b1 0), (4, .ptr 4 b3 0), (118, .agg (zN68 x r))], [(2, .box b1 26 (zN68 x r)), (4, .box b3 26 zN69)]⟩) (ps := [b1 = b1]) (by kernel_rfl) ⟨rfl, trivial⟩ ?_
      refine seq_call (f := 32) (args := [.agg (zN68 x r)]) (d := some 119) (args' := [.agg [aI x.me, aI x.epoch, aI x.seq, .sl 1 false (x.jobs.map jobA), aI x.phase, aI (x.n + 1), aI x.stamp, .sl 4 false (x.told.map donA), .sl 6 false ((x.now ++ [r.r]).map repA)]]) (s' := ⟨[(2, .ptr 2 b1 0), (4, .ptr 4 b3 0), (118, .agg (zN68 x r)), (119, .agg (zN614 x r))], [(2, .box b1 26 (zN68 x r)), (4, .box b3 26 zN69)]⟩) (by kernel_rfl) (fun _ _ => rfl) ⟨Sub.aggs ⟨Sub.refl _, Sub.refl _, Sub.refl _, Sub.refl _, Sub.refl _, Sub.refl _, Sub.refl _, Sub.refl _, Sub.of_eq (by simp [repA] <;> rfl), trivial⟩, trivial⟩ (rbegun_spec (⟨x.me, x.epoch, x.seq, x.jobs, x.phase, x.n + 1, x.stamp, x.told, (x.now ++ [r.r])⟩ : Cli) hs) (by kernel_rfl) ?_
      refine seq_run (r := []) [2] (s' := ⟨[(2, .ptr 2 b1 0), (4, .ptr 4 b3 0), (118, .agg (zN68 x r)), (119, .agg (zN614 x r))], [(2, .box b1 26 (zN68 x r)), (4, .box b3 26 (zN614 x r))]⟩) (ps := [b3 = b3]) (by kernel_rfl) ⟨rfl, trivial⟩ ?_
      refine hK53 _ ?_
      try clear hK53 K53
      refine awp_less ⟨(zN623 b1 b3), [(2, .box b1 26 (zN68 x r)), (4, .box b3 26 (zN614 x r))]⟩ ⟨Sub.refl _, Sub.refl _, trivial⟩ ⟨⟨_, rfl, SubB.refl _⟩, ⟨_, rfl, SubB.refl _⟩, trivial⟩ ?_
      refine awp_ret ?_
      refine fin_ret ⟨[b3 = b3], [.agg (zN614 x r)], by kernel_rfl, ⟨rfl, trivial⟩, ?_⟩
      have hM : hearD x r = (⟨x.me, x.epoch, x.seq, x.jobs, onwardD (⟨x.me, x.epoch, x.seq, x.jobs, x.phase, x.n + 1, x.stamp, x.told, (x.now ++ [r.r])⟩ : Cli), x.n + 1, x.stamp, x.told, (x.now ++ [r.r])⟩ : Cli) := by
        have hk := say_kind q1
        have hm : meantD x r = true := by
          unfold meantD
          repeat (first | rw [if_pos (by first | assumption | omega)] | rw [if_neg (by first | assumption | omega | (rw [q1]; decide) | simp_all)])
          try first | rfl | (rw [asks_le hr]; simp; omega) | (simp; omega)
        unfold hearD begunD calledD decidedD ackD
        repeat (first | rw [if_pos (by first | assumption | omega)] | rw [if_neg (by first | assumption | omega | (rw [q1]; decide) | simp_all)])
        try rfl
      rw [hM]
      exact Sub.refl _
    refine awp_if false (by omega) (by kernel_rfl) q21 ?_
    refine awp_seq_k (fun K54 hK54 => ?_)
    refine awp_seq_k (fun K55 hK55 => ?_)
    refine awp_region [0, 1] (by rw [hc]; kernel_rfl) (by kernel_rfl) ?_
    refine seq_run (r := []) [0, 1] (s' := ⟨[(2, .ptr 2 b1 0), (3, .ptr 3 b2 0), (4, .ptr 4 b3 0), (5, .ptr 5 b4 0), (8, aI r.r.e), (61, aI r.kind), (88, aB (r.kind == 2)), (121, aB (r.kind == 3)), (120, aB (r.kind == 3))], (zN61 b1 x b2 r b3 b4)⟩) (ps := []) (by kernel_rfl) trivial ?_
    refine hK55 _ ?_
    try clear hK55 K55
    refine awp_less ⟨[(2, .ptr 2 b1 0), (3, .ptr 3 b2 0), (4, .ptr 4 b3 0), (8, aI r.r.e), (61, aI r.kind), (120, aB (r.kind == 3))], (zN65 b1 x b2 r b3)⟩ ⟨Sub.refl _, Sub.refl _, Sub.refl _, Sub.refl _, Sub.refl _, Sub.refl _, trivial⟩ ⟨⟨_, rfl, SubB.refl _⟩, ⟨_, rfl, SubB.refl _⟩, ⟨_, rfl, SubB.refl _⟩, trivial⟩ ?_
    rcases beqC (r.kind) (3) with ⟨q24, p24⟩ | ⟨q24, p24⟩
    ·
      refine awp_if true (by omega) (by kernel_rfl) q24 ?_
      refine awp_skip ?_
      refine hK54 _ ?_
      try clear hK54 K54
      refine awp_less ⟨[(2, .ptr 2 b1 0), (3, .ptr 3 b2 0), (4, .ptr 4 b3 0), (8, aI r.r.e), (120, aB (r.kind == 3))], (zN65 b1 x b2 r b3)⟩ ⟨Sub.refl _, Sub.refl _, Sub.refl _, Sub.refl _, Sub.refl _, trivial⟩ ⟨⟨_, rfl, SubB.refl _⟩, ⟨_, rfl, SubB.refl _⟩, ⟨_, rfl, SubB.refl _⟩, trivial⟩ ?_
      refine awp_if true (by omega) (by kernel_rfl) q24 ?_
      refine awp_seq_k (fun K56 hK56 => ?_)
      refine awp_seq_k (fun K57 hK57 => ?_)
      refine awp_region [0, 1, 2, 3, 4, 5, 6, 7, 8, 9, 10, 11, 12, 13] (by rw [hc]; kernel_rfl) (by kernel_rfl) ?_
      refine seq_run (r := [3, 4, 5, 6, 7, 8, 9, 10, 11, 12, 13]) [0, 1, 2] (s' := ⟨[(2, .ptr 2 b1 0), (3, .ptr 3 b2 0), (4, .ptr 4 b3 0), (8, aI r.r.e), (120, aB (r.kind == 3)), (123, aI r.r.e), (124, aB (r.r.e == 20)), (125, aB (r.r.e == 20))], (zN65 b1 x b2 r b3)⟩) (ps := []) (by kernel_rfl) trivial ?_
      rcases beqC (r.r.e) (20) with ⟨q25, p25⟩ | ⟨q25, p25⟩
      ·
        refine seq_bool (s' := ⟨[(2, .ptr 2 b1 0), (3, .ptr 3 b2 0), (4, .ptr 4 b3 0), (8, aI r.r.e), (120, aB (r.kind == 3)), (123, aI r.r.e), (124, aB (r.r.e == 20)), (125, aB true)], (zN65 b1 x b2 r b3)⟩) 125 (b := r.r.e == 20) (v := true) q25 (by kernel_rfl) (by kernel_rfl) ?_
        refine seq_run (r := []) [3, 4, 5, 6, 7, 8, 9, 10, 11, 12, 13] (s' := ⟨[(2, .ptr 2 b1 0), (3, .ptr 3 b2 0), (4, .ptr 4 b3 0), (8, aI r.r.e), (120, aB (r.kind == 3)), (123, aI r.r.e), (124, aB (r.r.e == 20)), (125, aB true), (126, .val undef), (127, .val undef), (128, aB true), (129, aB true), (130, .val undef), (131, .val undef), (132, aB true), (133, aB true), (134, .val undef), (135, .val undef), (136, aB true)], (zN65 b1 x b2 r b3)⟩) (ps := []) (by kernel_rfl) trivial ?_
        refine hK57 _ ?_
        try clear hK57 K57
        refine awp_less (zN622 b1 b2 b3 r x) ⟨Sub.refl _, Sub.refl _, Sub.refl _, Sub.refl _, Sub.refl _, trivial⟩ ⟨⟨_, rfl, SubB.refl _⟩, ⟨_, rfl, SubB.refl _⟩, ⟨_, rfl, SubB.refl _⟩, trivial⟩ ?_
        refine awp_if true (by omega) (by kernel_rfl) rfl ?_
        refine awp_seq_k (fun K58 hK58 => ?_)
        refine awp_region [0, 1] (by rw [hc]; kernel_rfl) (by kernel_rfl) ?_
        refine seq_run (r := []) [0, 1] (s' := (zN619 b1 b2 b3 r x)) (ps := [b1 = b1, b3 = b3]) (by kernel_rfl) ⟨rfl, rfl, trivial⟩ ?_
        refine hK58 _ ?_
        try clear hK58 K58
        refine awp_less (zN635 b1 b2 b3 r x) ⟨Sub.refl _, Sub.refl _, Sub.refl _, Sub.refl _, trivial⟩ ⟨⟨_, rfl, SubB.refl _⟩, ⟨_, rfl, SubB.refl _⟩, ⟨_, rfl, SubB.refl _⟩, trivial⟩ ?_
        refine awp_ret ?_
        refine fin_ret ⟨[b3 = b3], [.agg (zN62 x)], by kernel_rfl, ⟨rfl, trivial⟩, ?_⟩
        have hM : hearD x r = x := by
          have hk := say_kind q1
          have hm : meantD x r = true := by
            unfold meantD
            repeat (first | rw [if_pos (by first | assumption | omega)] | rw [if_neg (by first | assumption | omega | (rw [q1]; decide) | simp_all)])
            try first | rfl | (rw [asks_le hr]; simp; omega) | (simp; omega)
          unfold hearD begunD calledD decidedD ackD
          repeat (first | rw [if_pos (by first | assumption | omega)] | rw [if_neg (by first | assumption | omega | (rw [q1]; decide) | simp_all)])
          try rfl
        rw [hM]
        exact Sub.refl _
      refine seq_bool (s' := ⟨[(2, .ptr 2 b1 0), (3, .ptr 3 b2 0), (4, .ptr 4 b3 0), (8, aI r.r.e), (120, aB (r.kind == 3)), (123, aI r.r.e), (124, aB (r.r.e == 20)), (125, aB false)], (zN65 b1 x b2 r b3)⟩) 125 (b := r.r.e == 20) (v := false) q25 (by kernel_rfl) (by kernel_rfl) ?_
      refine seq_run (r := [7, 8, 9, 10, 11, 12, 13]) [3, 4, 5, 6] (s' := ⟨[(2, .ptr 2 b1 0), (3, .ptr 3 b2 0), (4, .ptr 4 b3 0), (8, aI r.r.e), (120, aB (r.kind == 3)), (123, aI r.r.e), (124, aB (r.r.e == 20)), (125, aB false), (126, aI r.r.e), (127, aB (r.r.e == 12)), (128, aB (r.r.e == 12)), (129, aB (r.r.e == 12))], (zN65 b1 x b2 r b3)⟩) (ps := []) (by kernel_rfl) trivial ?_
      rcases beqC (r.r.e) (12) with ⟨q26, p26⟩ | ⟨q26, p26⟩
      ·
        refine seq_bool (s' := ⟨[(2, .ptr 2 b1 0), (3, .ptr 3 b2 0), (4, .ptr 4 b3 0), (8, aI r.r.e), (120, aB (r.kind == 3)), (123, aI r.r.e), (124, aB (r.r.e == 20)), (125, aB false), (126, aI r.r.e), (127, aB (r.r.e == 12)), (128, aB (r.r.e == 12)), (129, aB true)], (zN65 b1 x b2 r b3)⟩) 129 (b := r.r.e == 12) (v := true) q26 (by kernel_rfl) (by kernel_rfl) ?_
        refine seq_run (r := []) [7, 8, 9, 10, 11, 12, 13] (s' := ⟨[(2, .ptr 2 b1 0), (3, .ptr 3 b2 0), (4, .ptr 4 b3 0), (8, aI r.r.e), (120, aB (r.kind == 3)), (123, aI r.r.e), (124, aB (r.r.e == 20)), (125, aB false), (126, aI r.r.e), (127, aB (r.r.e == 12)), (128, aB (r.r.e == 12)), (129, aB true), (130, .val undef), (131, .val undef), (132, aB true), (133, aB true), (134, .val undef), (135, .val undef), (136, aB true)], (zN65 b1 x b2 r b3)⟩) (ps := []) (by kernel_rfl) trivial ?_
        refine hK57 _ ?_
        try clear hK57 K57
        refine awp_less (zN622 b1 b2 b3 r x) ⟨Sub.refl _, Sub.refl _, Sub.refl _, Sub.refl _, Sub.refl _, trivial⟩ ⟨⟨_, rfl, SubB.refl _⟩, ⟨_, rfl, SubB.refl _⟩, ⟨_, rfl, SubB.refl _⟩, trivial⟩ ?_
        refine awp_if true (by omega) (by kernel_rfl) rfl ?_
        refine awp_seq_k (fun K59 hK59 => ?_)
        refine awp_region [0, 1] (by rw [hc]; kernel_rfl) (by kernel_rfl) ?_
        refine seq_run (r := []) [0, 1] (s' := (zN619 b1 b2 b3 r x)) (ps := [b1 = b1, b3 = b3]) (by kernel_rfl) ⟨rfl, rfl, trivial⟩ ?_
        refine hK59 _ ?_
        try clear hK59 K59
        refine awp_less (zN635 b1 b2 b3 r x) ⟨Sub.refl _, Sub.refl _, Sub.refl _, Sub.refl _, trivial⟩ ⟨⟨_, rfl, SubB.refl _⟩, ⟨_, rfl, SubB.refl _⟩, ⟨_, rfl, SubB.refl _⟩, trivial⟩ ?_
        refine awp_ret ?_
        refine fin_ret ⟨[b3 = b3], [.agg (zN62 x)], by kernel_rfl, ⟨rfl, trivial⟩, ?_⟩
        have hM : hearD x r = x := by
          have hk := say_kind q1
          have hm : meantD x r = true := by
            unfold meantD
            repeat (first | rw [if_pos (by first | assumption | omega)] | rw [if_neg (by first | assumption | omega | (rw [q1]; decide) | simp_all)])
            try first | rfl | (rw [asks_le hr]; simp; omega) | (simp; omega)
          unfold hearD begunD calledD decidedD ackD
          repeat (first | rw [if_pos (by first | assumption | omega)] | rw [if_neg (by first | assumption | omega | (rw [q1]; decide) | simp_all)])
          try rfl
        rw [hM]
        exact Sub.refl _
      refine seq_bool (s' := ⟨[(2, .ptr 2 b1 0), (3, .ptr 3 b2 0), (4, .ptr 4 b3 0), (8, aI r.r.e), (120, aB (r.kind == 3)), (123, aI r.r.e), (124, aB (r.r.e == 20)), (125, aB false), (126, aI r.r.e), (127, aB (r.r.e == 12)), (128, aB (r.r.e == 12)), (129, aB false)], (zN65 b1 x b2 r b3)⟩) 129 (b := r.r.e == 12) (v := false) q26 (by kernel_rfl) (by kernel_rfl) ?_
      refine seq_run (r := [11, 12, 13]) [7, 8, 9, 10] (s' := ⟨[(2, .ptr 2 b1 0), (3, .ptr 3 b2 0), (4, .ptr 4 b3 0), (8, aI r.r.e), (120, aB (r.kind == 3)), (123, aI r.r.e), (124, aB (r.r.e == 20)), (125, aB false), (126, aI r.r.e), (127, aB (r.r.e == 12)), (128, aB (r.r.e == 12)), (129, aB false), (130, aI r.r.e), (131, aB (r.r.e == 5)), (132, aB (r.r.e == 5)), (133, aB (r.r.e == 5))], (zN65 b1 x b2 r b3)⟩) (ps := []) (by kernel_rfl) trivial ?_
      rcases beqC (r.r.e) (5) with ⟨q27, p27⟩ | ⟨q27, p27⟩
      ·
        refine seq_bool (s' := ⟨[(2, .ptr 2 b1 0), (3, .ptr 3 b2 0), (4, .ptr 4 b3 0), (8, aI r.r.e), (120, aB (r.kind == 3)), (123, aI r.r.e), (124, aB (r.r.e == 20)), (125, aB false), (126, aI r.r.e), (127, aB (r.r.e == 12)), (128, aB (r.r.e == 12)), (129, aB false), (130, aI r.r.e), (131, aB (r.r.e == 5)), (132, aB (r.r.e == 5)), (133, aB true)], (zN65 b1 x b2 r b3)⟩) 133 (b := r.r.e == 5) (v := true) q27 (by kernel_rfl) (by kernel_rfl) ?_
        refine seq_run (r := []) [11, 12, 13] (s' := ⟨[(2, .ptr 2 b1 0), (3, .ptr 3 b2 0), (4, .ptr 4 b3 0), (8, aI r.r.e), (120, aB (r.kind == 3)), (123, aI r.r.e), (124, aB (r.r.e == 20)), (125, aB false), (126, aI r.r.e), (127, aB (r.r.e == 12)), (128, aB (r.r.e == 12)), (129, aB false), (130, aI r.r.e), (131, aB (r.r.e == 5)), (132, aB (r.r.e == 5)), (133, aB true), (134, .val undef), (135, .val undef), (136, aB true)], (zN65 b1 x b2 r b3)⟩) (ps := []) (by kernel_rfl) trivial ?_
        refine hK57 _ ?_
        try clear hK57 K57
        refine awp_less (zN622 b1 b2 b3 r x) ⟨Sub.refl _, Sub.refl _, Sub.refl _, Sub.refl _, Sub.refl _, trivial⟩ ⟨⟨_, rfl, SubB.refl _⟩, ⟨_, rfl, SubB.refl _⟩, ⟨_, rfl, SubB.refl _⟩, trivial⟩ ?_
        refine awp_if true (by omega) (by kernel_rfl) rfl ?_
        refine awp_seq_k (fun K60 hK60 => ?_)
        refine awp_region [0, 1] (by rw [hc]; kernel_rfl) (by kernel_rfl) ?_
        refine seq_run (r := []) [0, 1] (s' := (zN619 b1 b2 b3 r x)) (ps := [b1 = b1, b3 = b3]) (by kernel_rfl) ⟨rfl, rfl, trivial⟩ ?_
        refine hK60 _ ?_
        try clear hK60 K60
        refine awp_less (zN635 b1 b2 b3 r x) ⟨Sub.refl _, Sub.refl _, Sub.refl _, Sub.refl _, trivial⟩ ⟨⟨_, rfl, SubB.refl _⟩, ⟨_, rfl, SubB.refl _⟩, ⟨_, rfl, SubB.refl _⟩, trivial⟩ ?_
        refine awp_ret ?_
        refine fin_ret ⟨[b3 = b3], [.agg (zN62 x)], by kernel_rfl, ⟨rfl, trivial⟩, ?_⟩
        have hM : hearD x r = x := by
          have hk := say_kind q1
          have hm : meantD x r = true := by
            unfold meantD
            repeat (first | rw [if_pos (by first | assumption | omega)] | rw [if_neg (by first | assumption | omega | (rw [q1]; decide) | simp_all)])
            try first | rfl | (rw [asks_le hr]; simp; omega) | (simp; omega)
          unfold hearD begunD calledD decidedD ackD
          repeat (first | rw [if_pos (by first | assumption | omega)] | rw [if_neg (by first | assumption | omega | (rw [q1]; decide) | simp_all)])
          try rfl
        rw [hM]
        exact Sub.refl _
      refine seq_bool (s' := ⟨[(2, .ptr 2 b1 0), (3, .ptr 3 b2 0), (4, .ptr 4 b3 0), (8, aI r.r.e), (120, aB (r.kind == 3)), (123, aI r.r.e), (124, aB (r.r.e == 20)), (125, aB false), (126, aI r.r.e), (127, aB (r.r.e == 12)), (128, aB (r.r.e == 12)), (129, aB false), (130, aI r.r.e), (131, aB (r.r.e == 5)), (132, aB (r.r.e == 5)), (133, aB false)], (zN65 b1 x b2 r b3)⟩) 133 (b := r.r.e == 5) (v := false) q27 (by kernel_rfl) (by kernel_rfl) ?_
      refine seq_run (r := []) [11, 12, 13] (s' := ⟨[(2, .ptr 2 b1 0), (3, .ptr 3 b2 0), (4, .ptr 4 b3 0), (8, aI r.r.e), (120, aB (r.kind == 3)), (123, aI r.r.e), (124, aB (r.r.e == 20)), (125, aB false), (126, aI r.r.e), (127, aB (r.r.e == 12)), (128, aB (r.r.e == 12)), (129, aB false), (130, aI r.r.e), (131, aB (r.r.e == 5)), (132, aB (r.r.e == 5)), (133, aB false), (134, aI r.r.e), (135, aB (r.r.e == 19)), (136, aB (r.r.e == 19))], (zN65 b1 x b2 r b3)⟩) (ps := []) (by kernel_rfl) trivial ?_
      refine hK57 _ ?_
      try clear hK57 K57
      refine awp_less ⟨[(2, .ptr 2 b1 0), (3, .ptr 3 b2 0), (4, .ptr 4 b3 0), (8, aI r.r.e), (136, aB (r.r.e == 19))], (zN65 b1 x b2 r b3)⟩ ⟨Sub.refl _, Sub.refl _, Sub.refl _, Sub.refl _, Sub.refl _, trivial⟩ ⟨⟨_, rfl, SubB.refl _⟩, ⟨_, rfl, SubB.refl _⟩, ⟨_, rfl, SubB.refl _⟩, trivial⟩ ?_
      rcases beqC (r.r.e) (19) with ⟨q28, p28⟩ | ⟨q28, p28⟩
      ·
        refine awp_if true (by omega) (by kernel_rfl) q28 ?_
        refine awp_seq_k (fun K61 hK61 => ?_)
        refine awp_region [0, 1] (by rw [hc]; kernel_rfl) (by kernel_rfl) ?_
        refine seq_run (r := []) [0, 1] (s' := ⟨[(2, .ptr 2 b1 0), (3, .ptr 3 b2 0), (4, .ptr 4 b3 0), (8, aI r.r.e), (136, aB (r.r.e == 19)), (137, .agg (zN62 x))], (zN611 b1 x b2 r b3)⟩) (ps := [b1 = b1, b3 = b3]) (by kernel_rfl) ⟨rfl, rfl, trivial⟩ ?_
        refine hK61 _ ?_
        try clear hK61 K61
        refine awp_less (zN635 b1 b2 b3 r x) ⟨Sub.refl _, Sub.refl _, Sub.refl _, Sub.refl _, trivial⟩ ⟨⟨_, rfl, SubB.refl _⟩, ⟨_, rfl, SubB.refl _⟩, ⟨_, rfl, SubB.refl _⟩, trivial⟩ ?_
        refine awp_ret ?_
        refine fin_ret ⟨[b3 = b3], [.agg (zN62 x)], by kernel_rfl, ⟨rfl, trivial⟩, ?_⟩
        have hM : hearD x r = x := by
          have hk := say_kind q1
          have hm : meantD x r = true := by
            unfold meantD
            repeat (first | rw [if_pos (by first | assumption | omega)] | rw [if_neg (by first | assumption | omega | (rw [q1]; decide) | simp_all)])
            try first | rfl | (rw [asks_le hr]; simp; omega) | (simp; omega)
          unfold hearD begunD calledD decidedD ackD
          repeat (first | rw [if_pos (by first | assumption | omega)] | rw [if_neg (by first | assumption | omega | (rw [q1]; decide) | simp_all)])
          try rfl
        rw [hM]
        exact Sub.refl _
      refine awp_if false (by omega) (by kernel_rfl) q28 ?_
      refine awp_skip ?_
      refine hK56 _ ?_
      try clear hK56 K56
      refine awp_less ⟨(zN618 b1 b2 b3 r), (zN65 b1 x b2 r b3)⟩ ⟨Sub.refl _, Sub.refl _, Sub.refl _, Sub.refl _, trivial⟩ ⟨⟨_, rfl, SubB.refl _⟩, ⟨_, rfl, SubB.refl _⟩, ⟨_, rfl, SubB.refl _⟩, trivial⟩ ?_
      refine awp_seq_k (fun K62 hK62 => ?_)
      refine awp_region [0, 1, 2, 3, 4, 5, 6, 7] (by rw [hc]; kernel_rfl) (by kernel_rfl) ?_
      refine seq_run (r := [6, 7]) [0, 1, 2, 3, 4, 5] (s' := (zN634 b1 b2 b3 r x)) (ps := [b1 = b1, b2 = b2]) (by kernel_rfl) ⟨rfl, rfl, trivial⟩ ?_
      refine seq_call (f := 33) (args := [.agg (zN62 x), aB (r.r.e == 0), aI r.r.e]) (d := some 144) (args' := [.agg (zN62 x), aB (r.r.e == 0), aI r.r.e]) (s' := ⟨(zN620 b1 b2 b3 r x), (zN65 b1 x b2 r b3)⟩) (by kernel_rfl) (fun _ _ => rfl) ⟨Sub.refl _, Sub.refl _, Sub.refl _, trivial⟩ (rover_spec (⟨x.me, x.epoch, x.seq, x.jobs, x.phase, x.n, x.stamp, x.told, x.now⟩ : Cli) (r.r.e == 0) r.r.e (by assumption)) (by kernel_rfl) ?_
      refine seq_run (r := []) [7] (s' := ⟨(zN620 b1 b2 b3 r x), [(2, .box b1 26 (zN62 x)), (3, .box b2 32 (zN63 r)), (4, .box b3 26 (zN66 x r))]⟩) (ps := [b3 = b3]) (by kernel_rfl) ⟨rfl, trivial⟩ ?_
      refine hK62 _ ?_
      try clear hK62 K62
      refine awp_less ⟨(zN623 b1 b3), [(2, .box b1 26 (zN62 x)), (4, .box b3 26 (zN66 x r))]⟩ ⟨Sub.refl _, Sub.refl _, trivial⟩ ⟨⟨_, rfl, SubB.refl _⟩, ⟨_, rfl, SubB.refl _⟩, trivial⟩ ?_
      refine awp_ret ?_
      refine fin_ret ⟨[b3 = b3], [.agg (zN66 x r)], by kernel_rfl, ⟨rfl, trivial⟩, ?_⟩
      have hM : hearD x r = (⟨x.me, x.epoch, x.seq, x.jobs, 3, 0, 0, (x.told ++ [doneD (⟨x.me, x.epoch, x.seq, x.jobs, x.phase, x.n, x.stamp, x.told, x.now⟩ : Cli) (r.r.e == 0) r.r.e]), ([] : List Rep)⟩ : Cli) := by
        have hk := say_kind q1
        have hm : meantD x r = true := by
          unfold meantD
          repeat (first | rw [if_pos (by first | assumption | omega)] | rw [if_neg (by first | assumption | omega | (rw [q1]; decide) | simp_all)])
          try first | rfl | (rw [asks_le hr]; simp; omega) | (simp; omega)
        unfold hearD begunD calledD decidedD ackD
        repeat (first | rw [if_pos (by first | assumption | omega)] | rw [if_neg (by first | assumption | omega | (rw [q1]; decide) | simp_all)])
        try rfl
      rw [hM]
      exact Sub.refl _
    refine awp_if false (by omega) (by kernel_rfl) q24 ?_
    refine awp_region [0, 1] (by rw [hc]; kernel_rfl) (by kernel_rfl) ?_
    refine seq_run (r := []) [0, 1] (s' := ⟨[(2, .ptr 2 b1 0), (3, .ptr 3 b2 0), (4, .ptr 4 b3 0), (8, aI r.r.e), (61, aI r.kind), (120, aB (r.kind == 5)), (122, aB (r.kind == 5))], (zN65 b1 x b2 r b3)⟩) (ps := []) (by kernel_rfl) trivial ?_
    refine hK54 _ ?_
    try clear hK54 K54
    refine awp_less ⟨[(2, .ptr 2 b1 0), (3, .ptr 3 b2 0), (4, .ptr 4 b3 0), (8, aI r.r.e), (120, aB (r.kind == 5))], (zN65 b1 x b2 r b3)⟩ ⟨Sub.refl _, Sub.refl _, Sub.refl _, Sub.refl _, Sub.refl _, trivial⟩ ⟨⟨_, rfl, SubB.refl _⟩, ⟨_, rfl, SubB.refl _⟩, ⟨_, rfl, SubB.refl _⟩, trivial⟩ ?_
    refine awp_if false (by omega) (by kernel_rfl) q5 ?_
    refine awp_skip ?_
    refine hK30 _ ?_
    try clear hK30 K30
    refine awp_less ⟨(zN623 b1 b3), [(2, .box b1 26 (zN62 x)), (4, .box b3 26 zN69)]⟩ ⟨Sub.refl _, Sub.refl _, trivial⟩ ⟨⟨_, rfl, SubB.refl _⟩, ⟨_, rfl, SubB.refl _⟩, trivial⟩ ?_
    refine awp_seq_k (fun K63 hK63 => ?_)
    refine awp_region [0, 1, 2, 3, 4] (by rw [hc]; kernel_rfl) (by kernel_rfl) ?_
    refine seq_run (r := []) [0, 1, 2, 3, 4] (s' := ⟨[(2, .ptr 2 b1 0), (4, .ptr 4 b3 0), (145, .ptr 2 b1 2), (146, aI x.seq), (147, aI (x.seq + 1)), (148, .ptr 2 b1 2)], (zN630 b1 x b3)⟩) (ps := [b1 = b1, rng .i64 (x.seq + 1), b1 = b1]) (by kernel_rfl) ⟨rfl, rng64 (by omega) (by omega), rfl, trivial⟩ ?_
    refine hK63 _ ?_
    try clear hK63 K63
    refine awp_less ⟨(zN623 b1 b3), (zN630 b1 x b3)⟩ ⟨Sub.refl _, Sub.refl _, trivial⟩ ⟨⟨_, rfl, SubB.refl _⟩, ⟨_, rfl, SubB.refl _⟩, trivial⟩ ?_
    refine awp_seq_k (fun K64 hK64 => ?_)
    refine awp_region [0, 1] (by rw [hc]; kernel_rfl) (by kernel_rfl) ?_
    refine seq_run (r := []) [0, 1] (s' := ⟨[(2, .ptr 2 b1 0), (4, .ptr 4 b3 0), (149, .ptr 2 b1 4)], (zN631 b1 x b3)⟩) (ps := [b1 = b1]) (by kernel_rfl) ⟨rfl, trivial⟩ ?_
    refine hK64 _ ?_
    try clear hK64 K64
    refine awp_less ⟨(zN623 b1 b3), (zN631 b1 x b3)⟩ ⟨Sub.refl _, Sub.refl _, trivial⟩ ⟨⟨_, rfl, SubB.refl _⟩, ⟨_, rfl, SubB.refl _⟩, trivial⟩ ?_
    refine awp_seq_k (fun K65 hK65 => ?_)
    refine awp_region [0, 1] (by rw [hc]; kernel_rfl) (by kernel_rfl) ?_
    refine seq_run (r := []) [0, 1] (s' := ⟨[(2, .ptr 2 b1 0), (4, .ptr 4 b3 0), (150, .ptr 2 b1 5)], (zN632 b1 x b3)⟩) (ps := [b1 = b1]) (by kernel_rfl) ⟨rfl, trivial⟩ ?_
    refine hK65 _ ?_
    try clear hK65 K65
    refine awp_less ⟨(zN623 b1 b3), (zN632 b1 x b3)⟩ ⟨Sub.refl _, Sub.refl _, trivial⟩ ⟨⟨_, rfl, SubB.refl _⟩, ⟨_, rfl, SubB.refl _⟩, trivial⟩ ?_
    refine awp_seq_k (fun K66 hK66 => ?_)
    refine awp_region [0, 1] (by rw [hc]; kernel_rfl) (by kernel_rfl) ?_
    refine seq_run (r := []) [0, 1] (s' := ⟨[(2, .ptr 2 b1 0), (4, .ptr 4 b3 0), (151, .ptr 2 b1 6)], (zN633 b1 x b3)⟩) (ps := [b1 = b1]) (by kernel_rfl) ⟨rfl, trivial⟩ ?_
    refine hK66 _ ?_
    try clear hK66 K66
    refine awp_less ⟨(zN623 b1 b3), (zN633 b1 x b3)⟩ ⟨Sub.refl _, Sub.refl _, trivial⟩ ⟨⟨_, rfl, SubB.refl _⟩, ⟨_, rfl, SubB.refl _⟩, trivial⟩ ?_
    refine awp_seq_k (fun K67 hK67 => ?_)
    refine awp_region [0, 1] (by rw [hc]; kernel_rfl) (by kernel_rfl) ?_
    refine seq_run (r := []) [0, 1] (s' := ⟨[(2, .ptr 2 b1 0), (4, .ptr 4 b3 0), (152, .ptr 2 b1 8)], (zN628 b1 x b3)⟩) (ps := [b1 = b1]) (by kernel_rfl) ⟨rfl, trivial⟩ ?_
    refine hK67 _ ?_
    try clear hK67 K67
    refine awp_less ⟨(zN623 b1 b3), (zN628 b1 x b3)⟩ ⟨Sub.refl _, Sub.refl _, trivial⟩ ⟨⟨_, rfl, SubB.refl _⟩, ⟨_, rfl, SubB.refl _⟩, trivial⟩ ?_
    refine awp_seq_k (fun K68 hK68 => ?_)
    refine awp_seq_k (fun K69 hK69 => ?_)
    refine awp_region [0, 1, 2, 3, 4, 5] (by rw [hc]; kernel_rfl) (by kernel_rfl) ?_
    refine seq_run (r := [5]) [0, 1, 2, 3, 4] (s' := ⟨[(2, .ptr 2 b1 0), (4, .ptr 4 b3 0), (153, .ptr 2 b1 2), (154, aI (x.seq + 1)), (155, .ptr 2 b1 3), (156, .sl 1 false (x.jobs.map jobA)), (157, aI ((x.jobs.map jobA).length : Int))], (zN628 b1 x b3)⟩) (ps := [b1 = b1, b1 = b1]) (by kernel_rfl) ⟨rfl, rfl, trivial⟩ ?_
    refine seq_val (s' := ⟨[(2, .ptr 2 b1 0), (4, .ptr 4 b3 0), (153, .ptr 2 b1 2), (154, aI (x.seq + 1)), (155, .ptr 2 b1 3), (156, .sl 1 false (x.jobs.map jobA)), (157, aI (x.jobs.length : Int))], (zN628 b1 x b3)⟩) 157 (x := aI ((x.jobs.map jobA).length : Int)) (y := aI (x.jobs.length : Int)) (by rw [List.length_map]) (by kernel_rfl) (by kernel_rfl) ?_
    refine seq_run (r := []) [5] (s' := ⟨[(2, .ptr 2 b1 0), (4, .ptr 4 b3 0), (153, .ptr 2 b1 2), (154, aI (x.seq + 1)), (155, .ptr 2 b1 3), (156, .sl 1 false (x.jobs.map jobA)), (157, aI (x.jobs.length : Int)), (158, aB (decide ((x.seq + 1) > (x.jobs.length : Int))))], (zN628 b1 x b3)⟩) (ps := []) (by kernel_rfl) trivial ?_
    refine hK69 _ ?_
    try clear hK69 K69
    refine awp_less ⟨[(2, .ptr 2 b1 0), (4, .ptr 4 b3 0), (158, aB (decide ((x.seq + 1) > (x.jobs.length : Int))))], (zN628 b1 x b3)⟩ ⟨Sub.refl _, Sub.refl _, Sub.refl _, trivial⟩ ⟨⟨_, rfl, SubB.refl _⟩, ⟨_, rfl, SubB.refl _⟩, trivial⟩ ?_
    rcases decC ((x.seq + 1) > (x.jobs.length : Int)) with ⟨q29, p29⟩ | ⟨q29, p29⟩
    ·
      refine awp_if true (by omega) (by kernel_rfl) q29 ?_
      refine awp_region [0, 1] (by rw [hc]; kernel_rfl) (by kernel_rfl) ?_
      refine seq_run (r := []) [0, 1] (s' := ⟨[(2, .ptr 2 b1 0), (4, .ptr 4 b3 0), (158, aB (decide ((x.seq + 1) > (x.jobs.length : Int)))), (159, .ptr 2 b1 4)], [(2, .box b1 26 (zN617 x)), (4, .box b3 26 zN69)]⟩) (ps := [b1 = b1]) (by kernel_rfl) ⟨rfl, trivial⟩ ?_
      refine hK68 _ ?_
      try clear hK68 K68
      refine awp_less ⟨(zN623 b1 b3), [(2, .box b1 26 (zN617 x)), (4, .box b3 26 zN69)]⟩ ⟨Sub.refl _, Sub.refl _, trivial⟩ ⟨⟨_, rfl, SubB.refl _⟩, ⟨_, rfl, SubB.refl _⟩, trivial⟩ ?_
      refine awp_seq_k (fun K70 hK70 => ?_)
      refine awp_region [0, 1] (by rw [hc]; kernel_rfl) (by kernel_rfl) ?_
      refine seq_run (r := []) [0, 1] (s' := ⟨[(2, .ptr 2 b1 0), (4, .ptr 4 b3 0), (160, .agg (zN617 x))], [(2, .box b1 26 (zN617 x)), (4, .box b3 26 (zN617 x))]⟩) (ps := [b1 = b1, b3 = b3]) (by kernel_rfl) ⟨rfl, rfl, trivial⟩ ?_
      refine hK70 _ ?_
      try clear hK70 K70
      refine awp_less ⟨[(4, .ptr 4 b3 0)], [(4, .box b3 26 (zN617 x))]⟩ ⟨Sub.refl _, trivial⟩ ⟨⟨_, rfl, SubB.refl _⟩, trivial⟩ ?_
      refine awp_ret ?_
      refine fin_ret ⟨[b3 = b3], [.agg (zN617 x)], by kernel_rfl, ⟨rfl, trivial⟩, ?_⟩
      have hM : hearD x r = (⟨x.me, x.epoch, x.seq + 1, x.jobs, 4, 0, 0, x.told, []⟩ : Cli) := by
        have hk := say_kind q1
        have hm : meantD x r = true := by
          unfold meantD
          repeat (first | rw [if_pos (by first | assumption | omega)] | rw [if_neg (by first | assumption | omega | (rw [q1]; decide) | simp_all)])
          try first | rfl | (rw [asks_le hr]; simp; omega) | (simp; omega)
        unfold hearD begunD calledD decidedD ackD
        repeat (first | rw [if_pos (by first | assumption | omega)] | rw [if_neg (by first | assumption | omega | (rw [q1]; decide) | simp_all)])
        try rfl
      rw [hM]
      exact Sub.aggs ⟨Sub.refl _, Sub.refl _, Sub.refl _, Sub.refl _, Sub.refl _, Sub.refl _, Sub.refl _, Sub.refl _, Sub.nil _ _, trivial⟩
    refine awp_if false (by omega) (by kernel_rfl) q29 ?_
    refine awp_skip ?_
    refine hK68 _ ?_
    try clear hK68 K68
    refine awp_less ⟨(zN623 b1 b3), (zN628 b1 x b3)⟩ ⟨Sub.refl _, Sub.refl _, trivial⟩ ⟨⟨_, rfl, SubB.refl _⟩, ⟨_, rfl, SubB.refl _⟩, trivial⟩ ?_
    refine awp_seq_k (fun K71 hK71 => ?_)
    refine awp_region [0, 1] (by rw [hc]; kernel_rfl) (by kernel_rfl) ?_
    refine seq_run (r := []) [0, 1] (s' := ⟨[(2, .ptr 2 b1 0), (4, .ptr 4 b3 0), (160, .agg (zN613 x))], [(2, .box b1 26 (zN613 x)), (4, .box b3 26 (zN613 x))]⟩) (ps := [b1 = b1, b3 = b3]) (by kernel_rfl) ⟨rfl, rfl, trivial⟩ ?_
    refine hK71 _ ?_
    try clear hK71 K71
    refine awp_less ⟨[(4, .ptr 4 b3 0)], [(4, .box b3 26 (zN613 x))]⟩ ⟨Sub.refl _, trivial⟩ ⟨⟨_, rfl, SubB.refl _⟩, trivial⟩ ?_
    refine awp_ret ?_
    refine fin_ret ⟨[b3 = b3], [.agg (zN613 x)], by kernel_rfl, ⟨rfl, trivial⟩, ?_⟩
    have hM : hearD x r = (⟨x.me, x.epoch, x.seq + 1, x.jobs, 0, 0, 0, x.told, []⟩ : Cli) := by
      have hk := say_kind q1
      have hm : meantD x r = true := by
        unfold meantD
        repeat (first | rw [if_pos (by first | assumption | omega)] | rw [if_neg (by first | assumption | omega | (rw [q1]; decide) | simp_all)])
        try first | rfl | (rw [asks_le hr]; simp; omega) | (simp; omega)
      unfold hearD begunD calledD decidedD ackD
      repeat (first | rw [if_pos (by first | assumption | omega)] | rw [if_neg (by first | assumption | omega | (rw [q1]; decide) | simp_all)])
      try rfl
    rw [hM]
    exact Sub.aggs ⟨Sub.refl _, Sub.refl _, Sub.refl _, Sub.refl _, Sub.refl _, Sub.refl _, Sub.refl _, Sub.refl _, Sub.nil _ _, trivial⟩
  refine seq_bool (s' := ⟨[(2, .ptr 2 b1 0), (3, .ptr 3 b2 0), (4, .ptr 4 b3 0), (5, .ptr 5 b4 0), (6, aB ((sayD x).2)), (15, aB ((sayD x).2)), (16, aB (!((sayD x).2))), (17, aB true)], (zN61 b1 x b2 r b3 b4)⟩) 17 (b := !((sayD x).2)) (v := true) (show (!((sayD x).2)) = true from by rw [q1]; rfl) (by kernel_rfl) (by kernel_rfl) ?_
  refine seq_run (r := []) [3, 4, 5, 6, 7, 8, 9, 10, 11, 12, 13, 14, 15, 16, 17, 18, 19, 20, 21, 22] (s' := ⟨[(2, .ptr 2 b1 0), (3, .ptr 3 b2 0), (4, .ptr 4 b3 0), (5, .ptr 5 b4 0), (6, aB ((sayD x).2)), (15, aB ((sayD x).2)), (16, aB (!((sayD x).2))), (17, aB true), (18, .val undef), (19, .val undef), (20, .val undef), (21, .val undef), (22, .val undef), (23, aB true), (24, aB true), (25, .val undef), (26, .val undef), (27, .val undef), (28, .val undef), (29, .val undef), (30, aB true), (31, aB true), (32, .val undef), (33, .val undef), (34, .val undef), (35, .val undef), (36, .val undef), (37, aB true)], (zN61 b1 x b2 r b3 b4)⟩) (ps := []) (by kernel_rfl) trivial ?_
  refine hK4 _ ?_
  try clear hK4 K4
  refine awp_less (zN636 b1 b2 b3 b4 x r) ⟨Sub.refl _, Sub.refl _, Sub.refl _, Sub.refl _, Sub.refl _, trivial⟩ ⟨⟨_, rfl, SubB.refl _⟩, ⟨_, rfl, SubB.refl _⟩, ⟨_, rfl, SubB.refl _⟩, ⟨_, rfl, SubB.refl _⟩, trivial⟩ ?_
  refine awp_if true (by omega) (by kernel_rfl) rfl ?_
  refine awp_seq_k (fun K72 hK72 => ?_)
  refine awp_region [0, 1] (by rw [hc]; kernel_rfl) (by kernel_rfl) ?_
  refine seq_run (r := []) [0, 1] (s' := (zN629 b1 b2 b3 b4 x r)) (ps := [b1 = b1, b3 = b3]) (by kernel_rfl) ⟨rfl, rfl, trivial⟩ ?_
  refine hK72 _ ?_
  try clear hK72 K72
  refine awp_less ⟨(zN621 b1 b2 b3 b4), (zN616 b1 x b2 r b3 b4)⟩ ⟨Sub.refl _, Sub.refl _, Sub.refl _, Sub.refl _, trivial⟩ ⟨⟨_, rfl, SubB.refl _⟩, ⟨_, rfl, SubB.refl _⟩, ⟨_, rfl, SubB.refl _⟩, ⟨_, rfl, SubB.refl _⟩, trivial⟩ ?_
  refine awp_ret ?_
  refine fin_ret ⟨[b3 = b3], [.agg (zN62 x)], by kernel_rfl, ⟨rfl, trivial⟩, ?_⟩
  have hM : hearD x r = x := by
    have hm : meantD x r = false := by
      unfold meantD
      repeat' split
      all_goals first | rfl | omega | (rw [asks_le hr]; simp; omega) | (simp; omega) | simp_all
    unfold hearD begunD calledD decidedD ackD
    repeat (first | rw [if_pos (by first | assumption | omega)] | rw [if_neg (by first | assumption | omega | (rw [q1]; decide) | simp_all)])
    try rfl
  rw [hM]
  exact Sub.refl _
end Go.Proofs.Ytpdedjbkfcaebaa
