/- The law ClientOthers over data. -/
import Derived.Test.YtpdedjbkfcaebaaCliN9
import Derived.Test.YtpdedjbkfcaebaaAbs14
set_option linter.unusedVariables false
set_option linter.unusedSimpArgs false
namespace Go.Proofs.Ytpdedjbkfcaebaa
open Go.RowKit Copyhold
def zOthers1 (x : Cli) (r : Rsp) : List AV := [aI ((hearD x r).me), aI ((hearD x r).epoch), aI ((hearD x r).seq), .sl 1 false ((hearD x r).jobs.map jobA), aI ((hearD x r).phase), aI ((hearD x r).n), aI ((hearD x r).stamp), .sl 4 false ((hearD x r).told.map donA), .sl 6 false ((hearD x r).now.map repA)]
def zOthers2 (x : Cli) (r : Rsp) : List AV := [aI ((hearD (hearD x r) r).me), aI ((hearD (hearD x r) r).epoch), aI ((hearD (hearD x r) r).seq), .sl 1 false ((hearD (hearD x r) r).jobs.map jobA), aI ((hearD (hearD x r) r).phase), aI ((hearD (hearD x r) r).n), aI ((hearD (hearD x r) r).stamp), .sl 4 false ((hearD (hearD x r) r).told.map donA), .sl 6 false ((hearD (hearD x r) r).now.map repA)]
def zOthers3 (x : Cli) (r : Rsp) : List AV := [aI ((sayD (hearD x r)).1.kind), aI ((sayD (hearD x r)).1.client), aI ((sayD (hearD x r)).1.epoch), aI ((sayD (hearD x r)).1.seq), aI ((sayD (hearD x r)).1.n), aI ((sayD (hearD x r)).1.stamp), aI ((sayD (hearD x r)).1.c.kind), aI ((sayD (hearD x r)).1.c.ino), aI ((sayD (hearD x r)).1.c.dest), aI ((sayD (hearD x r)).1.c.pos), aI ((sayD (hearD x r)).1.c.many), aS ((sayD (hearD x r)).1.c.name), aS ((sayD (hearD x r)).1.c.name2), aS ((sayD (hearD x r)).1.c.text)]
def zOthers4 (r : Rsp) : List AV := [aI r.kind, aI r.client, aI r.epoch, aI r.seq, aI r.n, aI r.r.e, aI r.r.a, aI r.r.b, aI r.r.n, aS r.r.t, .sl 1 false (r.r.ns.map txA)]
def zOthers5 (x : Cli) : List AV := [aI x.me, aI x.epoch, aI x.seq, .sl 1 false (x.jobs.map jobA), aI x.phase, aI x.n, aI x.stamp, .sl 4 false (x.told.map donA), .sl 6 false (x.now.map repA)]
def zOthers6 (b1 : Nat) (x : Cli) (b2 : Nat) (r : Rsp) (b3 : Nat) : List (Nat × Bx) := [(2, .box b1 26 (zOthers5 x)), (3, .box b2 32 (zOthers4 r)), (7, .box b3 26 (zOthers1 x r))]
def zOthers7 (b1 : Nat) (x : Cli) (b2 : Nat) (r : Rsp) : List (Nat × Bx) := [(2, .box b1 26 (zOthers5 x)), (3, .box b2 32 (zOthers4 r))]
def zOthers8 (x : Cli) (r : Rsp) : List AV := [.agg (zOthers3 x r), aB ((sayD (hearD x r)).2)]
def zOthers9 (b2 : Nat) (r : Rsp) (b3 : Nat) (x : Cli) : List (Nat × Bx) := [(3, .box b2 32 (zOthers4 r)), (7, .box b3 26 (zOthers1 x r))]
def zOthers10 (b2 : Nat) (r : Rsp) (b3 : Nat) (x : Cli) (b10 : Nat) (b11 : Nat) : List (Nat × Bx) := [(3, .box b2 32 (zOthers4 r)), (7, .box b3 26 (zOthers1 x r)), (8, .box b10 26 (zOthers2 x r)), (9, .box b11 38 (zOthers3 x r))]
def zOthers11 (b2 : Nat) (r : Rsp) (b3 : Nat) (x : Cli) (b4 : Nat) (b5 : Nat) : List (Nat × Bx) := [(3, .box b2 32 (zOthers4 r)), (7, .box b3 26 (zOthers1 x r)), (8, .box b4 26 (zOthers2 x r)), (9, .box b5 38 (zOthers3 x r))]
def zOthers12 (b2 : Nat) (r : Rsp) (b3 : Nat) (x : Cli) (b6 : Nat) (b7 : Nat) : List (Nat × Bx) := [(3, .box b2 32 (zOthers4 r)), (7, .box b3 26 (zOthers1 x r)), (8, .box b6 26 (zOthers2 x r)), (9, .box b7 38 (zOthers3 x r))]
def zOthers13 (b2 : Nat) (r : Rsp) (b3 : Nat) (x : Cli) (b8 : Nat) (b9 : Nat) : List (Nat × Bx) := [(3, .box b2 32 (zOthers4 r)), (7, .box b3 26 (zOthers1 x r)), (8, .box b8 26 (zOthers2 x r)), (9, .box b9 38 (zOthers3 x r))]
def zOthers14 (b2 : Nat) (b3 : Nat) (x : Cli) (r : Rsp) : LS := ⟨[(3, .ptr 3 b2 0), (4, aB false), (5, aB true), (7, .ptr 7 b3 0), (52, .agg (zOthers1 x r)), (53, .agg (zOthers4 r)), (54, .agg (zOthers2 x r))], (zOthers9 b2 r b3 x)⟩
def zOthers15 : List Nat := [6, 7, 8, 9, 10, 11, 12, 13, 14, 15, 16, 17, 18, 19, 20, 21, 22, 23]
def zOthers16 (b2 : Nat) (b3 : Nat) (x : Cli) (r : Rsp) : LS := ⟨[(3, .ptr 3 b2 0), (4, aB false), (5, aB true), (7, .ptr 7 b3 0), (52, .agg (zOthers1 x r)), (53, .agg (zOthers4 r))], (zOthers9 b2 r b3 x)⟩
def zOthers17 : List AV := [aI 0, aI 0, aI 0, aI 0, aI 0, aI 0, aI 0, aI 0, aI 0, aI 0, aI 0, aS ([]), aS ([]), aS ([])]
def zOthers18 : List Nat := [0, 1, 2, 3, 4, 5, 6, 7, 8, 9, 10, 11, 12, 13, 14, 15, 16, 17, 18, 19, 20, 21, 22, 23]
def zOthers19 (b2 : Nat) (r : Rsp) (b3 : Nat) (x : Cli) (b10 : Nat) : List (Nat × Bx) := [(3, .box b2 32 (zOthers4 r)), (7, .box b3 26 (zOthers1 x r)), (8, .box b10 26 (zOthers2 x r))]
def zOthers20 (b2 : Nat) (r : Rsp) (b3 : Nat) (x : Cli) (b4 : Nat) : List (Nat × Bx) := [(3, .box b2 32 (zOthers4 r)), (7, .box b3 26 (zOthers1 x r)), (8, .box b4 26 (zOthers2 x r))]
def zOthers21 (b2 : Nat) (r : Rsp) (b3 : Nat) (x : Cli) (b6 : Nat) : List (Nat × Bx) := [(3, .box b2 32 (zOthers4 r)), (7, .box b3 26 (zOthers1 x r)), (8, .box b6 26 (zOthers2 x r))]
def zOthers22 (b2 : Nat) (r : Rsp) (b3 : Nat) (x : Cli) (b8 : Nat) : List (Nat × Bx) := [(3, .box b2 32 (zOthers4 r)), (7, .box b3 26 (zOthers1 x r)), (8, .box b8 26 (zOthers2 x r))]
def zOthers23 : List Nat := [4, 5, 6, 7, 8, 9, 10, 11, 12, 13, 14, 15, 16, 17, 18, 19, 20, 21, 22, 23]
def zOthers24 (b2 : Nat) (b3 : Nat) (x : Cli) (r : Rsp) : LS := ⟨[(3, .ptr 3 b2 0), (4, aB false), (5, aB true), (7, .ptr 7 b3 0), (51, aB (!(decide ((hearD x r) = x))))], (zOthers9 b2 r b3 x)⟩
def zOthers25 (b2 : Nat) (b3 : Nat) (r : Rsp) (x : Cli) : LS := ⟨[(3, .ptr 3 b2 0), (4, aB false), (5, aB true), (7, .ptr 7 b3 0)], (zOthers9 b2 r b3 x)⟩
def zOthers26 (x : Cli) (r : Rsp) : List AV := [.agg (zOthers2 x r), .agg (zOthers1 x r)]
def zOthers27 : List AV := [aI 0, aI 0, aI 0, aN, aI 0, aI 0, aI 0, aN, aN]
def zOthers28 (x : Cli) (r : Rsp) : List AV := [.agg (zOthers1 x r), .agg (zOthers4 r)]
set_option maxRecDepth 100000 in
set_option maxHeartbeats 4000000 in
theorem clientOthers_spec (x : Cli) (r : Rsp) (ok : OkX x) (okr : OkRsp r) : FSpec Try.prog 6 [.agg [aI x.me, aI x.epoch, aI x.seq, .sl 1 false (x.jobs.map jobA), aI x.phase, aI x.n, aI x.stamp, .sl 4 false (x.told.map donA), .sl 6 false (x.now.map repA)], .agg [aI r.kind, aI r.client, aI r.epoch, aI r.seq, aI r.n, aI r.r.e, aI r.r.a, aI r.r.b, aI r.r.n, aS r.r.t, .sl 1 false (r.r.ns.map txA)]] (aB true) := by
  refine spec_enter ⟨[(0, .agg (zOthers5 x)), (1, .agg (zOthers4 r))], []⟩ Try.func6 rfl (by kernel_rfl) (by kernel_rfl) rfl (fun t => match t with | 0 => rfl | 1 => rfl | _ + 2 => rfl) (fun c hc => ?_)
  replace hc : c.n = 83 := hc
  refine awp_seq_k (fun K1 hK1 => ?_)
  refine awp_region [0, 1, 2] (by rw [hc]; kernel_rfl) (by kernel_rfl) ?_
  refine seq_new (f := fun b1 => ⟨[(0, .agg (zOthers5 x)), (1, .agg (zOthers4 r)), (2, .ptr 2 b1 0)], [(2, .box b1 26 (zOthers5 x))]⟩) (by kernel_rfl) (fun b1 => ?_)
  refine seq_new (f := fun b2 => ⟨[(0, .agg (zOthers5 x)), (1, .agg (zOthers4 r)), (2, .ptr 2 b1 0), (3, .ptr 3 b2 0)], (zOthers7 b1 x b2 r)⟩) (by kernel_rfl) (fun b2 => ?_)
  refine seq_run (r := []) [2] (s' := ⟨[(0, .agg (zOthers5 x)), (1, .agg (zOthers4 r)), (2, .ptr 2 b1 0), (3, .ptr 3 b2 0), (4, aB false)], (zOthers7 b1 x b2 r)⟩) (ps := []) (by kernel_rfl) trivial ?_
  refine hK1 _ ?_
  try clear hK1 K1
  refine awp_less ⟨[(2, .ptr 2 b1 0), (3, .ptr 3 b2 0), (4, aB false)], (zOthers7 b1 x b2 r)⟩ ⟨Sub.refl _, Sub.refl _, Sub.refl _, trivial⟩ ⟨⟨_, rfl, SubB.refl _⟩, ⟨_, rfl, SubB.refl _⟩, trivial⟩ ?_
  refine awp_seq_k (fun K2 hK2 => ?_)
  refine awp_region [0, 1] (by rw [hc]; kernel_rfl) (by kernel_rfl) ?_
  refine seq_call (f := 10) (args := []) (d := some 11) (args' := []) (s' := ⟨[(2, .ptr 2 b1 0), (3, .ptr 3 b2 0), (4, aB false), (11, aB true)], (zOthers7 b1 x b2 r)⟩) (by kernel_rfl) (fun _ _ => rfl) trivial (shown_spec) (by kernel_rfl) ?_
  refine seq_run (r := []) [1] (s' := ⟨[(2, .ptr 2 b1 0), (3, .ptr 3 b2 0), (4, aB false), (11, aB true), (5, aB true)], (zOthers7 b1 x b2 r)⟩) (ps := []) (by kernel_rfl) trivial ?_
  refine hK2 _ ?_
  try clear hK2 K2
  refine awp_less ⟨[(2, .ptr 2 b1 0), (3, .ptr 3 b2 0), (4, aB false), (5, aB true)], (zOthers7 b1 x b2 r)⟩ ⟨Sub.refl _, Sub.refl _, Sub.refl _, Sub.refl _, trivial⟩ ⟨⟨_, rfl, SubB.refl _⟩, ⟨_, rfl, SubB.refl _⟩, trivial⟩ ?_
  refine awp_seq_k (fun K3 hK3 => ?_)
  refine awp_region [0, 1, 2] (by rw [hc]; kernel_rfl) (by kernel_rfl) ?_
  refine seq_run (r := [1, 2]) [0] (s' := ⟨[(2, .ptr 2 b1 0), (3, .ptr 3 b2 0), (4, aB false), (5, aB true), (12, .agg (zOthers5 x))], (zOthers7 b1 x b2 r)⟩) (ps := [b1 = b1]) (by kernel_rfl) ⟨rfl, trivial⟩ ?_
  refine seq_call (f := 11) (args := [.agg (zOthers5 x)]) (d := some 13) (args' := [.agg (zOthers5 x)]) (s' := ⟨[(2, .ptr 2 b1 0), (3, .ptr 3 b2 0), (4, aB false), (5, aB true), (12, .agg (zOthers5 x)), (13, aB (goodB x))], (zOthers7 b1 x b2 r)⟩) (by kernel_rfl) (fun _ _ => rfl) ⟨Sub.refl _, trivial⟩ (good_spec x ok) (by kernel_rfl) ?_
  refine seq_run (r := []) [2] (s' := ⟨[(2, .ptr 2 b1 0), (3, .ptr 3 b2 0), (4, aB false), (5, aB true), (12, .agg (zOthers5 x)), (13, aB (goodB x)), (6, aB (goodB x))], (zOthers7 b1 x b2 r)⟩) (ps := []) (by kernel_rfl) trivial ?_
  refine hK3 _ ?_
  try clear hK3 K3
  refine awp_less ⟨[(2, .ptr 2 b1 0), (3, .ptr 3 b2 0), (4, aB false), (5, aB true), (6, aB (goodB x))], (zOthers7 b1 x b2 r)⟩ ⟨Sub.refl _, Sub.refl _, Sub.refl _, Sub.refl _, Sub.refl _, trivial⟩ ⟨⟨_, rfl, SubB.refl _⟩, ⟨_, rfl, SubB.refl _⟩, trivial⟩ ?_
  refine awp_seq_k (fun K4 hK4 => ?_)
  refine awp_seq_k (fun K5 hK5 => ?_)
  refine awp_region [0, 1, 2, 3, 4, 5, 6, 7, 8] (by rw [hc]; kernel_rfl) (by kernel_rfl) ?_
  refine seq_run (r := [3, 4, 5, 6, 7, 8]) [0, 1, 2] (s' := ⟨[(2, .ptr 2 b1 0), (3, .ptr 3 b2 0), (4, aB false), (5, aB true), (6, aB (goodB x)), (14, aB (goodB x)), (15, aB (!(goodB x))), (16, aB (!(goodB x)))], (zOthers7 b1 x b2 r)⟩) (ps := []) (by kernel_rfl) trivial ?_
  rcases boolC (goodB x) with ⟨q1, p1⟩ | ⟨q1, p1⟩
  ·
    have hF : Fit 40 x := few_fit ok q1
    have hsx := hF.seq
    have hnx := hF.n
    have hfx := hF.2.2
    have htx := hear_told x r
    have hmx := hear_me x r
    refine seq_bool (s' := ⟨[(2, .ptr 2 b1 0), (3, .ptr 3 b2 0), (4, aB false), (5, aB true), (6, aB (goodB x)), (14, aB (goodB x)), (15, aB (!(goodB x))), (16, aB false)], (zOthers7 b1 x b2 r)⟩) 16 (b := !(goodB x)) (v := false) (show (!(goodB x)) = false from by rw [q1]; rfl) (by kernel_rfl) (by kernel_rfl) ?_
    refine seq_run (r := [7, 8]) [3, 4, 5, 6] (s' := ⟨[(2, .ptr 2 b1 0), (3, .ptr 3 b2 0), (4, aB false), (5, aB true), (6, aB (goodB x)), (14, aB (goodB x)), (15, aB (!(goodB x))), (16, aB false), (17, .ptr 3 b2 5), (18, .ptr 3 b2 10), (19, .sl 1 false (r.r.ns.map txA)), (20, aI ((r.r.ns.map txA).length : Int))], (zOthers7 b1 x b2 r)⟩) (ps := [b2 = b2]) (by kernel_rfl) ⟨rfl, trivial⟩ ?_
    refine seq_val (s' := ⟨[(2, .ptr 2 b1 0), (3, .ptr 3 b2 0), (4, aB false), (5, aB true), (6, aB (goodB x)), (14, aB (goodB x)), (15, aB (!(goodB x))), (16, aB false), (17, .ptr 3 b2 5), (18, .ptr 3 b2 10), (19, .sl 1 false (r.r.ns.map txA)), (20, aI (r.r.ns.length : Int))], (zOthers7 b1 x b2 r)⟩) 20 (x := aI ((r.r.ns.map txA).length : Int)) (y := aI (r.r.ns.length : Int)) (by rw [List.length_map]) (by kernel_rfl) (by kernel_rfl) ?_
    refine seq_run (r := []) [7, 8] (s' := ⟨[(2, .ptr 2 b1 0), (3, .ptr 3 b2 0), (4, aB false), (5, aB true), (6, aB (goodB x)), (14, aB (goodB x)), (15, aB (!(goodB x))), (16, aB false), (17, .ptr 3 b2 5), (18, .ptr 3 b2 10), (19, .sl 1 false (r.r.ns.map txA)), (20, aI (r.r.ns.length : Int)), (21, aB (decide ((r.r.ns.length : Int) > 100))), (22, aB (decide ((r.r.ns.length : Int) > 100)))], (zOthers7 b1 x b2 r)⟩) (ps := []) (by kernel_rfl) trivial ?_
    refine hK5 _ ?_
    try clear hK5 K5
    refine awp_less ⟨[(2, .ptr 2 b1 0), (3, .ptr 3 b2 0), (4, aB false), (5, aB true), (22, aB (decide ((r.r.ns.length : Int) > 100)))], (zOthers7 b1 x b2 r)⟩ ⟨Sub.refl _, Sub.refl _, Sub.refl _, Sub.refl _, Sub.refl _, trivial⟩ ⟨⟨_, rfl, SubB.refl _⟩, ⟨_, rfl, SubB.refl _⟩, trivial⟩ ?_
    rcases decC ((r.r.ns.length : Int) > 100) with ⟨q2, p2⟩ | ⟨q2, p2⟩
    ·
      refine awp_if true (by omega) (by kernel_rfl) q2 ?_
      refine awp_seq_k (fun K6 hK6 => ?_)
      refine awp_region [0, 1] (by rw [hc]; kernel_rfl) (by kernel_rfl) ?_
      refine seq_run (r := []) [0, 1] (s' := ⟨[(2, .ptr 2 b1 0), (3, .ptr 3 b2 0), (4, aB true), (5, aB true), (22, aB (decide ((r.r.ns.length : Int) > 100))), (23, aB true)], (zOthers7 b1 x b2 r)⟩) (ps := []) (by kernel_rfl) trivial ?_
      refine hK6 _ ?_
      try clear hK6 K6
      refine awp_less ⟨[(2, .ptr 2 b1 0), (3, .ptr 3 b2 0), (4, aB true), (5, aB true)], (zOthers7 b1 x b2 r)⟩ ⟨Sub.refl _, Sub.refl _, Sub.refl _, Sub.refl _, trivial⟩ ⟨⟨_, rfl, SubB.refl _⟩, ⟨_, rfl, SubB.refl _⟩, trivial⟩ ?_
      refine awp_ret ?_
      refine fin_ret ⟨[], [aB true], by kernel_rfl, trivial, ?_⟩
      exact Sub.of_eq (by first | rfl | (simp [resOf]; done) | (simp [resOf]; omega))
    refine awp_if false (by omega) (by kernel_rfl) q2 ?_
    refine awp_skip ?_
    refine hK4 _ ?_
    try clear hK4 K4
    refine awp_less ⟨[(2, .ptr 2 b1 0), (3, .ptr 3 b2 0), (4, aB false), (5, aB true)], (zOthers7 b1 x b2 r)⟩ ⟨Sub.refl _, Sub.refl _, Sub.refl _, Sub.refl _, trivial⟩ ⟨⟨_, rfl, SubB.refl _⟩, ⟨_, rfl, SubB.refl _⟩, trivial⟩ ?_
    refine awp_seq_k (fun K7 hK7 => ?_)
    refine awp_region [0, 1, 2, 3, 4] (by rw [hc]; kernel_rfl) (by kernel_rfl) ?_
    refine seq_run (r := [2, 3, 4]) [0, 1] (s' := ⟨[(2, .ptr 2 b1 0), (3, .ptr 3 b2 0), (4, aB false), (5, aB true), (24, .agg (zOthers5 x)), (25, .agg (zOthers4 r))], (zOthers7 b1 x b2 r)⟩) (ps := [b1 = b1, b2 = b2]) (by kernel_rfl) ⟨rfl, rfl, trivial⟩ ?_
    refine seq_call (f := 17) (args := [.agg (zOthers5 x), .agg (zOthers4 r)]) (d := some 26) (args' := [.agg (zOthers5 x), .agg (zOthers4 r)]) (s' := ⟨[(2, .ptr 2 b1 0), (3, .ptr 3 b2 0), (4, aB false), (5, aB true), (24, .agg (zOthers5 x)), (25, .agg (zOthers4 r)), (26, .agg (zOthers1 x r))], (zOthers7 b1 x b2 r)⟩) (by kernel_rfl) (fun _ _ => rfl) ⟨Sub.refl _, Sub.refl _, trivial⟩ (fhear_spec (few_fit ok (by assumption)) (by omega)) (by kernel_rfl) ?_
    refine seq_new (f := fun b3 => ⟨[(2, .ptr 2 b1 0), (3, .ptr 3 b2 0), (4, aB false), (5, aB true), (24, .agg (zOthers5 x)), (25, .agg (zOthers4 r)), (26, .agg (zOthers1 x r)), (7, .ptr 7 b3 0)], [(2, .box b1 26 (zOthers5 x)), (3, .box b2 32 (zOthers4 r)), (7, .box b3 26 zOthers27)]⟩) (by kernel_rfl) (fun b3 => ?_)
    refine seq_run (r := []) [4] (s' := ⟨[(2, .ptr 2 b1 0), (3, .ptr 3 b2 0), (4, aB false), (5, aB true), (24, .agg (zOthers5 x)), (25, .agg (zOthers4 r)), (26, .agg (zOthers1 x r)), (7, .ptr 7 b3 0)], (zOthers6 b1 x b2 r b3)⟩) (ps := [b3 = b3]) (by kernel_rfl) ⟨rfl, trivial⟩ ?_
    refine hK7 _ ?_
    try clear hK7 K7
    refine awp_less ⟨[(2, .ptr 2 b1 0), (3, .ptr 3 b2 0), (4, aB false), (5, aB true), (7, .ptr 7 b3 0)], (zOthers6 b1 x b2 r b3)⟩ ⟨Sub.refl _, Sub.refl _, Sub.refl _, Sub.refl _, Sub.refl _, trivial⟩ ⟨⟨_, rfl, SubB.refl _⟩, ⟨_, rfl, SubB.refl _⟩, ⟨_, rfl, SubB.refl _⟩, trivial⟩ ?_
    refine awp_seq_k (fun K8 hK8 => ?_)
    refine awp_seq_k (fun K9 hK9 => ?_)
    refine awp_region [0, 1, 2, 3, 4, 5, 6, 7, 8, 9, 10, 11, 12, 13, 14, 15, 16, 17, 18, 19, 20, 21, 22, 23, 24] (by rw [hc]; kernel_rfl) (by kernel_rfl) ?_
    refine seq_run (r := [6, 7, 8, 9, 10, 11, 12, 13, 14, 15, 16, 17, 18, 19, 20, 21, 22, 23, 24]) [0, 1, 2, 3, 4, 5] (s' := ⟨[(2, .ptr 2 b1 0), (3, .ptr 3 b2 0), (4, aB false), (5, aB true), (7, .ptr 7 b3 0), (27, .ptr 3 b2 1), (28, aI r.client), (29, .ptr 2 b1 0), (30, aI x.me), (31, aB (r.client != x.me)), (32, aB (r.client != x.me))], (zOthers6 b1 x b2 r b3)⟩) (ps := [b2 = b2, b1 = b1]) (by kernel_rfl) ⟨rfl, rfl, trivial⟩ ?_
    rcases bneC (r.client) (x.me) with ⟨q3, p3⟩ | ⟨q3, p3⟩
    ·
      refine seq_bool (s' := ⟨[(2, .ptr 2 b1 0), (3, .ptr 3 b2 0), (4, aB false), (5, aB true), (7, .ptr 7 b3 0), (27, .ptr 3 b2 1), (28, aI r.client), (29, .ptr 2 b1 0), (30, aI x.me), (31, aB (r.client != x.me)), (32, aB true)], (zOthers6 b1 x b2 r b3)⟩) 32 (b := r.client != x.me) (v := true) q3 (by kernel_rfl) (by kernel_rfl) ?_
      refine seq_run (r := [22, 23, 24]) [6, 7, 8, 9, 10, 11, 12, 13, 14, 15, 16, 17, 18, 19, 20, 21] (s' := ⟨[(2, .ptr 2 b1 0), (3, .ptr 3 b2 0), (4, aB false), (5, aB true), (7, .ptr 7 b3 0), (27, .ptr 3 b2 1), (28, aI r.client), (29, .ptr 2 b1 0), (30, aI x.me), (31, aB (r.client != x.me)), (32, aB true), (33, .val undef), (34, .val undef), (35, .val undef), (36, .val undef), (37, .val undef), (38, aB true), (39, aB true), (40, .val undef), (41, .val undef), (42, .val undef), (43, .val undef), (44, .val undef), (45, aB true), (46, aB true), (47, .agg (zOthers1 x r)), (48, .agg (zOthers5 x))], (zOthers6 b1 x b2 r b3)⟩) (ps := [b3 = b3, b1 = b1]) (by kernel_rfl) ⟨rfl, rfl, trivial⟩ ?_
      refine seq_call (f := 16) (args := [.agg (zOthers1 x r), .agg (zOthers5 x)]) (d := some 49) (args' := [.agg (zOthers1 x r), .agg (zOthers5 x)]) (s' := ⟨[(2, .ptr 2 b1 0), (3, .ptr 3 b2 0), (4, aB false), (5, aB true), (7, .ptr 7 b3 0), (27, .ptr 3 b2 1), (28, aI r.client), (29, .ptr 2 b1 0), (30, aI x.me), (31, aB (r.client != x.me)), (32, aB true), (33, .val undef), (34, .val undef), (35, .val undef), (36, .val undef), (37, .val undef), (38, aB true), (39, aB true), (40, .val undef), (41, .val undef), (42, .val undef), (43, .val undef), (44, .val undef), (45, aB true), (46, aB true), (47, .agg (zOthers1 x r)), (48, .agg (zOthers5 x)), (49, aB (decide ((hearD x r) = x)))], (zOthers6 b1 x b2 r b3)⟩) (by kernel_rfl) (fun _ _ => rfl) ⟨Sub.refl _, Sub.refl _, trivial⟩ (rsame_spec (hearD x r) x (hear_fit (few_fit ok (by assumption)) (by omega) okr).1 ok) (by kernel_rfl) ?_
      refine seq_run (r := []) [23, 24] (s' := ⟨[(2, .ptr 2 b1 0), (3, .ptr 3 b2 0), (4, aB false), (5, aB true), (7, .ptr 7 b3 0), (27, .ptr 3 b2 1), (28, aI r.client), (29, .ptr 2 b1 0), (30, aI x.me), (31, aB (r.client != x.me)), (32, aB true), (33, .val undef), (34, .val undef), (35, .val undef), (36, .val undef), (37, .val undef), (38, aB true), (39, aB true), (40, .val undef), (41, .val undef), (42, .val undef), (43, .val undef), (44, .val undef), (45, aB true), (46, aB true), (47, .agg (zOthers1 x r)), (48, .agg (zOthers5 x)), (49, aB (decide ((hearD x r) = x))), (50, aB (!(decide ((hearD x r) = x)))), (51, aB (!(decide ((hearD x r) = x))))], (zOthers6 b1 x b2 r b3)⟩) (ps := []) (by kernel_rfl) trivial ?_
      refine hK9 _ ?_
      try clear hK9 K9
      refine awp_less (zOthers24 b2 b3 x r) ⟨Sub.refl _, Sub.refl _, Sub.refl _, Sub.refl _, Sub.refl _, trivial⟩ ⟨⟨_, rfl, SubB.refl _⟩, ⟨_, rfl, SubB.refl _⟩, trivial⟩ ?_
      refine awp_if false (by omega) (by kernel_rfl) (show (!(decide ((hearD x r) = x))) = false from by rw [(show (decide ((hearD x r) = x)) = true from (decide_eq_true (hear_other (by omega))))]; rfl) ?_
      refine awp_skip ?_
      refine hK8 _ ?_
      try clear hK8 K8
      refine awp_less (zOthers25 b2 b3 r x) ⟨Sub.refl _, Sub.refl _, Sub.refl _, Sub.refl _, trivial⟩ ⟨⟨_, rfl, SubB.refl _⟩, ⟨_, rfl, SubB.refl _⟩, trivial⟩ ?_
      refine awp_seq_k (fun K10 hK10 => ?_)
      refine awp_region [0, 1, 2, 3, 4] (by rw [hc]; kernel_rfl) (by kernel_rfl) ?_
      refine seq_run (r := [2, 3, 4]) [0, 1] (s' := (zOthers16 b2 b3 x r)) (ps := [b3 = b3, b2 = b2]) (by kernel_rfl) ⟨rfl, rfl, trivial⟩ ?_
      refine seq_call (f := 17) (args := (zOthers28 x r)) (d := some 54) (args' := (zOthers28 x r)) (s' := (zOthers14 b2 b3 x r)) (by kernel_rfl) (fun _ _ => rfl) ⟨Sub.refl _, Sub.refl _, trivial⟩ (fhear_spec (hear_fit (few_fit ok (by assumption)) (by omega) okr) (by omega)) (by kernel_rfl) ?_
      refine seq_new (f := fun b4 => ⟨[(3, .ptr 3 b2 0), (4, aB false), (5, aB true), (7, .ptr 7 b3 0), (52, .agg (zOthers1 x r)), (53, .agg (zOthers4 r)), (54, .agg (zOthers2 x r)), (8, .ptr 8 b4 0)], [(3, .box b2 32 (zOthers4 r)), (7, .box b3 26 (zOthers1 x r)), (8, .box b4 26 zOthers27)]⟩) (by kernel_rfl) (fun b4 => ?_)
      refine seq_run (r := []) [4] (s' := ⟨[(3, .ptr 3 b2 0), (4, aB false), (5, aB true), (7, .ptr 7 b3 0), (52, .agg (zOthers1 x r)), (53, .agg (zOthers4 r)), (54, .agg (zOthers2 x r)), (8, .ptr 8 b4 0)], (zOthers20 b2 r b3 x b4)⟩) (ps := [b4 = b4]) (by kernel_rfl) ⟨rfl, trivial⟩ ?_
      refine hK10 _ ?_
      try clear hK10 K10
      refine awp_less ⟨[(3, .ptr 3 b2 0), (4, aB false), (5, aB true), (7, .ptr 7 b3 0), (8, .ptr 8 b4 0)], (zOthers20 b2 r b3 x b4)⟩ ⟨Sub.refl _, Sub.refl _, Sub.refl _, Sub.refl _, Sub.refl _, trivial⟩ ⟨⟨_, rfl, SubB.refl _⟩, ⟨_, rfl, SubB.refl _⟩, ⟨_, rfl, SubB.refl _⟩, trivial⟩ ?_
      refine awp_seq_k (fun K11 hK11 => ?_)
      refine awp_region [0, 1, 2, 3, 4, 5, 6, 7] (by rw [hc]; kernel_rfl) (by kernel_rfl) ?_
      refine seq_run (r := [1, 2, 3, 4, 5, 6, 7]) [0] (s' := ⟨[(3, .ptr 3 b2 0), (4, aB false), (5, aB true), (7, .ptr 7 b3 0), (8, .ptr 8 b4 0), (56, .agg (zOthers1 x r))], (zOthers20 b2 r b3 x b4)⟩) (ps := [b3 = b3]) (by kernel_rfl) ⟨rfl, trivial⟩ ?_
      refine seq_call (f := 12) (args := [.agg (zOthers1 x r)]) (d := some 57) (args' := [.agg (zOthers1 x r)]) (s' := ⟨[(3, .ptr 3 b2 0), (4, aB false), (5, aB true), (7, .ptr 7 b3 0), (8, .ptr 8 b4 0), (56, .agg (zOthers1 x r)), (57, .tup (zOthers8 x r))], (zOthers20 b2 r b3 x b4)⟩) (by kernel_rfl) (fun _ _ => rfl) ⟨Sub.refl _, trivial⟩ (say_spec (hearD x r) (hear_fit (few_fit ok (by assumption)) (by omega) okr).1 (hear_fit (few_fit ok (by assumption)) (by omega) okr).2.1 (by have := (hear_fit (few_fit ok (by assumption)) (by omega) okr).2.2; omega)) (by kernel_rfl) ?_
      refine seq_run (r := [5, 6, 7]) [2, 3, 4] (s' := ⟨[(3, .ptr 3 b2 0), (4, aB false), (5, aB true), (7, .ptr 7 b3 0), (8, .ptr 8 b4 0), (56, .agg (zOthers1 x r)), (57, .tup (zOthers8 x r)), (55, .tup (zOthers8 x r)), (58, .agg (zOthers3 x r)), (59, aB ((sayD (hearD x r)).2))], (zOthers20 b2 r b3 x b4)⟩) (ps := []) (by kernel_rfl) trivial ?_
      refine seq_new (f := fun b5 => ⟨[(3, .ptr 3 b2 0), (4, aB false), (5, aB true), (7, .ptr 7 b3 0), (8, .ptr 8 b4 0), (56, .agg (zOthers1 x r)), (57, .tup (zOthers8 x r)), (55, .tup (zOthers8 x r)), (58, .agg (zOthers3 x r)), (59, aB ((sayD (hearD x r)).2)), (9, .ptr 9 b5 0)], [(3, .box b2 32 (zOthers4 r)), (7, .box b3 26 (zOthers1 x r)), (8, .box b4 26 (zOthers2 x r)), (9, .box b5 38 zOthers17)]⟩) (by kernel_rfl) (fun b5 => ?_)
      refine seq_run (r := []) [6, 7] (s' := ⟨[(3, .ptr 3 b2 0), (4, aB false), (5, aB true), (7, .ptr 7 b3 0), (8, .ptr 8 b4 0), (56, .agg (zOthers1 x r)), (57, .tup (zOthers8 x r)), (55, .tup (zOthers8 x r)), (58, .agg (zOthers3 x r)), (59, aB ((sayD (hearD x r)).2)), (9, .ptr 9 b5 0), (10, aB ((sayD (hearD x r)).2))], (zOthers11 b2 r b3 x b4 b5)⟩) (ps := [b5 = b5]) (by kernel_rfl) ⟨rfl, trivial⟩ ?_
      refine hK11 _ ?_
      try clear hK11 K11
      refine awp_less ⟨[(3, .ptr 3 b2 0), (4, aB false), (5, aB true), (7, .ptr 7 b3 0), (8, .ptr 8 b4 0), (9, .ptr 9 b5 0), (10, aB ((sayD (hearD x r)).2))], (zOthers11 b2 r b3 x b4 b5)⟩ ⟨Sub.refl _, Sub.refl _, Sub.refl _, Sub.refl _, Sub.refl _, Sub.refl _, Sub.refl _, trivial⟩ ⟨⟨_, rfl, SubB.refl _⟩, ⟨_, rfl, SubB.refl _⟩, ⟨_, rfl, SubB.refl _⟩, ⟨_, rfl, SubB.refl _⟩, trivial⟩ ?_
      refine awp_seq_k (fun K12 hK12 => ?_)
      refine awp_region zOthers18 (by rw [hc]; kernel_rfl) (by kernel_rfl) ?_
      refine seq_run (r := zOthers23) [0, 1, 2, 3] (s' := ⟨[(3, .ptr 3 b2 0), (4, aB false), (5, aB true), (7, .ptr 7 b3 0), (8, .ptr 8 b4 0), (9, .ptr 9 b5 0), (10, aB ((sayD (hearD x r)).2)), (60, aB true), (61, aB true), (62, .agg (zOthers2 x r)), (63, .agg (zOthers1 x r))], (zOthers11 b2 r b3 x b4 b5)⟩) (ps := [b4 = b4, b3 = b3]) (by kernel_rfl) ⟨rfl, rfl, trivial⟩ ?_
      refine seq_call (f := 16) (args := (zOthers26 x r)) (d := some 64) (args' := (zOthers26 x r)) (s' := ⟨[(3, .ptr 3 b2 0), (4, aB false), (5, aB true), (7, .ptr 7 b3 0), (8, .ptr 8 b4 0), (9, .ptr 9 b5 0), (10, aB ((sayD (hearD x r)).2)), (60, aB true), (61, aB true), (62, .agg (zOthers2 x r)), (63, .agg (zOthers1 x r)), (64, aB (decide ((hearD (hearD x r) r) = (hearD x r))))], (zOthers11 b2 r b3 x b4 b5)⟩) (by kernel_rfl) (fun _ _ => rfl) ⟨Sub.refl _, Sub.refl _, trivial⟩ (rsame_spec (hearD (hearD x r) r) (hearD x r) (hear_fit (hear_fit (few_fit ok (by assumption)) (by omega) okr) (by omega) okr).1 (hear_fit (few_fit ok (by assumption)) (by omega) okr).1) (by kernel_rfl) ?_
      refine seq_run (r := zOthers15) [5] (s' := ⟨[(3, .ptr 3 b2 0), (4, aB false), (5, aB true), (7, .ptr 7 b3 0), (8, .ptr 8 b4 0), (9, .ptr 9 b5 0), (10, aB ((sayD (hearD x r)).2)), (60, aB true), (61, aB true), (62, .agg (zOthers2 x r)), (63, .agg (zOthers1 x r)), (64, aB (decide ((hearD (hearD x r) r) = (hearD x r)))), (65, aB (decide ((hearD (hearD x r) r) = (hearD x r))))], (zOthers11 b2 r b3 x b4 b5)⟩) (ps := []) (by kernel_rfl) trivial ?_
      refine seq_bool (s' := ⟨[(3, .ptr 3 b2 0), (4, aB false), (5, aB true), (7, .ptr 7 b3 0), (8, .ptr 8 b4 0), (9, .ptr 9 b5 0), (10, aB ((sayD (hearD x r)).2)), (60, aB true), (61, aB true), (62, .agg (zOthers2 x r)), (63, .agg (zOthers1 x r)), (64, aB (decide ((hearD (hearD x r) r) = (hearD x r)))), (65, aB true)], (zOthers11 b2 r b3 x b4 b5)⟩) 65 (b := decide ((hearD (hearD x r) r) = (hearD x r))) (v := true) (show (decide ((hearD (hearD x r) r) = (hearD x r))) = true from (decide_eq_true (hear_again hF.2.1))) (by kernel_rfl) (by kernel_rfl) ?_
      refine seq_run (r := []) zOthers15 (s' := ⟨[(3, .ptr 3 b2 0), (4, aB true), (5, aB true), (7, .ptr 7 b3 0), (8, .ptr 8 b4 0), (9, .ptr 9 b5 0), (10, aB ((sayD (hearD x r)).2)), (60, aB true), (61, aB true), (62, .agg (zOthers2 x r)), (63, .agg (zOthers1 x r)), (64, aB (decide ((hearD (hearD x r) r) = (hearD x r)))), (65, aB true), (66, .val undef), (67, .val undef), (68, .val undef), (69, .val undef), (70, .val undef), (71, .val undef), (72, .val undef), (73, .val undef), (74, .val undef), (75, .val undef), (76, .val undef), (77, .val undef), (78, .val undef), (79, .val undef), (80, .val undef), (81, aB true), (82, aB true)], (zOthers11 b2 r b3 x b4 b5)⟩) (ps := []) (by kernel_rfl) trivial ?_
      refine hK12 _ ?_
      try clear hK12 K12
      refine awp_less ⟨[(4, aB true)], []⟩ ⟨Sub.refl _, trivial⟩ trivial ?_
      refine awp_ret ?_
      refine fin_ret ⟨[], [aB true], by kernel_rfl, trivial, ?_⟩
      exact Sub.of_eq (by first | rfl | (simp [resOf]; done) | (simp [resOf]; omega))
    refine seq_bool (s' := ⟨[(2, .ptr 2 b1 0), (3, .ptr 3 b2 0), (4, aB false), (5, aB true), (7, .ptr 7 b3 0), (27, .ptr 3 b2 1), (28, aI r.client), (29, .ptr 2 b1 0), (30, aI x.me), (31, aB (r.client != x.me)), (32, aB false)], (zOthers6 b1 x b2 r b3)⟩) 32 (b := r.client != x.me) (v := false) q3 (by kernel_rfl) (by kernel_rfl) ?_
    refine seq_run (r := [13, 14, 15, 16, 17, 18, 19, 20, 21, 22, 23, 24]) [6, 7, 8, 9, 10, 11, 12] (s' := ⟨[(2, .ptr 2 b1 0), (3, .ptr 3 b2 0), (4, aB false), (5, aB true), (7, .ptr 7 b3 0), (27, .ptr 3 b2 1), (28, aI r.client), (29, .ptr 2 b1 0), (30, aI x.me), (31, aB (r.client != x.me)), (32, aB false), (33, .ptr 3 b2 2), (34, aI r.epoch), (35, .ptr 2 b1 1), (36, aI x.epoch), (37, aB (r.epoch != x.epoch)), (38, aB (r.epoch != x.epoch)), (39, aB (r.epoch != x.epoch))], (zOthers6 b1 x b2 r b3)⟩) (ps := [b2 = b2, b1 = b1]) (by kernel_rfl) ⟨rfl, rfl, trivial⟩ ?_
    rcases bneC (r.epoch) (x.epoch) with ⟨q4, p4⟩ | ⟨q4, p4⟩
    ·
      refine seq_bool (s' := ⟨[(2, .ptr 2 b1 0), (3, .ptr 3 b2 0), (4, aB false), (5, aB true), (7, .ptr 7 b3 0), (27, .ptr 3 b2 1), (28, aI r.client), (29, .ptr 2 b1 0), (30, aI x.me), (31, aB (r.client != x.me)), (32, aB false), (33, .ptr 3 b2 2), (34, aI r.epoch), (35, .ptr 2 b1 1), (36, aI x.epoch), (37, aB (r.epoch != x.epoch)), (38, aB (r.epoch != x.epoch)), (39, aB true)], (zOthers6 b1 x b2 r b3)⟩) 39 (b := r.epoch != x.epoch) (v := true) q4 (by kernel_rfl) (by kernel_rfl) ?_
      refine seq_run (r := [22, 23, 24]) [13, 14, 15, 16, 17, 18, 19, 20, 21] (s' := ⟨[(2, .ptr 2 b1 0), (3, .ptr 3 b2 0), (4, aB false), (5, aB true), (7, .ptr 7 b3 0), (27, .ptr 3 b2 1), (28, aI r.client), (29, .ptr 2 b1 0), (30, aI x.me), (31, aB (r.client != x.me)), (32, aB false), (33, .ptr 3 b2 2), (34, aI r.epoch), (35, .ptr 2 b1 1), (36, aI x.epoch), (37, aB (r.epoch != x.epoch)), (38, aB (r.epoch != x.epoch)), (39, aB true), (40, .val undef), (41, .val undef), (42, .val undef), (43, .val undef), (44, .val undef), (45, aB true), (46, aB true), (47, .agg (zOthers1 x r)), (48, .agg (zOthers5 x))], (zOthers6 b1 x b2 r b3)⟩) (ps := [b3 = b3, b1 = b1]) (by kernel_rfl) ⟨rfl, rfl, trivial⟩ ?_
      refine seq_call (f := 16) (args := [.agg (zOthers1 x r), .agg (zOthers5 x)]) (d := some 49) (args' := [.agg (zOthers1 x r), .agg (zOthers5 x)]) (s' := ⟨[(2, .ptr 2 b1 0), (3, .ptr 3 b2 0), (4, aB false), (5, aB true), (7, .ptr 7 b3 0), (27, .ptr 3 b2 1), (28, aI r.client), (29, .ptr 2 b1 0), (30, aI x.me), (31, aB (r.client != x.me)), (32, aB false), (33, .ptr 3 b2 2), (34, aI r.epoch), (35, .ptr 2 b1 1), (36, aI x.epoch), (37, aB (r.epoch != x.epoch)), (38, aB (r.epoch != x.epoch)), (39, aB true), (40, .val undef), (41, .val undef), (42, .val undef), (43, .val undef), (44, .val undef), (45, aB true), (46, aB true), (47, .agg (zOthers1 x r)), (48, .agg (zOthers5 x)), (49, aB (decide ((hearD x r) = x)))], (zOthers6 b1 x b2 r b3)⟩) (by kernel_rfl) (fun _ _ => rfl) ⟨Sub.refl _, Sub.refl _, trivial⟩ (rsame_spec (hearD x r) x (hear_fit (few_fit ok (by assumption)) (by omega) okr).1 ok) (by kernel_rfl) ?_
      refine seq_run (r := []) [23, 24] (s' := ⟨[(2, .ptr 2 b1 0), (3, .ptr 3 b2 0), (4, aB false), (5, aB true), (7, .ptr 7 b3 0), (27, .ptr 3 b2 1), (28, aI r.client), (29, .ptr 2 b1 0), (30, aI x.me), (31, aB (r.client != x.me)), (32, aB false), (33, .ptr 3 b2 2), (34, aI r.epoch), (35, .ptr 2 b1 1), (36, aI x.epoch), (37, aB (r.epoch != x.epoch)), (38, aB (r.epoch != x.epoch)), (39, aB true), (40, .val undef), (41, .val undef), (42, .val undef), (43, .val undef), (44, .val undef), (45, aB true), (46, aB true), (47, .agg (zOthers1 x r)), (48, .agg (zOthers5 x)), (49, aB (decide ((hearD x r) = x))), (50, aB (!(decide ((hearD x r) = x)))), (51, aB (!(decide ((hearD x r) = x))))], (zOthers6 b1 x b2 r b3)⟩) (ps := []) (by kernel_rfl) trivial ?_
      refine hK9 _ ?_
      try clear hK9 K9
      refine awp_less (zOthers24 b2 b3 x r) ⟨Sub.refl _, Sub.refl _, Sub.refl _, Sub.refl _, Sub.refl _, trivial⟩ ⟨⟨_, rfl, SubB.refl _⟩, ⟨_, rfl, SubB.refl _⟩, trivial⟩ ?_
      refine awp_if false (by omega) (by kernel_rfl) (show (!(decide ((hearD x r) = x))) = false from by rw [(show (decide ((hearD x r) = x)) = true from (decide_eq_true (hear_other (by omega))))]; rfl) ?_
      refine awp_skip ?_
      refine hK8 _ ?_
      try clear hK8 K8
      refine awp_less (zOthers25 b2 b3 r x) ⟨Sub.refl _, Sub.refl _, Sub.refl _, Sub.refl _, trivial⟩ ⟨⟨_, rfl, SubB.refl _⟩, ⟨_, rfl, SubB.refl _⟩, trivial⟩ ?_
      refine awp_seq_k (fun K13 hK13 => ?_)
      refine awp_region [0, 1, 2, 3, 4] (by rw [hc]; kernel_rfl) (by kernel_rfl) ?_
      refine seq_run (r := [2, 3, 4]) [0, 1] (s' := (zOthers16 b2 b3 x r)) (ps := [b3 = b3, b2 = b2]) (by kernel_rfl) ⟨rfl, rfl, trivial⟩ ?_
      refine seq_call (f := 17) (args := (zOthers28 x r)) (d := some 54) (args' := (zOthers28 x r)) (s' := (zOthers14 b2 b3 x r)) (by kernel_rfl) (fun _ _ => rfl) ⟨Sub.refl _, Sub.refl _, trivial⟩ (fhear_spec (hear_fit (few_fit ok (by assumption)) (by omega) okr) (by omega)) (by kernel_rfl) ?_
      refine seq_new (f := fun b6 => ⟨[(3, .ptr 3 b2 0), (4, aB false), (5, aB true), (7, .ptr 7 b3 0), (52, .agg (zOthers1 x r)), (53, .agg (zOthers4 r)), (54, .agg (zOthers2 x r)), (8, .ptr 8 b6 0)], [(3, .box b2 32 (zOthers4 r)), (7, .box b3 26 (zOthers1 x r)), (8, .box b6 26 zOthers27)]⟩) (by kernel_rfl) (fun b6 => ?_)
      refine seq_run (r := []) [4] (s' := ⟨[(3, .ptr 3 b2 0), (4, aB false), (5, aB true), (7, .ptr 7 b3 0), (52, .agg (zOthers1 x r)), (53, .agg (zOthers4 r)), (54, .agg (zOthers2 x r)), (8, .ptr 8 b6 0)], (zOthers21 b2 r b3 x b6)⟩) (ps := [b6 = b6]) (by kernel_rfl) ⟨rfl, trivial⟩ ?_
      refine hK13 _ ?_
      try clear hK13 K13
      refine awp_less ⟨[(3, .ptr 3 b2 0), (4, aB false), (5, aB true), (7, .ptr 7 b3 0), (8, .ptr 8 b6 0)], (zOthers21 b2 r b3 x b6)⟩ ⟨Sub.refl _, Sub.refl _, Sub.refl _, Sub.refl _, Sub.refl _, trivial⟩ ⟨⟨_, rfl, SubB.refl _⟩, ⟨_, rfl, SubB.refl _⟩, ⟨_, rfl, SubB.refl _⟩, trivial⟩ ?_
      refine awp_seq_k (fun K14 hK14 => ?_)
      refine awp_region [0, 1, 2, 3, 4, 5, 6, 7] (by rw [hc]; kernel_rfl) (by kernel_rfl) ?_
      refine seq_run (r := [1, 2, 3, 4, 5, 6, 7]) [0] (s' := ⟨[(3, .ptr 3 b2 0), (4, aB false), (5, aB true), (7, .ptr 7 b3 0), (8, .ptr 8 b6 0), (56, .agg (zOthers1 x r))], (zOthers21 b2 r b3 x b6)⟩) (ps := [b3 = b3]) (by kernel_rfl) ⟨rfl, trivial⟩ ?_
      refine seq_call (f := 12) (args := [.agg (zOthers1 x r)]) (d := some 57) (args' := [.agg (zOthers1 x r)]) (s' := ⟨[(3, .ptr 3 b2 0), (4, aB false), (5, aB true), (7, .ptr 7 b3 0), (8, .ptr 8 b6 0), (56, .agg (zOthers1 x r)), (57, .tup (zOthers8 x r))], (zOthers21 b2 r b3 x b6)⟩) (by kernel_rfl) (fun _ _ => rfl) ⟨Sub.refl _, trivial⟩ (say_spec (hearD x r) (hear_fit (few_fit ok (by assumption)) (by omega) okr).1 (hear_fit (few_fit ok (by assumption)) (by omega) okr).2.1 (by have := (hear_fit (few_fit ok (by assumption)) (by omega) okr).2.2; omega)) (by kernel_rfl) ?_
      refine seq_run (r := [5, 6, 7]) [2, 3, 4] (s' := ⟨[(3, .ptr 3 b2 0), (4, aB false), (5, aB true), (7, .ptr 7 b3 0), (8, .ptr 8 b6 0), (56, .agg (zOthers1 x r)), (57, .tup (zOthers8 x r)), (55, .tup (zOthers8 x r)), (58, .agg (zOthers3 x r)), (59, aB ((sayD (hearD x r)).2))], (zOthers21 b2 r b3 x b6)⟩) (ps := []) (by kernel_rfl) trivial ?_
      refine seq_new (f := fun b7 => ⟨[(3, .ptr 3 b2 0), (4, aB false), (5, aB true), (7, .ptr 7 b3 0), (8, .ptr 8 b6 0), (56, .agg (zOthers1 x r)), (57, .tup (zOthers8 x r)), (55, .tup (zOthers8 x r)), (58, .agg (zOthers3 x r)), (59, aB ((sayD (hearD x r)).2)), (9, .ptr 9 b7 0)], [(3, .box b2 32 (zOthers4 r)), (7, .box b3 26 (zOthers1 x r)), (8, .box b6 26 (zOthers2 x r)), (9, .box b7 38 zOthers17)]⟩) (by kernel_rfl) (fun b7 => ?_)
      refine seq_run (r := []) [6, 7] (s' := ⟨[(3, .ptr 3 b2 0), (4, aB false), (5, aB true), (7, .ptr 7 b3 0), (8, .ptr 8 b6 0), (56, .agg (zOthers1 x r)), (57, .tup (zOthers8 x r)), (55, .tup (zOthers8 x r)), (58, .agg (zOthers3 x r)), (59, aB ((sayD (hearD x r)).2)), (9, .ptr 9 b7 0), (10, aB ((sayD (hearD x r)).2))], (zOthers12 b2 r b3 x b6 b7)⟩) (ps := [b7 = b7]) (by kernel_rfl) ⟨rfl, trivial⟩ ?_
      refine hK14 _ ?_
      try clear hK14 K14
      refine awp_less ⟨[(3, .ptr 3 b2 0), (4, aB false), (5, aB true), (7, .ptr 7 b3 0), (8, .ptr 8 b6 0), (9, .ptr 9 b7 0), (10, aB ((sayD (hearD x r)).2))], (zOthers12 b2 r b3 x b6 b7)⟩ ⟨Sub.refl _, Sub.refl _, Sub.refl _, Sub.refl _, Sub.refl _, Sub.refl _, Sub.refl _, trivial⟩ ⟨⟨_, rfl, SubB.refl _⟩, ⟨_, rfl, SubB.refl _⟩, ⟨_, rfl, SubB.refl _⟩, ⟨_, rfl, SubB.refl _⟩, trivial⟩ ?_
      refine awp_seq_k (fun K15 hK15 => ?_)
      refine awp_region zOthers18 (by rw [hc]; kernel_rfl) (by kernel_rfl) ?_
      refine seq_run (r := zOthers23) [0, 1, 2, 3] (s' := ⟨[(3, .ptr 3 b2 0), (4, aB false), (5, aB true), (7, .ptr 7 b3 0), (8, .ptr 8 b6 0), (9, .ptr 9 b7 0), (10, aB ((sayD (hearD x r)).2)), (60, aB true), (61, aB true), (62, .agg (zOthers2 x r)), (63, .agg (zOthers1 x r))], (zOthers12 b2 r b3 x b6 b7)⟩) (ps := [b6 = b6, b3 = b3]) (by kernel_rfl) ⟨rfl, rfl, trivial⟩ ?_
      refine seq_call (f := 16) (args := (zOthers26 x r)) (d := some 64) (args' := (zOthers26 x r)) (s' := ⟨[(3, .ptr 3 b2 0), (4, aB false), (5, aB true), (7, .ptr 7 b3 0), (8, .ptr 8 b6 0), (9, .ptr 9 b7 0), (10, aB ((sayD (hearD x r)).2)), (60, aB true), (61, aB true), (62, .agg (zOthers2 x r)), (63, .agg (zOthers1 x r)), (64, aB (decide ((hearD (hearD x r) r) = (hearD x r))))], (zOthers12 b2 r b3 x b6 b7)⟩) (by kernel_rfl) (fun _ _ => rfl) ⟨Sub.refl _, Sub.refl _, trivial⟩ (rsame_spec (hearD (hearD x r) r) (hearD x r) (hear_fit (hear_fit (few_fit ok (by assumption)) (by omega) okr) (by omega) okr).1 (hear_fit (few_fit ok (by assumption)) (by omega) okr).1) (by kernel_rfl) ?_
      refine seq_run (r := zOthers15) [5] (s' := ⟨[(3, .ptr 3 b2 0), (4, aB false), (5, aB true), (7, .ptr 7 b3 0), (8, .ptr 8 b6 0), (9, .ptr 9 b7 0), (10, aB ((sayD (hearD x r)).2)), (60, aB true), (61, aB true), (62, .agg (zOthers2 x r)), (63, .agg (zOthers1 x r)), (64, aB (decide ((hearD (hearD x r) r) = (hearD x r)))), (65, aB (decide ((hearD (hearD x r) r) = (hearD x r))))], (zOthers12 b2 r b3 x b6 b7)⟩) (ps := []) (by kernel_rfl) trivial ?_
      refine seq_bool (s' := ⟨[(3, .ptr 3 b2 0), (4, aB false), (5, aB true), (7, .ptr 7 b3 0), (8, .ptr 8 b6 0), (9, .ptr 9 b7 0), (10, aB ((sayD (hearD x r)).2)), (60, aB true), (61, aB true), (62, .agg (zOthers2 x r)), (63, .agg (zOthers1 x r)), (64, aB (decide ((hearD (hearD x r) r) = (hearD x r)))), (65, aB true)], (zOthers12 b2 r b3 x b6 b7)⟩) 65 (b := decide ((hearD (hearD x r) r) = (hearD x r))) (v := true) (show (decide ((hearD (hearD x r) r) = (hearD x r))) = true from (decide_eq_true (hear_again hF.2.1))) (by kernel_rfl) (by kernel_rfl) ?_
      refine seq_run (r := []) zOthers15 (s' := ⟨[(3, .ptr 3 b2 0), (4, aB true), (5, aB true), (7, .ptr 7 b3 0), (8, .ptr 8 b6 0), (9, .ptr 9 b7 0), (10, aB ((sayD (hearD x r)).2)), (60, aB true), (61, aB true), (62, .agg (zOthers2 x r)), (63, .agg (zOthers1 x r)), (64, aB (decide ((hearD (hearD x r) r) = (hearD x r)))), (65, aB true), (66, .val undef), (67, .val undef), (68, .val undef), (69, .val undef), (70, .val undef), (71, .val undef), (72, .val undef), (73, .val undef), (74, .val undef), (75, .val undef), (76, .val undef), (77, .val undef), (78, .val undef), (79, .val undef), (80, .val undef), (81, aB true), (82, aB true)], (zOthers12 b2 r b3 x b6 b7)⟩) (ps := []) (by kernel_rfl) trivial ?_
      refine hK15 _ ?_
      try clear hK15 K15
      refine awp_less ⟨[(4, aB true)], []⟩ ⟨Sub.refl _, trivial⟩ trivial ?_
      refine awp_ret ?_
      refine fin_ret ⟨[], [aB true], by kernel_rfl, trivial, ?_⟩
      exact Sub.of_eq (by first | rfl | (simp [resOf]; done) | (simp [resOf]; omega))
    refine seq_bool (s' := ⟨[(2, .ptr 2 b1 0), (3, .ptr 3 b2 0), (4, aB false), (5, aB true), (7, .ptr 7 b3 0), (27, .ptr 3 b2 1), (28, aI r.client), (29, .ptr 2 b1 0), (30, aI x.me), (31, aB (r.client != x.me)), (32, aB false), (33, .ptr 3 b2 2), (34, aI r.epoch), (35, .ptr 2 b1 1), (36, aI x.epoch), (37, aB (r.epoch != x.epoch)), (38, aB (r.epoch != x.epoch)), (39, aB false)], (zOthers6 b1 x b2 r b3)⟩) 39 (b := r.epoch != x.epoch) (v := false) q4 (by kernel_rfl) (by kernel_rfl) ?_
    refine seq_run (r := [20, 21, 22, 23, 24]) [13, 14, 15, 16, 17, 18, 19] (s' := ⟨[(2, .ptr 2 b1 0), (3, .ptr 3 b2 0), (4, aB false), (5, aB true), (7, .ptr 7 b3 0), (27, .ptr 3 b2 1), (28, aI r.client), (29, .ptr 2 b1 0), (30, aI x.me), (31, aB (r.client != x.me)), (32, aB false), (33, .ptr 3 b2 2), (34, aI r.epoch), (35, .ptr 2 b1 1), (36, aI x.epoch), (37, aB (r.epoch != x.epoch)), (38, aB (r.epoch != x.epoch)), (39, aB false), (40, .ptr 3 b2 3), (41, aI r.seq), (42, .ptr 2 b1 2), (43, aI x.seq), (44, aB (r.seq != x.seq)), (45, aB (r.seq != x.seq)), (46, aB (r.seq != x.seq))], (zOthers6 b1 x b2 r b3)⟩) (ps := [b2 = b2, b1 = b1]) (by kernel_rfl) ⟨rfl, rfl, trivial⟩ ?_
    rcases bneC (r.seq) (x.seq) with ⟨q5, p5⟩ | ⟨q5, p5⟩
    ·
      refine seq_bool (s' := ⟨[(2, .ptr 2 b1 0), (3, .ptr 3 b2 0), (4, aB false), (5, aB true), (7, .ptr 7 b3 0), (27, .ptr 3 b2 1), (28, aI r.client), (29, .ptr 2 b1 0), (30, aI x.me), (31, aB (r.client != x.me)), (32, aB false), (33, .ptr 3 b2 2), (34, aI r.epoch), (35, .ptr 2 b1 1), (36, aI x.epoch), (37, aB (r.epoch != x.epoch)), (38, aB (r.epoch != x.epoch)), (39, aB false), (40, .ptr 3 b2 3), (41, aI r.seq), (42, .ptr 2 b1 2), (43, aI x.seq), (44, aB (r.seq != x.seq)), (45, aB (r.seq != x.seq)), (46, aB true)], (zOthers6 b1 x b2 r b3)⟩) 46 (b := r.seq != x.seq) (v := true) q5 (by kernel_rfl) (by kernel_rfl) ?_
      refine seq_run (r := [22, 23, 24]) [20, 21] (s' := ⟨[(2, .ptr 2 b1 0), (3, .ptr 3 b2 0), (4, aB false), (5, aB true), (7, .ptr 7 b3 0), (27, .ptr 3 b2 1), (28, aI r.client), (29, .ptr 2 b1 0), (30, aI x.me), (31, aB (r.client != x.me)), (32, aB false), (33, .ptr 3 b2 2), (34, aI r.epoch), (35, .ptr 2 b1 1), (36, aI x.epoch), (37, aB (r.epoch != x.epoch)), (38, aB (r.epoch != x.epoch)), (39, aB false), (40, .ptr 3 b2 3), (41, aI r.seq), (42, .ptr 2 b1 2), (43, aI x.seq), (44, aB (r.seq != x.seq)), (45, aB (r.seq != x.seq)), (46, aB true), (47, .agg (zOthers1 x r)), (48, .agg (zOthers5 x))], (zOthers6 b1 x b2 r b3)⟩) (ps := [b3 = b3, b1 = b1]) (by kernel_rfl) ⟨rfl, rfl, trivial⟩ ?_
      refine seq_call (f := 16) (args := [.agg (zOthers1 x r), .agg (zOthers5 x)]) (d := some 49) (args' := [.agg (zOthers1 x r), .agg (zOthers5 x)]) (s' := ⟨[(2, .ptr 2 b1 0), (3, .ptr 3 b2 0), (4, aB false), (5, aB true), (7, .ptr 7 b3 0), (27, .ptr 3 b2 1), (28, aI r.client), (29, .ptr 2 b1 0), (30, aI x.me), (31, aB (r.client != x.me)), (32, aB false), (33, .ptr 3 b2 2), (34, aI r.epoch), (35, .ptr 2 b1 1), (36, aI x.epoch), (37, aB (r.epoch != x.epoch)), (38, aB (r.epoch != x.epoch)), (39, aB false), (40, .ptr 3 b2 3), (41, aI r.seq), (42, .ptr 2 b1 2), (43, aI x.seq), (44, aB (r.seq != x.seq)), (45, aB (r.seq != x.seq)), (46, aB true), (47, .agg (zOthers1 x r)), (48, .agg (zOthers5 x)), (49, aB (decide ((hearD x r) = x)))], (zOthers6 b1 x b2 r b3)⟩) (by kernel_rfl) (fun _ _ => rfl) ⟨Sub.refl _, Sub.refl _, trivial⟩ (rsame_spec (hearD x r) x (hear_fit (few_fit ok (by assumption)) (by omega) okr).1 ok) (by kernel_rfl) ?_
      refine seq_run (r := []) [23, 24] (s' := ⟨[(2, .ptr 2 b1 0), (3, .ptr 3 b2 0), (4, aB false), (5, aB true), (7, .ptr 7 b3 0), (27, .ptr 3 b2 1), (28, aI r.client), (29, .ptr 2 b1 0), (30, aI x.me), (31, aB (r.client != x.me)), (32, aB false), (33, .ptr 3 b2 2), (34, aI r.epoch), (35, .ptr 2 b1 1), (36, aI x.epoch), (37, aB (r.epoch != x.epoch)), (38, aB (r.epoch != x.epoch)), (39, aB false), (40, .ptr 3 b2 3), (41, aI r.seq), (42, .ptr 2 b1 2), (43, aI x.seq), (44, aB (r.seq != x.seq)), (45, aB (r.seq != x.seq)), (46, aB true), (47, .agg (zOthers1 x r)), (48, .agg (zOthers5 x)), (49, aB (decide ((hearD x r) = x))), (50, aB (!(decide ((hearD x r) = x)))), (51, aB (!(decide ((hearD x r) = x))))], (zOthers6 b1 x b2 r b3)⟩) (ps := []) (by kernel_rfl) trivial ?_
      refine hK9 _ ?_
      try clear hK9 K9
      refine awp_less (zOthers24 b2 b3 x r) ⟨Sub.refl _, Sub.refl _, Sub.refl _, Sub.refl _, Sub.refl _, trivial⟩ ⟨⟨_, rfl, SubB.refl _⟩, ⟨_, rfl, SubB.refl _⟩, trivial⟩ ?_
      refine awp_if false (by omega) (by kernel_rfl) (show (!(decide ((hearD x r) = x))) = false from by rw [(show (decide ((hearD x r) = x)) = true from (decide_eq_true (hear_other (by omega))))]; rfl) ?_
      refine awp_skip ?_
      refine hK8 _ ?_
      try clear hK8 K8
      refine awp_less (zOthers25 b2 b3 r x) ⟨Sub.refl _, Sub.refl _, Sub.refl _, Sub.refl _, trivial⟩ ⟨⟨_, rfl, SubB.refl _⟩, ⟨_, rfl, SubB.refl _⟩, trivial⟩ ?_
      refine awp_seq_k (fun K16 hK16 => ?_)
      refine awp_region [0, 1, 2, 3, 4] (by rw [hc]; kernel_rfl) (by kernel_rfl) ?_
      refine seq_run (r := [2, 3, 4]) [0, 1] (s' := (zOthers16 b2 b3 x r)) (ps := [b3 = b3, b2 = b2]) (by kernel_rfl) ⟨rfl, rfl, trivial⟩ ?_
      refine seq_call (f := 17) (args := (zOthers28 x r)) (d := some 54) (args' := (zOthers28 x r)) (s' := (zOthers14 b2 b3 x r)) (by kernel_rfl) (fun _ _ => rfl) ⟨Sub.refl _, Sub.refl _, trivial⟩ (fhear_spec (hear_fit (few_fit ok (by assumption)) (by omega) okr) (by omega)) (by kernel_rfl) ?_
      refine seq_new (f := fun b8 => ⟨[(3, .ptr 3 b2 0), (4, aB false), (5, aB true), (7, .ptr 7 b3 0), (52, .agg (zOthers1 x r)), (53, .agg (zOthers4 r)), (54, .agg (zOthers2 x r)), (8, .ptr 8 b8 0)], [(3, .box b2 32 (zOthers4 r)), (7, .box b3 26 (zOthers1 x r)), (8, .box b8 26 zOthers27)]⟩) (by kernel_rfl) (fun b8 => ?_)
      refine seq_run (r := []) [4] (s' := ⟨[(3, .ptr 3 b2 0), (4, aB false), (5, aB true), (7, .ptr 7 b3 0), (52, .agg (zOthers1 x r)), (53, .agg (zOthers4 r)), (54, .agg (zOthers2 x r)), (8, .ptr 8 b8 0)], (zOthers22 b2 r b3 x b8)⟩) (ps := [b8 = b8]) (by kernel_rfl) ⟨rfl, trivial⟩ ?_
      refine hK16 _ ?_
      try clear hK16 K16
      refine awp_less ⟨[(3, .ptr 3 b2 0), (4, aB false), (5, aB true), (7, .ptr 7 b3 0), (8, .ptr 8 b8 0)], (zOthers22 b2 r b3 x b8)⟩ ⟨Sub.refl _, Sub.refl _, Sub.refl _, Sub.refl _, Sub.refl _, trivial⟩ ⟨⟨_, rfl, SubB.refl _⟩, ⟨_, rfl, SubB.refl _⟩, ⟨_, rfl, SubB.refl _⟩, trivial⟩ ?_
      refine awp_seq_k (fun K17 hK17 => ?_)
      refine awp_region [0, 1, 2, 3, 4, 5, 6, 7] (by rw [hc]; kernel_rfl) (by kernel_rfl) ?_
      refine seq_run (r := [1, 2, 3, 4, 5, 6, 7]) [0] (s' := ⟨[(3, .ptr 3 b2 0), (4, aB false), (5, aB true), (7, .ptr 7 b3 0), (8, .ptr 8 b8 0), (56, .agg (zOthers1 x r))], (zOthers22 b2 r b3 x b8)⟩) (ps := [b3 = b3]) (by kernel_rfl) ⟨rfl, trivial⟩ ?_
      refine seq_call (f := 12) (args := [.agg (zOthers1 x r)]) (d := some 57) (args' := [.agg (zOthers1 x r)]) (s' := ⟨[(3, .ptr 3 b2 0), (4, aB false), (5, aB true), (7, .ptr 7 b3 0), (8, .ptr 8 b8 0), (56, .agg (zOthers1 x r)), (57, .tup (zOthers8 x r))], (zOthers22 b2 r b3 x b8)⟩) (by kernel_rfl) (fun _ _ => rfl) ⟨Sub.refl _, trivial⟩ (say_spec (hearD x r) (hear_fit (few_fit ok (by assumption)) (by omega) okr).1 (hear_fit (few_fit ok (by assumption)) (by omega) okr).2.1 (by have := (hear_fit (few_fit ok (by assumption)) (by omega) okr).2.2; omega)) (by kernel_rfl) ?_
      refine seq_run (r := [5, 6, 7]) [2, 3, 4] (s' := ⟨[(3, .ptr 3 b2 0), (4, aB false), (5, aB true), (7, .ptr 7 b3 0), (8, .ptr 8 b8 0), (56, .agg (zOthers1 x r)), (57, .tup (zOthers8 x r)), (55, .tup (zOthers8 x r)), (58, .agg (zOthers3 x r)), (59, aB ((sayD (hearD x r)).2))], (zOthers22 b2 r b3 x b8)⟩) (ps := []) (by kernel_rfl) trivial ?_
      refine seq_new (f := fun b9 => ⟨[(3, .ptr 3 b2 0), (4, aB false), (5, aB true), (7, .ptr 7 b3 0), (8, .ptr 8 b8 0), (56, .agg (zOthers1 x r)), (57, .tup (zOthers8 x r)), (55, .tup (zOthers8 x r)), (58, .agg (zOthers3 x r)), (59, aB ((sayD (hearD x r)).2)), (9, .ptr 9 b9 0)], [(3, .box b2 32 (zOthers4 r)), (7, .box b3 26 (zOthers1 x r)), (8, .box b8 26 (zOthers2 x r)), (9, .box b9 38 zOthers17)]⟩) (by kernel_rfl) (fun b9 => ?_)
      refine seq_run (r := []) [6, 7] (s' := ⟨[(3, .ptr 3 b2 0), (4, aB false), (5, aB true), (7, .ptr 7 b3 0), (8, .ptr 8 b8 0), (56, .agg (zOthers1 x r)), (57, .tup (zOthers8 x r)), (55, .tup (zOthers8 x r)), (58, .agg (zOthers3 x r)), (59, aB ((sayD (hearD x r)).2)), (9, .ptr 9 b9 0), (10, aB ((sayD (hearD x r)).2))], (zOthers13 b2 r b3 x b8 b9)⟩) (ps := [b9 = b9]) (by kernel_rfl) ⟨rfl, trivial⟩ ?_
      refine hK17 _ ?_
      try clear hK17 K17
      refine awp_less ⟨[(3, .ptr 3 b2 0), (4, aB false), (5, aB true), (7, .ptr 7 b3 0), (8, .ptr 8 b8 0), (9, .ptr 9 b9 0), (10, aB ((sayD (hearD x r)).2))], (zOthers13 b2 r b3 x b8 b9)⟩ ⟨Sub.refl _, Sub.refl _, Sub.refl _, Sub.refl _, Sub.refl _, Sub.refl _, Sub.refl _, trivial⟩ ⟨⟨_, rfl, SubB.refl _⟩, ⟨_, rfl, SubB.refl _⟩, ⟨_, rfl, SubB.refl _⟩, ⟨_, rfl, SubB.refl _⟩, trivial⟩ ?_
      refine awp_seq_k (fun K18 hK18 => ?_)
      refine awp_region zOthers18 (by rw [hc]; kernel_rfl) (by kernel_rfl) ?_
      refine seq_run (r := zOthers23) [0, 1, 2, 3] (s' := ⟨[(3, .ptr 3 b2 0), (4, aB false), (5, aB true), (7, .ptr 7 b3 0), (8, .ptr 8 b8 0), (9, .ptr 9 b9 0), (10, aB ((sayD (hearD x r)).2)), (60, aB true), (61, aB true), (62, .agg (zOthers2 x r)), (63, .agg (zOthers1 x r))], (zOthers13 b2 r b3 x b8 b9)⟩) (ps := [b8 = b8, b3 = b3]) (by kernel_rfl) ⟨rfl, rfl, trivial⟩ ?_
      refine seq_call (f := 16) (args := (zOthers26 x r)) (d := some 64) (args' := (zOthers26 x r)) (s' := ⟨[(3, .ptr 3 b2 0), (4, aB false), (5, aB true), (7, .ptr 7 b3 0), (8, .ptr 8 b8 0), (9, .ptr 9 b9 0), (10, aB ((sayD (hearD x r)).2)), (60, aB true), (61, aB true), (62, .agg (zOthers2 x r)), (63, .agg (zOthers1 x r)), (64, aB (decide ((hearD (hearD x r) r) = (hearD x r))))], (zOthers13 b2 r b3 x b8 b9)⟩) (by kernel_rfl) (fun _ _ => rfl) ⟨Sub.refl _, Sub.refl _, trivial⟩ (rsame_spec (hearD (hearD x r) r) (hearD x r) (hear_fit (hear_fit (few_fit ok (by assumption)) (by omega) okr) (by omega) okr).1 (hear_fit (few_fit ok (by assumption)) (by omega) okr).1) (by kernel_rfl) ?_
      refine seq_run (r := zOthers15) [5] (s' := ⟨[(3, .ptr 3 b2 0), (4, aB false), (5, aB true), (7, .ptr 7 b3 0), (8, .ptr 8 b8 0), (9, .ptr 9 b9 0), (10, aB ((sayD (hearD x r)).2)), (60, aB true), (61, aB true), (62, .agg (zOthers2 x r)), (63, .agg (zOthers1 x r)), (64, aB (decide ((hearD (hearD x r) r) = (hearD x r)))), (65, aB (decide ((hearD (hearD x r) r) = (hearD x r))))], (zOthers13 b2 r b3 x b8 b9)⟩) (ps := []) (by kernel_rfl) trivial ?_
      refine seq_bool (s' := ⟨[(3, .ptr 3 b2 0), (4, aB false), (5, aB true), (7, .ptr 7 b3 0), (8, .ptr 8 b8 0), (9, .ptr 9 b9 0), (10, aB ((sayD (hearD x r)).2)), (60, aB true), (61, aB true), (62, .agg (zOthers2 x r)), (63, .agg (zOthers1 x r)), (64, aB (decide ((hearD (hearD x r) r) = (hearD x r)))), (65, aB true)], (zOthers13 b2 r b3 x b8 b9)⟩) 65 (b := decide ((hearD (hearD x r) r) = (hearD x r))) (v := true) (show (decide ((hearD (hearD x r) r) = (hearD x r))) = true from (decide_eq_true (hear_again hF.2.1))) (by kernel_rfl) (by kernel_rfl) ?_
      refine seq_run (r := []) zOthers15 (s' := ⟨[(3, .ptr 3 b2 0), (4, aB true), (5, aB true), (7, .ptr 7 b3 0), (8, .ptr 8 b8 0), (9, .ptr 9 b9 0), (10, aB ((sayD (hearD x r)).2)), (60, aB true), (61, aB true), (62, .agg (zOthers2 x r)), (63, .agg (zOthers1 x r)), (64, aB (decide ((hearD (hearD x r) r) = (hearD x r)))), (65, aB true), (66, .val undef), (67, .val undef), (68, .val undef), (69, .val undef), (70, .val undef), (71, .val undef), (72, .val undef), (73, .val undef), (74, .val undef), (75, .val undef), (76, .val undef), (77, .val undef), (78, .val undef), (79, .val undef), (80, .val undef), (81, aB true), (82, aB true)], (zOthers13 b2 r b3 x b8 b9)⟩) (ps := []) (by kernel_rfl) trivial ?_
      refine hK18 _ ?_
      try clear hK18 K18
      refine awp_less ⟨[(4, aB true)], []⟩ ⟨Sub.refl _, trivial⟩ trivial ?_
      refine awp_ret ?_
      refine fin_ret ⟨[], [aB true], by kernel_rfl, trivial, ?_⟩
      exact Sub.of_eq (by first | rfl | (simp [resOf]; done) | (simp [resOf]; omega))
    refine seq_bool (s' := ⟨[(2, .ptr 2 b1 0), (3, .ptr 3 b2 0), (4, aB false), (5, aB true), (7, .ptr 7 b3 0), (27, .ptr 3 b2 1), (28, aI r.client), (29, .ptr 2 b1 0), (30, aI x.me), (31, aB (r.client != x.me)), (32, aB false), (33, .ptr 3 b2 2), (34, aI r.epoch), (35, .ptr 2 b1 1), (36, aI x.epoch), (37, aB (r.epoch != x.epoch)), (38, aB (r.epoch != x.epoch)), (39, aB false), (40, .ptr 3 b2 3), (41, aI r.seq), (42, .ptr 2 b1 2), (43, aI x.seq), (44, aB (r.seq != x.seq)), (45, aB (r.seq != x.seq)), (46, aB false)], (zOthers6 b1 x b2 r b3)⟩) 46 (b := r.seq != x.seq) (v := false) q5 (by kernel_rfl) (by kernel_rfl) ?_
    refine seq_run (r := []) [20, 21, 22, 23, 24] (s' := ⟨[(2, .ptr 2 b1 0), (3, .ptr 3 b2 0), (4, aB false), (5, aB true), (7, .ptr 7 b3 0), (27, .ptr 3 b2 1), (28, aI r.client), (29, .ptr 2 b1 0), (30, aI x.me), (31, aB (r.client != x.me)), (32, aB false), (33, .ptr 3 b2 2), (34, aI r.epoch), (35, .ptr 2 b1 1), (36, aI x.epoch), (37, aB (r.epoch != x.epoch)), (38, aB (r.epoch != x.epoch)), (39, aB false), (40, .ptr 3 b2 3), (41, aI r.seq), (42, .ptr 2 b1 2), (43, aI x.seq), (44, aB (r.seq != x.seq)), (45, aB (r.seq != x.seq)), (46, aB false), (47, .val undef), (48, .val undef), (49, .val undef), (50, .val undef), (51, aB false)], (zOthers6 b1 x b2 r b3)⟩) (ps := []) (by kernel_rfl) trivial ?_
    refine hK9 _ ?_
    try clear hK9 K9
    refine awp_less ⟨[(3, .ptr 3 b2 0), (4, aB false), (5, aB true), (7, .ptr 7 b3 0), (51, aB false)], (zOthers9 b2 r b3 x)⟩ ⟨Sub.refl _, Sub.refl _, Sub.refl _, Sub.refl _, Sub.refl _, trivial⟩ ⟨⟨_, rfl, SubB.refl _⟩, ⟨_, rfl, SubB.refl _⟩, trivial⟩ ?_
    refine awp_if false (by omega) (by kernel_rfl) rfl ?_
    refine awp_skip ?_
    refine hK8 _ ?_
    try clear hK8 K8
    refine awp_less (zOthers25 b2 b3 r x) ⟨Sub.refl _, Sub.refl _, Sub.refl _, Sub.refl _, trivial⟩ ⟨⟨_, rfl, SubB.refl _⟩, ⟨_, rfl, SubB.refl _⟩, trivial⟩ ?_
    refine awp_seq_k (fun K19 hK19 => ?_)
    refine awp_region [0, 1, 2, 3, 4] (by rw [hc]; kernel_rfl) (by kernel_rfl) ?_
    refine seq_run (r := [2, 3, 4]) [0, 1] (s' := (zOthers16 b2 b3 x r)) (ps := [b3 = b3, b2 = b2]) (by kernel_rfl) ⟨rfl, rfl, trivial⟩ ?_
    refine seq_call (f := 17) (args := (zOthers28 x r)) (d := some 54) (args' := (zOthers28 x r)) (s' := (zOthers14 b2 b3 x r)) (by kernel_rfl) (fun _ _ => rfl) ⟨Sub.refl _, Sub.refl _, trivial⟩ (fhear_spec (hear_fit (few_fit ok (by assumption)) (by omega) okr) (by omega)) (by kernel_rfl) ?_
    refine seq_new (f := fun b10 => ⟨[(3, .ptr 3 b2 0), (4, aB false), (5, aB true), (7, .ptr 7 b3 0), (52, .agg (zOthers1 x r)), (53, .agg (zOthers4 r)), (54, .agg (zOthers2 x r)), (8, .ptr 8 b10 0)], [(3, .box b2 32 (zOthers4 r)), (7, .box b3 26 (zOthers1 x r)), (8, .box b10 26 zOthers27)]⟩) (by kernel_rfl) (fun b10 => ?_)
    refine seq_run (r := []) [4] (s' := ⟨[(3, .ptr 3 b2 0), (4, aB false), (5, aB true), (7, .ptr 7 b3 0), (52, .agg (zOthers1 x r)), (53, .agg (zOthers4 r)), (54, .agg (zOthers2 x r)), (8, .ptr 8 b10 0)], (zOthers19 b2 r b3 x b10)⟩) (ps := [b10 = b10]) (by kernel_rfl) ⟨rfl, trivial⟩ ?_
    refine hK19 _ ?_
    try clear hK19 K19
    refine awp_less ⟨[(3, .ptr 3 b2 0), (4, aB false), (5, aB true), (7, .ptr 7 b3 0), (8, .ptr 8 b10 0)], (zOthers19 b2 r b3 x b10)⟩ ⟨Sub.refl _, Sub.refl _, Sub.refl _, Sub.refl _, Sub.refl _, trivial⟩ ⟨⟨_, rfl, SubB.refl _⟩, ⟨_, rfl, SubB.refl _⟩, ⟨_, rfl, SubB.refl _⟩, trivial⟩ ?_
    refine awp_seq_k (fun K20 hK20 => ?_)
    refine awp_region [0, 1, 2, 3, 4, 5, 6, 7] (by rw [hc]; kernel_rfl) (by kernel_rfl) ?_
    refine seq_run (r := [1, 2, 3, 4, 5, 6, 7]) [0] (s' := ⟨[(3, .ptr 3 b2 0), (4, aB false), (5, aB true), (7, .ptr 7 b3 0), (8, .ptr 8 b10 0), (56, .agg (zOthers1 x r))], (zOthers19 b2 r b3 x b10)⟩) (ps := [b3 = b3]) (by kernel_rfl) ⟨rfl, trivial⟩ ?_
    refine seq_call (f := 12) (args := [.agg (zOthers1 x r)]) (d := some 57) (args' := [.agg (zOthers1 x r)]) (s' := ⟨[(3, .ptr 3 b2 0), (4, aB false), (5, aB true), (7, .ptr 7 b3 0), (8, .ptr 8 b10 0), (56, .agg (zOthers1 x r)), (57, .tup (zOthers8 x r))], (zOthers19 b2 r b3 x b10)⟩) (by kernel_rfl) (fun _ _ => rfl) ⟨Sub.refl _, trivial⟩ (say_spec (hearD x r) (hear_fit (few_fit ok (by assumption)) (by omega) okr).1 (hear_fit (few_fit ok (by assumption)) (by omega) okr).2.1 (by have := (hear_fit (few_fit ok (by assumption)) (by omega) okr).2.2; omega)) (by kernel_rfl) ?_
    refine seq_run (r := [5, 6, 7]) [2, 3, 4] (s' := ⟨[(3, .ptr 3 b2 0), (4, aB false), (5, aB true), (7, .ptr 7 b3 0), (8, .ptr 8 b10 0), (56, .agg (zOthers1 x r)), (57, .tup (zOthers8 x r)), (55, .tup (zOthers8 x r)), (58, .agg (zOthers3 x r)), (59, aB ((sayD (hearD x r)).2))], (zOthers19 b2 r b3 x b10)⟩) (ps := []) (by kernel_rfl) trivial ?_
    refine seq_new (f := fun b11 => ⟨[(3, .ptr 3 b2 0), (4, aB false), (5, aB true), (7, .ptr 7 b3 0), (8, .ptr 8 b10 0), (56, .agg (zOthers1 x r)), (57, .tup (zOthers8 x r)), (55, .tup (zOthers8 x r)), (58, .agg (zOthers3 x r)), (59, aB ((sayD (hearD x r)).2)), (9, .ptr 9 b11 0)], [(3, .box b2 32 (zOthers4 r)), (7, .box b3 26 (zOthers1 x r)), (8, .box b10 26 (zOthers2 x r)), (9, .box b11 38 zOthers17)]⟩) (by kernel_rfl) (fun b11 => ?_)
    refine seq_run (r := []) [6, 7] (s' := ⟨[(3, .ptr 3 b2 0), (4, aB false), (5, aB true), (7, .ptr 7 b3 0), (8, .ptr 8 b10 0), (56, .agg (zOthers1 x r)), (57, .tup (zOthers8 x r)), (55, .tup (zOthers8 x r)), (58, .agg (zOthers3 x r)), (59, aB ((sayD (hearD x r)).2)), (9, .ptr 9 b11 0), (10, aB ((sayD (hearD x r)).2))], (zOthers10 b2 r b3 x b10 b11)⟩) (ps := [b11 = b11]) (by kernel_rfl) ⟨rfl, trivial⟩ ?_
    refine hK20 _ ?_
    try clear hK20 K20
    refine awp_less ⟨[(3, .ptr 3 b2 0), (4, aB false), (5, aB true), (7, .ptr 7 b3 0), (8, .ptr 8 b10 0), (9, .ptr 9 b11 0), (10, aB ((sayD (hearD x r)).2))], (zOthers10 b2 r b3 x b10 b11)⟩ ⟨Sub.refl _, Sub.refl _, Sub.refl _, Sub.refl _, Sub.refl _, Sub.refl _, Sub.refl _, trivial⟩ ⟨⟨_, rfl, SubB.refl _⟩, ⟨_, rfl, SubB.refl _⟩, ⟨_, rfl, SubB.refl _⟩, ⟨_, rfl, SubB.refl _⟩, trivial⟩ ?_
    refine awp_seq_k (fun K21 hK21 => ?_)
    refine awp_region zOthers18 (by rw [hc]; kernel_rfl) (by kernel_rfl) ?_
    refine seq_run (r := zOthers23) [0, 1, 2, 3] (s' := ⟨[(3, .ptr 3 b2 0), (4, aB false), (5, aB true), (7, .ptr 7 b3 0), (8, .ptr 8 b10 0), (9, .ptr 9 b11 0), (10, aB ((sayD (hearD x r)).2)), (60, aB true), (61, aB true), (62, .agg (zOthers2 x r)), (63, .agg (zOthers1 x r))], (zOthers10 b2 r b3 x b10 b11)⟩) (ps := [b10 = b10, b3 = b3]) (by kernel_rfl) ⟨rfl, rfl, trivial⟩ ?_
    refine seq_call (f := 16) (args := (zOthers26 x r)) (d := some 64) (args' := (zOthers26 x r)) (s' := ⟨[(3, .ptr 3 b2 0), (4, aB false), (5, aB true), (7, .ptr 7 b3 0), (8, .ptr 8 b10 0), (9, .ptr 9 b11 0), (10, aB ((sayD (hearD x r)).2)), (60, aB true), (61, aB true), (62, .agg (zOthers2 x r)), (63, .agg (zOthers1 x r)), (64, aB (decide ((hearD (hearD x r) r) = (hearD x r))))], (zOthers10 b2 r b3 x b10 b11)⟩) (by kernel_rfl) (fun _ _ => rfl) ⟨Sub.refl _, Sub.refl _, trivial⟩ (rsame_spec (hearD (hearD x r) r) (hearD x r) (hear_fit (hear_fit (few_fit ok (by assumption)) (by omega) okr) (by omega) okr).1 (hear_fit (few_fit ok (by assumption)) (by omega) okr).1) (by kernel_rfl) ?_
    refine seq_run (r := zOthers15) [5] (s' := ⟨[(3, .ptr 3 b2 0), (4, aB false), (5, aB true), (7, .ptr 7 b3 0), (8, .ptr 8 b10 0), (9, .ptr 9 b11 0), (10, aB ((sayD (hearD x r)).2)), (60, aB true), (61, aB true), (62, .agg (zOthers2 x r)), (63, .agg (zOthers1 x r)), (64, aB (decide ((hearD (hearD x r) r) = (hearD x r)))), (65, aB (decide ((hearD (hearD x r) r) = (hearD x r))))], (zOthers10 b2 r b3 x b10 b11)⟩) (ps := []) (by kernel_rfl) trivial ?_
    refine seq_bool (s' := ⟨[(3, .ptr 3 b2 0), (4, aB false), (5, aB true), (7, .ptr 7 b3 0), (8, .ptr 8 b10 0), (9, .ptr 9 b11 0), (10, aB ((sayD (hearD x r)).2)), (60, aB true), (61, aB true), (62, .agg (zOthers2 x r)), (63, .agg (zOthers1 x r)), (64, aB (decide ((hearD (hearD x r) r) = (hearD x r)))), (65, aB true)], (zOthers10 b2 r b3 x b10 b11)⟩) 65 (b := decide ((hearD (hearD x r) r) = (hearD x r))) (v := true) (show (decide ((hearD (hearD x r) r) = (hearD x r))) = true from (decide_eq_true (hear_again hF.2.1))) (by kernel_rfl) (by kernel_rfl) ?_
    refine seq_run (r := []) zOthers15 (s' := ⟨[(3, .ptr 3 b2 0), (4, aB true), (5, aB true), (7, .ptr 7 b3 0), (8, .ptr 8 b10 0), (9, .ptr 9 b11 0), (10, aB ((sayD (hearD x r)).2)), (60, aB true), (61, aB true), (62, .agg (zOthers2 x r)), (63, .agg (zOthers1 x r)), (64, aB (decide ((hearD (hearD x r) r) = (hearD x r)))), (65, aB true), (66, .val undef), (67, .val undef), (68, .val undef), (69, .val undef), (70, .val undef), (71, .val undef), (72, .val undef), (73, .val undef), (74, .val undef), (75, .val undef), (76, .val undef), (77, .val undef), (78, .val undef), (79, .val undef), (80, .val undef), (81, aB true), (82, aB true)], (zOthers10 b2 r b3 x b10 b11)⟩) (ps := []) (by kernel_rfl) trivial ?_
    refine hK21 _ ?_
    try clear hK21 K21
    refine awp_less ⟨[(4, aB true)], []⟩ ⟨Sub.refl _, trivial⟩ trivial ?_
    refine awp_ret ?_
    refine fin_ret ⟨[], [aB true], by kernel_rfl, trivial, ?_⟩
    exact Sub.of_eq (by first | rfl | (simp [resOf]; done) | (simp [resOf]; omega))
  refine seq_bool (s' := ⟨[(2, .ptr 2 b1 0), (3, .ptr 3 b2 0), (4, aB false), (5, aB true), (6, aB (goodB x)), (14, aB (goodB x)), (15, aB (!(goodB x))), (16, aB true)], (zOthers7 b1 x b2 r)⟩) 16 (b := !(goodB x)) (v := true) (show (!(goodB x)) = true from by rw [q1]; rfl) (by kernel_rfl) (by kernel_rfl) ?_
  refine seq_run (r := []) [3, 4, 5, 6, 7, 8] (s' := ⟨[(2, .ptr 2 b1 0), (3, .ptr 3 b2 0), (4, aB false), (5, aB true), (6, aB (goodB x)), (14, aB (goodB x)), (15, aB (!(goodB x))), (16, aB true), (17, .val undef), (18, .val undef), (19, .val undef), (20, .val undef), (21, .val undef), (22, aB true)], (zOthers7 b1 x b2 r)⟩) (ps := []) (by kernel_rfl) trivial ?_
  refine hK5 _ ?_
  try clear hK5 K5
  refine awp_less ⟨[(2, .ptr 2 b1 0), (3, .ptr 3 b2 0), (4, aB false), (5, aB true), (22, aB true)], (zOthers7 b1 x b2 r)⟩ ⟨Sub.refl _, Sub.refl _, Sub.refl _, Sub.refl _, Sub.refl _, trivial⟩ ⟨⟨_, rfl, SubB.refl _⟩, ⟨_, rfl, SubB.refl _⟩, trivial⟩ ?_
  refine awp_if true (by omega) (by kernel_rfl) rfl ?_
  refine awp_seq_k (fun K22 hK22 => ?_)
  refine awp_region [0, 1] (by rw [hc]; kernel_rfl) (by kernel_rfl) ?_
  refine seq_run (r := []) [0, 1] (s' := ⟨[(2, .ptr 2 b1 0), (3, .ptr 3 b2 0), (4, aB true), (5, aB true), (22, aB true), (23, aB true)], (zOthers7 b1 x b2 r)⟩) (ps := []) (by kernel_rfl) trivial ?_
  refine hK22 _ ?_
  try clear hK22 K22
  refine awp_less ⟨[(2, .ptr 2 b1 0), (3, .ptr 3 b2 0), (4, aB true), (5, aB true)], (zOthers7 b1 x b2 r)⟩ ⟨Sub.refl _, Sub.refl _, Sub.refl _, Sub.refl _, trivial⟩ ⟨⟨_, rfl, SubB.refl _⟩, ⟨_, rfl, SubB.refl _⟩, trivial⟩ ?_
  refine awp_ret ?_
  refine fin_ret ⟨[], [aB true], by kernel_rfl, trivial, ?_⟩
  exact Sub.of_eq (by first | rfl | (simp [resOf]; done) | (simp [resOf]; omega))
end Go.Proofs.Ytpdedjbkfcaebaa
