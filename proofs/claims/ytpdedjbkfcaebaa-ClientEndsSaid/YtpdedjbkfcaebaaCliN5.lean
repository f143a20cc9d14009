/- client.meant, Hear; ref18.Hear. -/
import Derived.Test.YtpdedjbkfcaebaaCliN4
set_option linter.unusedVariables false
set_option linter.unusedSimpArgs false
namespace Go.Proofs.Ytpdedjbkfcaebaa
open Go.RowKit Copyhold
def meantD (x : Cli) (r : Rsp) : Bool :=
  if r.client ≠ x.me ∨ r.epoch ≠ x.epoch ∨ r.seq ≠ x.seq then false
  else if (sayD x).2 = false then false
  else if r.kind = 5 then (asksD x).2
  else if r.kind = 2 ∧ r.n ≠ (sayD x).1.n ∧ r.n ≠ -1 then false
  else decide (r.kind = (sayD x).1.kind)
def hearD (x : Cli) (r : Rsp) : Cli :=
  if meantD x r = false then x
  else if r.kind = 1 then begunD x r
  else if r.kind = 2 then calledD x r
  else if r.kind = 3 ∨ r.kind = 5 then decidedD x r
  else if r.kind = 6 then ackD x r
  else x
def zN51 (x : Cli) : List AV := [aI x.me, aI x.epoch, aI x.seq, .sl 1 false (x.jobs.map jobA), aI x.phase, aI x.n, aI x.stamp, .sl 4 false (x.told.map donA), .sl 6 false (x.now.map repA)]
def zN52 (r : Rsp) : List AV := [aI r.kind, aI r.client, aI r.epoch, aI r.seq, aI r.n, aI r.r.e, aI r.r.a, aI r.r.b, aI r.r.n, aS r.r.t, .sl 1 false (r.r.ns.map txA)]
def zN53 (x : Cli) : List AV := [aI ((sayD x).1.kind), aI ((sayD x).1.client), aI ((sayD x).1.epoch), aI ((sayD x).1.seq), aI ((sayD x).1.n), aI ((sayD x).1.stamp), aI ((sayD x).1.c.kind), aI ((sayD x).1.c.ino), aI ((sayD x).1.c.dest), aI ((sayD x).1.c.pos), aI ((sayD x).1.c.many), aS ((sayD x).1.c.name), aS ((sayD x).1.c.name2), aS ((sayD x).1.c.text)]
def zN54 (b1 : Nat) (x : Cli) (b2 : Nat) (r : Rsp) (b3 : Nat) : List (Nat × Bx) := [(2, .box b1 26 (zN51 x)), (3, .box b2 32 (zN52 r)), (4, .box b3 26 [aI 0, aI 0, aI 0, aN, aI 0, aI 0, aI 0, aN, aN])]
def zN55 (x : Cli) : List AV := [aI ((asksD x).1.kind), aI ((asksD x).1.client), aI ((asksD x).1.epoch), aI ((asksD x).1.seq), aI ((asksD x).1.n), aI ((asksD x).1.stamp), aI ((asksD x).1.c.kind), aI ((asksD x).1.c.ino), aI ((asksD x).1.c.dest), aI ((asksD x).1.c.pos), aI ((asksD x).1.c.many), aS ((asksD x).1.c.name), aS ((asksD x).1.c.name2), aS ((asksD x).1.c.text)]
def zN56 (x : Cli) (r : Rsp) : List AV := [aI ((decidedD x r).me), aI ((decidedD x r).epoch), aI ((decidedD x r).seq), .sl 1 false ((decidedD x r).jobs.map jobA), aI ((decidedD x r).phase), aI ((decidedD x r).n), aI ((decidedD x r).stamp), .sl 4 false ((decidedD x r).told.map donA), .sl 6 false ((decidedD x r).now.map repA)]
def zN57 (b2 : Nat) (r : Rsp) (b3 : Nat) (x : Cli) : List (Nat × Bx) := [(3, .box b2 32 (zN52 r)), (5, .box b3 38 (zN53 x))]
def zN58 (x : Cli) (r : Rsp) : List AV := [aI ((calledD x r).me), aI ((calledD x r).epoch), aI ((calledD x r).seq), .sl 1 false ((calledD x r).jobs.map jobA), aI ((calledD x r).phase), aI ((calledD x r).n), aI ((calledD x r).stamp), .sl 4 false ((calledD x r).told.map donA), .sl 6 false ((calledD x r).now.map repA)]
def zN59 (b2 : Nat) (b3 : Nat) (x : Cli) (r : Rsp) : LS := ⟨[(3, .ptr 3 b2 0), (4, aB false), (5, .ptr 5 b3 0), (8, aB ((asksD x).2))], (zN57 b2 r b3 x)⟩
def zN510 (x : Cli) (r : Rsp) : List AV := [aI ((begunD x r).me), aI ((begunD x r).epoch), aI ((begunD x r).seq), .sl 1 false ((begunD x r).jobs.map jobA), aI ((begunD x r).phase), aI ((begunD x r).n), aI ((begunD x r).stamp), .sl 4 false ((begunD x r).told.map donA), .sl 6 false ((begunD x r).now.map repA)]
def zN511 (x : Cli) (r : Rsp) : List AV := [aI ((ackD x r).me), aI ((ackD x r).epoch), aI ((ackD x r).seq), .sl 1 false ((ackD x r).jobs.map jobA), aI ((ackD x r).phase), aI ((ackD x r).n), aI ((ackD x r).stamp), .sl 4 false ((ackD x r).told.map donA), .sl 6 false ((ackD x r).now.map repA)]
def zN512 (b1 : Nat) (x : Cli) (b2 : Nat) (r : Rsp) (b3 : Nat) : List (Nat × Bx) := [(2, .box b1 26 (zN51 x)), (3, .box b2 32 (zN52 r)), (5, .box b3 38 (zN53 x))]
def zN513 (b1 : Nat) (b2 : Nat) (b3 : Nat) (r : Rsp) (x : Cli) : LS := ⟨[(2, .ptr 2 b1 0), (3, .ptr 3 b2 0), (4, .ptr 4 b3 0), (9, .ptr 3 b2 0), (10, aI r.kind), (8, .mp [(.i 1, .val (.func (.func 49) #[] #[])), (.i 2, .val (.func (.func 50) #[] #[])), (.i 3, .val (.func (.func 51) #[] #[])), (.i 5, .val (.func (.func 51) #[] #[])), (.i 6, .val (.func (.func 52) #[] #[]))]), (11, .tup [.val (.func (.func 51) #[] #[]), aB true]), (7, .tup [.val (.func (.func 51) #[] #[]), aB true]), (12, .val (.func (.func 51) #[] #[])), (13, aB true), (5, .val (.func (.func 51) #[] #[])), (6, aB true)], (zN54 b1 x b2 r b3)⟩
def zN514 (b1 : Nat) (b2 : Nat) (b3 : Nat) (x : Cli) (r : Rsp) : List (Nat × AV) := [(2, .ptr 2 b1 0), (3, .ptr 3 b2 0), (4, .ptr 4 b3 0), (5, .val (.func (.func 51) #[] #[])), (23, .val (.func (.func 51) #[] #[])), (24, .agg (zN51 x)), (25, .agg (zN52 r)), (26, .agg (zN56 x r))]
def zN515 (b1 : Nat) (x : Cli) (b2 : Nat) (r : Rsp) (b3 : Nat) : List (Nat × Bx) := [(2, .box b1 26 (zN51 x)), (3, .box b2 32 (zN52 r)), (4, .box b3 26 (zN51 x))]
def zN516 (b1 : Nat) (b2 : Nat) (b3 : Nat) (r : Rsp) (x : Cli) : LS := ⟨[(2, .ptr 2 b1 0), (3, .ptr 3 b2 0), (4, .ptr 4 b3 0), (9, .ptr 3 b2 0), (10, aI r.kind), (8, .mp [(.i 1, .val (.func (.func 49) #[] #[])), (.i 2, .val (.func (.func 50) #[] #[])), (.i 3, .val (.func (.func 51) #[] #[])), (.i 5, .val (.func (.func 51) #[] #[])), (.i 6, .val (.func (.func 52) #[] #[]))]), (11, .tup [.val (.func (.func 51) #[] #[]), aB true])], (zN54 b1 x b2 r b3)⟩
def zN517 (b2 : Nat) (r : Rsp) (x : Cli) (b3 : Nat) : LS := ⟨[(3, .ptr 3 b2 0), (4, aB (r.kind == ((sayD x).1.kind))), (5, .ptr 5 b3 0), (63, .ptr 3 b2 0), (64, aI r.kind), (65, .ptr 5 b3 0), (66, aI ((sayD x).1.kind)), (67, aB (r.kind == ((sayD x).1.kind)))], (zN57 b2 r b3 x)⟩
def zN518 (b1 : Nat) (b2 : Nat) (b3 : Nat) : List (Nat × AV) := [(2, .ptr 2 b1 0), (3, .ptr 3 b2 0), (4, .ptr 4 b3 0), (5, .val (.func (.func 51) #[] #[]))]
def zN519 (b1 : Nat) (b2 : Nat) (b3 : Nat) (x : Cli) (r : Rsp) : LS := ⟨[(2, .ptr 2 b1 0), (3, .ptr 3 b2 0), (4, .ptr 4 b3 0), (5, .val (.func (.func 51) #[] #[])), (6, aB true), (14, aB true), (15, aB false), (16, aB false), (17, .agg (zN51 x)), (18, .agg (zN52 r)), (19, aB (meantD x r)), (20, aB (!(meantD x r))), (21, aB (!(meantD x r)))], (zN54 b1 x b2 r b3)⟩
def zN520 (b1 : Nat) (b2 : Nat) (b3 : Nat) (x : Cli) (r : Rsp) : LS := ⟨[(2, .ptr 2 b1 0), (3, .ptr 3 b2 0), (4, .ptr 4 b3 0), (5, .val (.func (.func 51) #[] #[])), (6, aB true), (14, aB true), (15, aB false), (16, aB false), (17, .agg (zN51 x)), (18, .agg (zN52 r)), (19, aB (meantD x r))], (zN54 b1 x b2 r b3)⟩
def zN521 (b2 : Nat) (b3 : Nat) (r : Rsp) (x : Cli) : LS := ⟨[(3, .ptr 3 b2 0), (4, aB false), (5, .ptr 5 b3 0)], (zN57 b2 r b3 x)⟩
def zN522 (b1 : Nat) (b2 : Nat) (b3 : Nat) (x : Cli) (r : Rsp) : LS := ⟨[(2, .ptr 2 b1 0), (3, .ptr 3 b2 0), (4, .ptr 4 b3 0), (5, .val (.func (.func 51) #[] #[])), (23, .val (.func (.func 51) #[] #[])), (24, .agg (zN51 x)), (25, .agg (zN52 r))], (zN54 b1 x b2 r b3)⟩
def zN523 (b1 : Nat) (x : Cli) (b2 : Nat) (r : Rsp) : List (Nat × Bx) := [(2, .box b1 26 (zN51 x)), (3, .box b2 32 (zN52 r))]
def zN524 (b1 : Nat) (b2 : Nat) (b3 : Nat) (x : Cli) (r : Rsp) : LS := ⟨[(2, .ptr 2 b1 0), (3, .ptr 3 b2 0), (4, .ptr 4 b3 0), (5, .val (.func (.func 51) #[] #[])), (6, aB true), (14, aB true), (15, aB false), (16, aB false), (17, .agg (zN51 x)), (18, .agg (zN52 r))], (zN54 b1 x b2 r b3)⟩
def zN525 (b1 : Nat) (b2 : Nat) (b3 : Nat) (x : Cli) (r : Rsp) : List (Nat × AV) := [(2, .ptr 2 b1 0), (3, .ptr 3 b2 0), (4, .ptr 4 b3 0), (5, .val (.func (.func 52) #[] #[])), (23, .val (.func (.func 52) #[] #[])), (24, .agg (zN51 x)), (25, .agg (zN52 r)), (26, .agg (zN511 x r))]
def zN526 (b1 : Nat) (b2 : Nat) (b3 : Nat) (x : Cli) (r : Rsp) : List (Nat × AV) := [(2, .ptr 2 b1 0), (3, .ptr 3 b2 0), (4, .ptr 4 b3 0), (5, .val (.func (.func 50) #[] #[])), (23, .val (.func (.func 50) #[] #[])), (24, .agg (zN51 x)), (25, .agg (zN52 r)), (26, .agg (zN58 x r))]
def zN527 (b1 : Nat) (b2 : Nat) (b3 : Nat) (x : Cli) (r : Rsp) : List (Nat × AV) := [(2, .ptr 2 b1 0), (3, .ptr 3 b2 0), (4, .ptr 4 b3 0), (5, .val (.func (.func 49) #[] #[])), (23, .val (.func (.func 49) #[] #[])), (24, .agg (zN51 x)), (25, .agg (zN52 r)), (26, .agg (zN510 x r))]
def zN528 : List AV := [.val (.func (.func 50) #[] #[]), aB true]
def zN529 : List AV := [.val (.func (.func 52) #[] #[]), aB true]
def zN530 : List AV := [.val (.func (.func 49) #[] #[]), aB true]
set_option maxRecDepth 100000 in
set_option maxHeartbeats 4000000 in
theorem meant_spec (x : Cli) (r : Rsp) (ok : OkX x) (hr : RightP x) (hn9 : x.now.length ≤ 1000) : FSpec Try.prog 31 [.agg [aI x.me, aI x.epoch, aI x.seq, .sl 1 false (x.jobs.map jobA), aI x.phase, aI x.n, aI x.stamp, .sl 4 false (x.told.map donA), .sl 6 false (x.now.map repA)], .agg [aI r.kind, aI r.client, aI r.epoch, aI r.seq, aI r.n, aI r.r.e, aI r.r.a, aI r.r.b, aI r.r.n, aS r.r.t, .sl 1 false (r.r.ns.map txA)]] (aB (meantD x r)) := by
  refine spec_enter ⟨[(0, .agg (zN51 x)), (1, .agg (zN52 r))], []⟩ Try.func31 rfl (by kernel_rfl) (by kernel_rfl) rfl (fun t => match t with | 0 => rfl | 1 => rfl | _ + 2 => rfl) (fun c hc => ?_)
  replace hc : c.n = 68 := hc
  refine awp_seq_k (fun K1 hK1 => ?_)
  refine awp_region [0, 1, 2] (by rw [hc]; kernel_rfl) (by kernel_rfl) ?_
  refine seq_new (f := fun b1 => ⟨[(0, .agg (zN51 x)), (1, .agg (zN52 r)), (2, .ptr 2 b1 0)], [(2, .box b1 26 (zN51 x))]⟩) (by kernel_rfl) (fun b1 => ?_)
  refine seq_new (f := fun b2 => ⟨[(0, .agg (zN51 x)), (1, .agg (zN52 r)), (2, .ptr 2 b1 0), (3, .ptr 3 b2 0)], (zN523 b1 x b2 r)⟩) (by kernel_rfl) (fun b2 => ?_)
  refine seq_run (r := []) [2] (s' := ⟨[(0, .agg (zN51 x)), (1, .agg (zN52 r)), (2, .ptr 2 b1 0), (3, .ptr 3 b2 0), (4, aB false)], (zN523 b1 x b2 r)⟩) (ps := []) (by kernel_rfl) trivial ?_
  refine hK1 _ ?_
  try clear hK1 K1
  refine awp_less ⟨[(2, .ptr 2 b1 0), (3, .ptr 3 b2 0), (4, aB false)], (zN523 b1 x b2 r)⟩ ⟨Sub.refl _, Sub.refl _, Sub.refl _, trivial⟩ ⟨⟨_, rfl, SubB.refl _⟩, ⟨_, rfl, SubB.refl _⟩, trivial⟩ ?_
  refine awp_seq_k (fun K2 hK2 => ?_)
  refine awp_region [0, 1, 2, 3, 4, 5, 6, 7] (by rw [hc]; kernel_rfl) (by kernel_rfl) ?_
  refine seq_run (r := [1, 2, 3, 4, 5, 6, 7]) [0] (s' := ⟨[(2, .ptr 2 b1 0), (3, .ptr 3 b2 0), (4, aB false), (10, .agg (zN51 x))], (zN523 b1 x b2 r)⟩) (ps := [b1 = b1]) (by kernel_rfl) ⟨rfl, trivial⟩ ?_
  refine seq_call (f := 12) (args := [.agg (zN51 x)]) (d := some 11) (args' := [.agg (zN51 x)]) (s' := ⟨[(2, .ptr 2 b1 0), (3, .ptr 3 b2 0), (4, aB false), (10, .agg (zN51 x)), (11, .tup [.agg (zN53 x), aB ((sayD x).2)])], (zN523 b1 x b2 r)⟩) (by kernel_rfl) (fun _ _ => rfl) ⟨Sub.refl _, trivial⟩ (say_spec x ok hr hn9) (by kernel_rfl) ?_
  refine seq_run (r := [5, 6, 7]) [2, 3, 4] (s' := ⟨[(2, .ptr 2 b1 0), (3, .ptr 3 b2 0), (4, aB false), (10, .agg (zN51 x)), (11, .tup [.agg (zN53 x), aB ((sayD x).2)]), (9, .tup [.agg (zN53 x), aB ((sayD x).2)]), (12, .agg (zN53 x)), (13, aB ((sayD x).2))], (zN523 b1 x b2 r)⟩) (ps := []) (by kernel_rfl) trivial ?_
  refine seq_new (f := fun b3 => ⟨[(2, .ptr 2 b1 0), (3, .ptr 3 b2 0), (4, aB false), (10, .agg (zN51 x)), (11, .tup [.agg (zN53 x), aB ((sayD x).2)]), (9, .tup [.agg (zN53 x), aB ((sayD x).2)]), (12, .agg (zN53 x)), (13, aB ((sayD x).2)), (5, .ptr 5 b3 0)], [(2, .box b1 26 (zN51 x)), (3, .box b2 32 (zN52 r)), (5, .box b3 38 [aI 0, aI 0, aI 0, aI 0, aI 0, aI 0, aI 0, aI 0, aI 0, aI 0, aI 0, aS ([]), aS ([]), aS ([])])]⟩) (by kernel_rfl) (fun b3 => ?_)
  refine seq_run (r := []) [6, 7] (s' := ⟨[(2, .ptr 2 b1 0), (3, .ptr 3 b2 0), (4, aB false), (10, .agg (zN51 x)), (11, .tup [.agg (zN53 x), aB ((sayD x).2)]), (9, .tup [.agg (zN53 x), aB ((sayD x).2)]), (12, .agg (zN53 x)), (13, aB ((sayD x).2)), (5, .ptr 5 b3 0), (6, aB ((sayD x).2))], (zN512 b1 x b2 r b3)⟩) (ps := [b3 = b3]) (by kernel_rfl) ⟨rfl, trivial⟩ ?_
  refine hK2 _ ?_
  try clear hK2 K2
  refine awp_less ⟨[(2, .ptr 2 b1 0), (3, .ptr 3 b2 0), (4, aB false), (5, .ptr 5 b3 0), (6, aB ((sayD x).2))], (zN512 b1 x b2 r b3)⟩ ⟨Sub.refl _, Sub.refl _, Sub.refl _, Sub.refl _, Sub.refl _, trivial⟩ ⟨⟨_, rfl, SubB.refl _⟩, ⟨_, rfl, SubB.refl _⟩, ⟨_, rfl, SubB.refl _⟩, trivial⟩ ?_
  refine awp_seq_k (fun K3 hK3 => ?_)
  refine awp_region [0, 1, 2, 3, 4, 5, 6, 7] (by rw [hc]; kernel_rfl) (by kernel_rfl) ?_
  refine seq_run (r := [1, 2, 3, 4, 5, 6, 7]) [0] (s' := ⟨[(2, .ptr 2 b1 0), (3, .ptr 3 b2 0), (4, aB false), (5, .ptr 5 b3 0), (6, aB ((sayD x).2)), (15, .agg (zN51 x))], (zN512 b1 x b2 r b3)⟩) (ps := [b1 = b1]) (by kernel_rfl) ⟨rfl, trivial⟩ ?_
  refine seq_call (f := 14) (args := [.agg (zN51 x)]) (d := some 16) (args' := [.agg (zN51 x)]) (s' := ⟨[(2, .ptr 2 b1 0), (3, .ptr 3 b2 0), (4, aB false), (5, .ptr 5 b3 0), (6, aB ((sayD x).2)), (15, .agg (zN51 x)), (16, .tup [.agg (zN55 x), aB ((asksD x).2)])], (zN512 b1 x b2 r b3)⟩) (by kernel_rfl) (fun _ _ => rfl) ⟨Sub.refl _, trivial⟩ (asks_spec x ok hr) (by kernel_rfl) ?_
  refine seq_run (r := [5, 6, 7]) [2, 3, 4] (s' := ⟨[(2, .ptr 2 b1 0), (3, .ptr 3 b2 0), (4, aB false), (5, .ptr 5 b3 0), (6, aB ((sayD x).2)), (15, .agg (zN51 x)), (16, .tup [.agg (zN55 x), aB ((asksD x).2)]), (14, .tup [.agg (zN55 x), aB ((asksD x).2)]), (17, .agg (zN55 x)), (18, aB ((asksD x).2))], (zN512 b1 x b2 r b3)⟩) (ps := []) (by kernel_rfl) trivial ?_
  refine seq_new (f := fun b4 => ⟨[(2, .ptr 2 b1 0), (3, .ptr 3 b2 0), (4, aB false), (5, .ptr 5 b3 0), (6, aB ((sayD x).2)), (15, .agg (zN51 x)), (16, .tup [.agg (zN55 x), aB ((asksD x).2)]), (14, .tup [.agg (zN55 x), aB ((asksD x).2)]), (17, .agg (zN55 x)), (18, aB ((asksD x).2)), (7, .ptr 7 b4 0)], [(2, .box b1 26 (zN51 x)), (3, .box b2 32 (zN52 r)), (5, .box b3 38 (zN53 x)), (7, .box b4 38 [aI 0, aI 0, aI 0, aI 0, aI 0, aI 0, aI 0, aI 0, aI 0, aI 0, aI 0, aS ([]), aS ([]), aS ([])])]⟩) (by kernel_rfl) (fun b4 => ?_)
  refine seq_run (r := []) [6, 7] (s' := ⟨[(2, .ptr 2 b1 0), (3, .ptr 3 b2 0), (4, aB false), (5, .ptr 5 b3 0), (6, aB ((sayD x).2)), (15, .agg (zN51 x)), (16, .tup [.agg (zN55 x), aB ((asksD x).2)]), (14, .tup [.agg (zN55 x), aB ((asksD x).2)]), (17, .agg (zN55 x)), (18, aB ((asksD x).2)), (7, .ptr 7 b4 0), (8, aB ((asksD x).2))], [(2, .box b1 26 (zN51 x)), (3, .box b2 32 (zN52 r)), (5, .box b3 38 (zN53 x)), (7, .box b4 38 (zN55 x))]⟩) (ps := [b4 = b4]) (by kernel_rfl) ⟨rfl, trivial⟩ ?_
  refine hK3 _ ?_
  try clear hK3 K3
  refine awp_less ⟨[(2, .ptr 2 b1 0), (3, .ptr 3 b2 0), (4, aB false), (5, .ptr 5 b3 0), (6, aB ((sayD x).2)), (8, aB ((asksD x).2))], (zN512 b1 x b2 r b3)⟩ ⟨Sub.refl _, Sub.refl _, Sub.refl _, Sub.refl _, Sub.refl _, Sub.refl _, trivial⟩ ⟨⟨_, rfl, SubB.refl _⟩, ⟨_, rfl, SubB.refl _⟩, ⟨_, rfl, SubB.refl _⟩, trivial⟩ ?_
  refine awp_seq_k (fun K4 hK4 => ?_)
  refine awp_block ?_
  refine awp_seq_k (fun K5 hK5 => ?_)
  refine awp_block ?_
  refine awp_seq_k (fun K6 hK6 => ?_)
  refine awp_block ?_
  refine awp_seq_k (fun K7 hK7 => ?_)
  refine awp_block ?_
  refine awp_block ?_
  refine awp_seq_k (fun K8 hK8 => ?_)
  refine awp_seq_k (fun K9 hK9 => ?_)
  refine awp_seq_k (fun K10 hK10 => ?_)
  refine awp_region [0, 1, 2, 3, 4, 5, 6, 7, 8, 9, 10, 11, 12, 13, 14, 15, 16, 17, 18, 19] (by rw [hc]; kernel_rfl) (by kernel_rfl) ?_
  refine seq_run (r := [6, 7, 8, 9, 10, 11, 12, 13, 14, 15, 16, 17, 18, 19]) [0, 1, 2, 3, 4, 5] (s' := ⟨[(2, .ptr 2 b1 0), (3, .ptr 3 b2 0), (4, aB false), (5, .ptr 5 b3 0), (6, aB ((sayD x).2)), (8, aB ((asksD x).2)), (20, .ptr 3 b2 1), (21, aI r.client), (22, .ptr 2 b1 0), (23, aI x.me), (24, aB (r.client != x.me)), (25, aB (r.client != x.me))], (zN512 b1 x b2 r b3)⟩) (ps := [b2 = b2, b1 = b1]) (by kernel_rfl) ⟨rfl, rfl, trivial⟩ ?_
  rcases bneC (r.client) (x.me) with ⟨q1, p1⟩ | ⟨q1, p1⟩
  ·
    refine seq_bool (s' := ⟨[(2, .ptr 2 b1 0), (3, .ptr 3 b2 0), (4, aB false), (5, .ptr 5 b3 0), (6, aB ((sayD x).2)), (8, aB ((asksD x).2)), (20, .ptr 3 b2 1), (21, aI r.client), (22, .ptr 2 b1 0), (23, aI x.me), (24, aB (r.client != x.me)), (25, aB true)], (zN512 b1 x b2 r b3)⟩) 25 (b := r.client != x.me) (v := true) q1 (by kernel_rfl) (by kernel_rfl) ?_
    refine seq_run (r := []) [6, 7, 8, 9, 10, 11, 12, 13, 14, 15, 16, 17, 18, 19] (s' := ⟨[(2, .ptr 2 b1 0), (3, .ptr 3 b2 0), (4, aB false), (5, .ptr 5 b3 0), (6, aB ((sayD x).2)), (8, aB ((asksD x).2)), (20, .ptr 3 b2 1), (21, aI r.client), (22, .ptr 2 b1 0), (23, aI x.me), (24, aB (r.client != x.me)), (25, aB true), (26, .val undef), (27, .val undef), (28, .val undef), (29, .val undef), (30, .val undef), (31, aB true), (32, aB true), (33, .val undef), (34, .val undef), (35, .val undef), (36, .val undef), (37, .val undef), (38, aB true), (19, aB true)], (zN512 b1 x b2 r b3)⟩) (ps := []) (by kernel_rfl) trivial ?_
    refine hK10 _ ?_
    try clear hK10 K10
    refine awp_less ⟨[(3, .ptr 3 b2 0), (4, aB false), (5, .ptr 5 b3 0), (6, aB ((sayD x).2)), (8, aB ((asksD x).2)), (19, aB true)], (zN57 b2 r b3 x)⟩ ⟨Sub.refl _, Sub.refl _, Sub.refl _, Sub.refl _, Sub.refl _, Sub.refl _, trivial⟩ ⟨⟨_, rfl, SubB.refl _⟩, ⟨_, rfl, SubB.refl _⟩, trivial⟩ ?_
    refine awp_if true (by omega) (by kernel_rfl) rfl ?_
    refine awp_exit ?_
    refine hK7 _ ?_
    try clear hK7 K7
    refine awp_less (zN59 b2 b3 x r) ⟨Sub.refl _, Sub.refl _, Sub.refl _, Sub.refl _, trivial⟩ ⟨⟨_, rfl, SubB.refl _⟩, ⟨_, rfl, SubB.refl _⟩, trivial⟩ ?_
    refine awp_seq_k (fun K11 hK11 => ?_)
    refine awp_seq_k (fun K12 hK12 => ?_)
    refine awp_region [0] (by rw [hc]; kernel_rfl) (by kernel_rfl) ?_
    refine seq_run (r := []) [0] (s' := (zN59 b2 b3 x r)) (ps := []) (by kernel_rfl) trivial ?_
    refine hK12 _ ?_
    try clear hK12 K12
    refine awp_ret ?_
    refine fin_ret ⟨[], [aB false], by kernel_rfl, trivial, ?_⟩
    have hM : meantD x r = false := by
      unfold meantD
      repeat (first | rw [if_pos (by first | assumption | omega)] | rw [if_neg (by first | omega | simp_all)])
      try rfl
    rw [hM]
    exact Sub.refl _
  refine seq_bool (s' := ⟨[(2, .ptr 2 b1 0), (3, .ptr 3 b2 0), (4, aB false), (5, .ptr 5 b3 0), (6, aB ((sayD x).2)), (8, aB ((asksD x).2)), (20, .ptr 3 b2 1), (21, aI r.client), (22, .ptr 2 b1 0), (23, aI x.me), (24, aB (r.client != x.me)), (25, aB false)], (zN512 b1 x b2 r b3)⟩) 25 (b := r.client != x.me) (v := false) q1 (by kernel_rfl) (by kernel_rfl) ?_
  refine seq_run (r := [13, 14, 15, 16, 17, 18, 19]) [6, 7, 8, 9, 10, 11, 12] (s' := ⟨[(2, .ptr 2 b1 0), (3, .ptr 3 b2 0), (4, aB false), (5, .ptr 5 b3 0), (6, aB ((sayD x).2)), (8, aB ((asksD x).2)), (20, .ptr 3 b2 1), (21, aI r.client), (22, .ptr 2 b1 0), (23, aI x.me), (24, aB (r.client != x.me)), (25, aB false), (26, .ptr 3 b2 2), (27, aI r.epoch), (28, .ptr 2 b1 1), (29, aI x.epoch), (30, aB (r.epoch != x.epoch)), (31, aB (r.epoch != x.epoch)), (32, aB (r.epoch != x.epoch))], (zN512 b1 x b2 r b3)⟩) (ps := [b2 = b2, b1 = b1]) (by kernel_rfl) ⟨rfl, rfl, trivial⟩ ?_
  rcases bneC (r.epoch) (x.epoch) with ⟨q2, p2⟩ | ⟨q2, p2⟩
  ·
    refine seq_bool (s' := ⟨[(2, .ptr 2 b1 0), (3, .ptr 3 b2 0), (4, aB false), (5, .ptr 5 b3 0), (6, aB ((sayD x).2)), (8, aB ((asksD x).2)), (20, .ptr 3 b2 1), (21, aI r.client), (22, .ptr 2 b1 0), (23, aI x.me), (24, aB (r.client != x.me)), (25, aB false), (26, .ptr 3 b2 2), (27, aI r.epoch), (28, .ptr 2 b1 1), (29, aI x.epoch), (30, aB (r.epoch != x.epoch)), (31, aB (r.epoch != x.epoch)), (32, aB true)], (zN512 b1 x b2 r b3)⟩) 32 (b := r.epoch != x.epoch) (v := true) q2 (by kernel_rfl) (by kernel_rfl) ?_
    refine seq_run (r := []) [13, 14, 15, 16, 17, 18, 19] (s' := ⟨[(2, .ptr 2 b1 0), (3, .ptr 3 b2 0), (4, aB false), (5, .ptr 5 b3 0), (6, aB ((sayD x).2)), (8, aB ((asksD x).2)), (20, .ptr 3 b2 1), (21, aI r.client), (22, .ptr 2 b1 0), (23, aI x.me), (24, aB (r.client != x.me)), (25, aB false), (26, .ptr 3 b2 2), (27, aI r.epoch), (28, .ptr 2 b1 1), (29, aI x.epoch), (30, aB (r.epoch != x.epoch)), (31, aB (r.epoch != x.epoch)), (32, aB true), (33, .val undef), (34, .val undef), (35, .val undef), (36, .val undef), (37, .val undef), (38, aB true), (19, aB true)], (zN512 b1 x b2 r b3)⟩) (ps := []) (by kernel_rfl) trivial ?_
    refine hK10 _ ?_
    try clear hK10 K10
    refine awp_less ⟨[(3, .ptr 3 b2 0), (4, aB false), (5, .ptr 5 b3 0), (6, aB ((sayD x).2)), (8, aB ((asksD x).2)), (19, aB true)], (zN57 b2 r b3 x)⟩ ⟨Sub.refl _, Sub.refl _, Sub.refl _, Sub.refl _, Sub.refl _, Sub.refl _, trivial⟩ ⟨⟨_, rfl, SubB.refl _⟩, ⟨_, rfl, SubB.refl _⟩, trivial⟩ ?_
    refine awp_if true (by omega) (by kernel_rfl) rfl ?_
    refine awp_exit ?_
    refine hK7 _ ?_
    try clear hK7 K7
    refine awp_less (zN59 b2 b3 x r) ⟨Sub.refl _, Sub.refl _, Sub.refl _, Sub.refl _, trivial⟩ ⟨⟨_, rfl, SubB.refl _⟩, ⟨_, rfl, SubB.refl _⟩, trivial⟩ ?_
    refine awp_seq_k (fun K13 hK13 => ?_)
    refine awp_seq_k (fun K14 hK14 => ?_)
    refine awp_region [0] (by rw [hc]; kernel_rfl) (by kernel_rfl) ?_
    refine seq_run (r := []) [0] (s' := (zN59 b2 b3 x r)) (ps := []) (by kernel_rfl) trivial ?_
    refine hK14 _ ?_
    try clear hK14 K14
    refine awp_ret ?_
    refine fin_ret ⟨[], [aB false], by kernel_rfl, trivial, ?_⟩
    have hM : meantD x r = false := by
      unfold meantD
      repeat (first | rw [if_pos (by first | assumption | omega)] | rw [if_neg (by first | omega | simp_all)])
      try rfl
    rw [hM]
    exact Sub.refl _
  refine seq_bool (s' := ⟨[(2, .ptr 2 b1 0), (3, .ptr 3 b2 0), (4, aB false), (5, .ptr 5 b3 0), (6, aB ((sayD x).2)), (8, aB ((asksD x).2)), (20, .ptr 3 b2 1), (21, aI r.client), (22, .ptr 2 b1 0), (23, aI x.me), (24, aB (r.client != x.me)), (25, aB false), (26, .ptr 3 b2 2), (27, aI r.epoch), (28, .ptr 2 b1 1), (29, aI x.epoch), (30, aB (r.epoch != x.epoch)), (31, aB (r.epoch != x.epoch)), (32, aB false)], (zN512 b1 x b2 r b3)⟩) 32 (b := r.epoch != x.epoch) (v := false) q2 (by kernel_rfl) (by kernel_rfl) ?_
  refine seq_run (r := []) [13, 14, 15, 16, 17, 18, 19] (s' := ⟨[(2, .ptr 2 b1 0), (3, .ptr 3 b2 0), (4, aB false), (5, .ptr 5 b3 0), (6, aB ((sayD x).2)), (8, aB ((asksD x).2)), (20, .ptr 3 b2 1), (21, aI r.client), (22, .ptr 2 b1 0), (23, aI x.me), (24, aB (r.client != x.me)), (25, aB false), (26, .ptr 3 b2 2), (27, aI r.epoch), (28, .ptr 2 b1 1), (29, aI x.epoch), (30, aB (r.epoch != x.epoch)), (31, aB (r.epoch != x.epoch)), (32, aB false), (33, .ptr 3 b2 3), (34, aI r.seq), (35, .ptr 2 b1 2), (36, aI x.seq), (37, aB (r.seq != x.seq)), (38, aB (r.seq != x.seq)), (19, aB (r.seq != x.seq))], (zN512 b1 x b2 r b3)⟩) (ps := [b2 = b2, b1 = b1]) (by kernel_rfl) ⟨rfl, rfl, trivial⟩ ?_
  refine hK10 _ ?_
  try clear hK10 K10
  refine awp_less ⟨[(3, .ptr 3 b2 0), (4, aB false), (5, .ptr 5 b3 0), (6, aB ((sayD x).2)), (8, aB ((asksD x).2)), (19, aB (r.seq != x.seq))], (zN57 b2 r b3 x)⟩ ⟨Sub.refl _, Sub.refl _, Sub.refl _, Sub.refl _, Sub.refl _, Sub.refl _, trivial⟩ ⟨⟨_, rfl, SubB.refl _⟩, ⟨_, rfl, SubB.refl _⟩, trivial⟩ ?_
  rcases bneC (r.seq) (x.seq) with ⟨q3, p3⟩ | ⟨q3, p3⟩
  ·
    refine awp_if true (by omega) (by kernel_rfl) q3 ?_
    refine awp_exit ?_
    refine hK7 _ ?_
    try clear hK7 K7
    refine awp_less (zN59 b2 b3 x r) ⟨Sub.refl _, Sub.refl _, Sub.refl _, Sub.refl _, trivial⟩ ⟨⟨_, rfl, SubB.refl _⟩, ⟨_, rfl, SubB.refl _⟩, trivial⟩ ?_
    refine awp_seq_k (fun K15 hK15 => ?_)
    refine awp_seq_k (fun K16 hK16 => ?_)
    refine awp_region [0] (by rw [hc]; kernel_rfl) (by kernel_rfl) ?_
    refine seq_run (r := []) [0] (s' := (zN59 b2 b3 x r)) (ps := []) (by kernel_rfl) trivial ?_
    refine hK16 _ ?_
    try clear hK16 K16
    refine awp_ret ?_
    refine fin_ret ⟨[], [aB false], by kernel_rfl, trivial, ?_⟩
    have hM : meantD x r = false := by
      unfold meantD
      repeat (first | rw [if_pos (by first | assumption | omega)] | rw [if_neg (by first | omega | simp_all)])
      try rfl
    rw [hM]
    exact Sub.refl _
  refine awp_if false (by omega) (by kernel_rfl) q3 ?_
  refine awp_skip ?_
  refine hK9 _ ?_
  try clear hK9 K9
  refine awp_less ⟨[(3, .ptr 3 b2 0), (4, aB false), (5, .ptr 5 b3 0), (6, aB ((sayD x).2)), (8, aB ((asksD x).2))], (zN57 b2 r b3 x)⟩ ⟨Sub.refl _, Sub.refl _, Sub.refl _, Sub.refl _, Sub.refl _, trivial⟩ ⟨⟨_, rfl, SubB.refl _⟩, ⟨_, rfl, SubB.refl _⟩, trivial⟩ ?_
  refine awp_seq_k (fun K17 hK17 => ?_)
  refine awp_seq_k (fun K18 hK18 => ?_)
  refine awp_region [0, 1, 2] (by rw [hc]; kernel_rfl) (by kernel_rfl) ?_
  refine seq_run (r := []) [0, 1, 2] (s' := ⟨[(3, .ptr 3 b2 0), (4, aB false), (5, .ptr 5 b3 0), (6, aB ((sayD x).2)), (8, aB ((asksD x).2)), (40, aB ((sayD x).2)), (41, aB (!((sayD x).2))), (39, aB (!((sayD x).2)))], (zN57 b2 r b3 x)⟩) (ps := []) (by kernel_rfl) trivial ?_
  refine hK18 _ ?_
  try clear hK18 K18
  refine awp_less ⟨[(3, .ptr 3 b2 0), (4, aB false), (5, .ptr 5 b3 0), (8, aB ((asksD x).2)), (39, aB (!((sayD x).2)))], (zN57 b2 r b3 x)⟩ ⟨Sub.refl _, Sub.refl _, Sub.refl _, Sub.refl _, Sub.refl _, trivial⟩ ⟨⟨_, rfl, SubB.refl _⟩, ⟨_, rfl, SubB.refl _⟩, trivial⟩ ?_
  rcases boolC ((sayD x).2) with ⟨q4, p4⟩ | ⟨q4, p4⟩
  ·
    refine awp_if false (by omega) (by kernel_rfl) (show (!((sayD x).2)) = false from by rw [q4]; rfl) ?_
    refine awp_skip ?_
    refine hK17 _ ?_
    try clear hK17 K17
    refine awp_less (zN59 b2 b3 x r) ⟨Sub.refl _, Sub.refl _, Sub.refl _, Sub.refl _, trivial⟩ ⟨⟨_, rfl, SubB.refl _⟩, ⟨_, rfl, SubB.refl _⟩, trivial⟩ ?_
    refine awp_seq_k (fun K19 hK19 => ?_)
    refine awp_seq_k (fun K20 hK20 => ?_)
    refine awp_region [0, 1, 2, 3] (by rw [hc]; kernel_rfl) (by kernel_rfl) ?_
    refine seq_run (r := []) [0, 1, 2, 3] (s' := ⟨[(3, .ptr 3 b2 0), (4, aB false), (5, .ptr 5 b3 0), (8, aB ((asksD x).2)), (43, .ptr 3 b2 0), (44, aI r.kind), (45, aB (r.kind == 5)), (42, aB (r.kind == 5))], (zN57 b2 r b3 x)⟩) (ps := [b2 = b2]) (by kernel_rfl) ⟨rfl, trivial⟩ ?_
    refine hK20 _ ?_
    try clear hK20 K20
    refine awp_less ⟨[(3, .ptr 3 b2 0), (4, aB false), (5, .ptr 5 b3 0), (8, aB ((asksD x).2)), (42, aB (r.kind == 5))], (zN57 b2 r b3 x)⟩ ⟨Sub.refl _, Sub.refl _, Sub.refl _, Sub.refl _, Sub.refl _, trivial⟩ ⟨⟨_, rfl, SubB.refl _⟩, ⟨_, rfl, SubB.refl _⟩, trivial⟩ ?_
    rcases beqC (r.kind) (5) with ⟨q5, p5⟩ | ⟨q5, p5⟩
    ·
      refine awp_if true (by omega) (by kernel_rfl) q5 ?_
      refine awp_exit ?_
      refine hK6 _ ?_
      try clear hK6 K6
      refine awp_less (zN59 b2 b3 x r) ⟨Sub.refl _, Sub.refl _, Sub.refl _, Sub.refl _, trivial⟩ ⟨⟨_, rfl, SubB.refl _⟩, ⟨_, rfl, SubB.refl _⟩, trivial⟩ ?_
      refine awp_seq_k (fun K21 hK21 => ?_)
      refine awp_seq_k (fun K22 hK22 => ?_)
      refine awp_region [0, 1] (by rw [hc]; kernel_rfl) (by kernel_rfl) ?_
      refine seq_run (r := []) [0, 1] (s' := ⟨[(3, .ptr 3 b2 0), (4, aB ((asksD x).2)), (5, .ptr 5 b3 0), (8, aB ((asksD x).2)), (62, aB ((asksD x).2))], (zN57 b2 r b3 x)⟩) (ps := []) (by kernel_rfl) trivial ?_
      refine hK22 _ ?_
      try clear hK22 K22
      refine awp_less ⟨[(3, .ptr 3 b2 0), (4, aB ((asksD x).2)), (5, .ptr 5 b3 0)], (zN57 b2 r b3 x)⟩ ⟨Sub.refl _, Sub.refl _, Sub.refl _, trivial⟩ ⟨⟨_, rfl, SubB.refl _⟩, ⟨_, rfl, SubB.refl _⟩, trivial⟩ ?_
      refine awp_ret ?_
      refine fin_ret ⟨[], [aB ((asksD x).2)], by kernel_rfl, trivial, ?_⟩
      have hM : meantD x r = ((asksD x).2) := by
        unfold meantD
        repeat (first | rw [if_pos (by first | assumption | omega)] | rw [if_neg (by first | omega | simp_all)])
        try rfl
      rw [hM]
      exact Sub.refl _
    refine awp_if false (by omega) (by kernel_rfl) q5 ?_
    refine awp_skip ?_
    refine hK19 _ ?_
    try clear hK19 K19
    refine awp_less (zN59 b2 b3 x r) ⟨Sub.refl _, Sub.refl _, Sub.refl _, Sub.refl _, trivial⟩ ⟨⟨_, rfl, SubB.refl _⟩, ⟨_, rfl, SubB.refl _⟩, trivial⟩ ?_
    refine awp_seq_k (fun K23 hK23 => ?_)
    refine awp_region [0, 1, 2, 3, 4, 5, 6, 7, 8, 9, 10, 11, 12, 13, 14, 15] (by rw [hc]; kernel_rfl) (by kernel_rfl) ?_
    refine seq_run (r := [4, 5, 6, 7, 8, 9, 10, 11, 12, 13, 14, 15]) [0, 1, 2, 3] (s' := ⟨[(3, .ptr 3 b2 0), (4, aB false), (5, .ptr 5 b3 0), (8, aB ((asksD x).2)), (47, .ptr 3 b2 0), (48, aI r.kind), (49, aB (r.kind == 2)), (50, aB (r.kind == 2))], (zN57 b2 r b3 x)⟩) (ps := [b2 = b2]) (by kernel_rfl) ⟨rfl, trivial⟩ ?_
    rcases beqC (r.kind) (2) with ⟨q6, p6⟩ | ⟨q6, p6⟩
    ·
      refine seq_bool (s' := ⟨[(3, .ptr 3 b2 0), (4, aB false), (5, .ptr 5 b3 0), (8, aB ((asksD x).2)), (47, .ptr 3 b2 0), (48, aI r.kind), (49, aB (r.kind == 2)), (50, aB true)], (zN57 b2 r b3 x)⟩) 50 (b := r.kind == 2) (v := true) q6 (by kernel_rfl) (by kernel_rfl) ?_
      refine seq_run (r := [11, 12, 13, 14, 15]) [4, 5, 6, 7, 8, 9, 10] (s' := ⟨[(3, .ptr 3 b2 0), (4, aB false), (5, .ptr 5 b3 0), (8, aB ((asksD x).2)), (47, .ptr 3 b2 0), (48, aI r.kind), (49, aB (r.kind == 2)), (50, aB true), (51, .ptr 3 b2 4), (52, aI r.n), (53, .ptr 5 b3 4), (54, aI ((sayD x).1.n)), (55, aB (r.n != ((sayD x).1.n))), (56, aB (r.n != ((sayD x).1.n))), (57, aB (r.n != ((sayD x).1.n)))], (zN57 b2 r b3 x)⟩) (ps := [b2 = b2, b3 = b3]) (by kernel_rfl) ⟨rfl, rfl, trivial⟩ ?_
      rcases bneC (r.n) (((sayD x).1.n)) with ⟨q7, p7⟩ | ⟨q7, p7⟩
      ·
        refine seq_bool (s' := ⟨[(3, .ptr 3 b2 0), (4, aB false), (5, .ptr 5 b3 0), (8, aB ((asksD x).2)), (47, .ptr 3 b2 0), (48, aI r.kind), (49, aB (r.kind == 2)), (50, aB true), (51, .ptr 3 b2 4), (52, aI r.n), (53, .ptr 5 b3 4), (54, aI ((sayD x).1.n)), (55, aB (r.n != ((sayD x).1.n))), (56, aB (r.n != ((sayD x).1.n))), (57, aB true)], (zN57 b2 r b3 x)⟩) 57 (b := r.n != ((sayD x).1.n)) (v := true) q7 (by kernel_rfl) (by kernel_rfl) ?_
        refine seq_run (r := []) [11, 12, 13, 14, 15] (s' := ⟨[(3, .ptr 3 b2 0), (4, aB false), (5, .ptr 5 b3 0), (8, aB ((asksD x).2)), (47, .ptr 3 b2 0), (48, aI r.kind), (49, aB (r.kind == 2)), (50, aB true), (51, .ptr 3 b2 4), (52, aI r.n), (53, .ptr 5 b3 4), (54, aI ((sayD x).1.n)), (55, aB (r.n != ((sayD x).1.n))), (56, aB (r.n != ((sayD x).1.n))), (57, aB true), (58, .ptr 3 b2 4), (59, aI r.n), (60, aB (r.n != (-1))), (61, aB (r.n != (-1))), (46, aB (r.n != (-1)))], (zN57 b2 r b3 x)⟩) (ps := [b2 = b2]) (by kernel_rfl) ⟨rfl, trivial⟩ ?_
        refine hK23 _ ?_
        try clear hK23 K23
        refine awp_less ⟨[(3, .ptr 3 b2 0), (4, aB false), (5, .ptr 5 b3 0), (8, aB ((asksD x).2)), (46, aB (r.n != (-1)))], (zN57 b2 r b3 x)⟩ ⟨Sub.refl _, Sub.refl _, Sub.refl _, Sub.refl _, Sub.refl _, trivial⟩ ⟨⟨_, rfl, SubB.refl _⟩, ⟨_, rfl, SubB.refl _⟩, trivial⟩ ?_
        rcases bneC (r.n) ((-1)) with ⟨q8, p8⟩ | ⟨q8, p8⟩
        ·
          refine awp_if true (by omega) (by kernel_rfl) q8 ?_
          refine awp_exit ?_
          refine hK5 _ ?_
          try clear hK5 K5
          refine awp_less (zN521 b2 b3 r x) ⟨Sub.refl _, Sub.refl _, Sub.refl _, trivial⟩ ⟨⟨_, rfl, SubB.refl _⟩, ⟨_, rfl, SubB.refl _⟩, trivial⟩ ?_
          refine awp_seq_k (fun K24 hK24 => ?_)
          refine awp_seq_k (fun K25 hK25 => ?_)
          refine awp_region [0] (by rw [hc]; kernel_rfl) (by kernel_rfl) ?_
          refine seq_run (r := []) [0] (s' := (zN521 b2 b3 r x)) (ps := []) (by kernel_rfl) trivial ?_
          refine hK25 _ ?_
          try clear hK25 K25
          refine awp_ret ?_
          refine fin_ret ⟨[], [aB false], by kernel_rfl, trivial, ?_⟩
          have hM : meantD x r = false := by
            unfold meantD
            repeat (first | rw [if_pos (by first | assumption | omega)] | rw [if_neg (by first | omega | simp_all)])
            try rfl
          rw [hM]
          exact Sub.refl _
        refine awp_if false (by omega) (by kernel_rfl) q8 ?_
        refine awp_skip ?_
        refine hK8 _ ?_
        try clear hK8 K8
        refine awp_less (zN59 b2 b3 x r) ⟨Sub.refl _, Sub.refl _, Sub.refl _, Sub.refl _, trivial⟩ ⟨⟨_, rfl, SubB.refl _⟩, ⟨_, rfl, SubB.refl _⟩, trivial⟩ ?_
        refine awp_exit ?_
        refine hK4 _ ?_
        try clear hK4 K4
        refine awp_less (zN521 b2 b3 r x) ⟨Sub.refl _, Sub.refl _, Sub.refl _, trivial⟩ ⟨⟨_, rfl, SubB.refl _⟩, ⟨_, rfl, SubB.refl _⟩, trivial⟩ ?_
        refine awp_seq_k (fun K26 hK26 => ?_)
        refine awp_region [0, 1, 2, 3, 4, 5] (by rw [hc]; kernel_rfl) (by kernel_rfl) ?_
        refine seq_run (r := []) [0, 1, 2, 3, 4, 5] (s' := (zN517 b2 r x b3)) (ps := [b2 = b2, b3 = b3]) (by kernel_rfl) ⟨rfl, rfl, trivial⟩ ?_
        refine hK26 _ ?_
        try clear hK26 K26
        refine awp_less ⟨[(4, aB (r.kind == ((sayD x).1.kind)))], []⟩ ⟨Sub.refl _, trivial⟩ trivial ?_
        refine awp_ret ?_
        refine fin_ret ⟨[], [aB (r.kind == ((sayD x).1.kind))], by kernel_rfl, trivial, ?_⟩
        have hM : meantD x r = (r.kind == ((sayD x).1.kind)) := by
          unfold meantD
          repeat (first | rw [if_pos (by first | assumption | omega)] | rw [if_neg (by first | omega | simp_all)])
          try rfl
        rw [hM]
        exact Sub.refl _
      refine seq_bool (s' := ⟨[(3, .ptr 3 b2 0), (4, aB false), (5, .ptr 5 b3 0), (8, aB ((asksD x).2)), (47, .ptr 3 b2 0), (48, aI r.kind), (49, aB (r.kind == 2)), (50, aB true), (51, .ptr 3 b2 4), (52, aI r.n), (53, .ptr 5 b3 4), (54, aI ((sayD x).1.n)), (55, aB (r.n != ((sayD x).1.n))), (56, aB (r.n != ((sayD x).1.n))), (57, aB false)], (zN57 b2 r b3 x)⟩) 57 (b := r.n != ((sayD x).1.n)) (v := false) q7 (by kernel_rfl) (by kernel_rfl) ?_
      refine seq_run (r := []) [11, 12, 13, 14, 15] (s' := ⟨[(3, .ptr 3 b2 0), (4, aB false), (5, .ptr 5 b3 0), (8, aB ((asksD x).2)), (47, .ptr 3 b2 0), (48, aI r.kind), (49, aB (r.kind == 2)), (50, aB true), (51, .ptr 3 b2 4), (52, aI r.n), (53, .ptr 5 b3 4), (54, aI ((sayD x).1.n)), (55, aB (r.n != ((sayD x).1.n))), (56, aB (r.n != ((sayD x).1.n))), (57, aB false), (58, .val undef), (59, .val undef), (60, .val undef), (61, aB false), (46, aB false)], (zN57 b2 r b3 x)⟩) (ps := []) (by kernel_rfl) trivial ?_
      refine hK23 _ ?_
      try clear hK23 K23
      refine awp_less ⟨[(3, .ptr 3 b2 0), (4, aB false), (5, .ptr 5 b3 0), (8, aB ((asksD x).2)), (46, aB false)], (zN57 b2 r b3 x)⟩ ⟨Sub.refl _, Sub.refl _, Sub.refl _, Sub.refl _, Sub.refl _, trivial⟩ ⟨⟨_, rfl, SubB.refl _⟩, ⟨_, rfl, SubB.refl _⟩, trivial⟩ ?_
      refine awp_if false (by omega) (by kernel_rfl) rfl ?_
      refine awp_skip ?_
      refine hK8 _ ?_
      try clear hK8 K8
      refine awp_less (zN59 b2 b3 x r) ⟨Sub.refl _, Sub.refl _, Sub.refl _, Sub.refl _, trivial⟩ ⟨⟨_, rfl, SubB.refl _⟩, ⟨_, rfl, SubB.refl _⟩, trivial⟩ ?_
      refine awp_exit ?_
      refine hK4 _ ?_
      try clear hK4 K4
      refine awp_less (zN521 b2 b3 r x) ⟨Sub.refl _, Sub.refl _, Sub.refl _, trivial⟩ ⟨⟨_, rfl, SubB.refl _⟩, ⟨_, rfl, SubB.refl _⟩, trivial⟩ ?_
      refine awp_seq_k (fun K27 hK27 => ?_)
      refine awp_region [0, 1, 2, 3, 4, 5] (by rw [hc]; kernel_rfl) (by kernel_rfl) ?_
      refine seq_run (r := []) [0, 1, 2, 3, 4, 5] (s' := (zN517 b2 r x b3)) (ps := [b2 = b2, b3 = b3]) (by kernel_rfl) ⟨rfl, rfl, trivial⟩ ?_
      refine hK27 _ ?_
      try clear hK27 K27
      refine awp_less ⟨[(4, aB (r.kind == ((sayD x).1.kind)))], []⟩ ⟨Sub.refl _, trivial⟩ trivial ?_
      refine awp_ret ?_
      refine fin_ret ⟨[], [aB (r.kind == ((sayD x).1.kind))], by kernel_rfl, trivial, ?_⟩
      have hM : meantD x r = (r.kind == ((sayD x).1.kind)) := by
        unfold meantD
        repeat (first | rw [if_pos (by first | assumption | omega)] | rw [if_neg (by first | omega | simp_all)])
        try rfl
      rw [hM]
      exact Sub.refl _
    refine seq_bool (s' := ⟨[(3, .ptr 3 b2 0), (4, aB false), (5, .ptr 5 b3 0), (8, aB ((asksD x).2)), (47, .ptr 3 b2 0), (48, aI r.kind), (49, aB (r.kind == 2)), (50, aB false)], (zN57 b2 r b3 x)⟩) 50 (b := r.kind == 2) (v := false) q6 (by kernel_rfl) (by kernel_rfl) ?_
    refine seq_run (r := []) [4, 5, 6, 7, 8, 9, 10, 11, 12, 13, 14, 15] (s' := ⟨[(3, .ptr 3 b2 0), (4, aB false), (5, .ptr 5 b3 0), (8, aB ((asksD x).2)), (47, .ptr 3 b2 0), (48, aI r.kind), (49, aB (r.kind == 2)), (50, aB false), (51, .val undef), (52, .val undef), (53, .val undef), (54, .val undef), (55, .val undef), (56, aB false), (57, aB false), (58, .val undef), (59, .val undef), (60, .val undef), (61, aB false), (46, aB false)], (zN57 b2 r b3 x)⟩) (ps := []) (by kernel_rfl) trivial ?_
    refine hK23 _ ?_
    try clear hK23 K23
    refine awp_less ⟨[(3, .ptr 3 b2 0), (4, aB false), (5, .ptr 5 b3 0), (8, aB ((asksD x).2)), (46, aB false)], (zN57 b2 r b3 x)⟩ ⟨Sub.refl _, Sub.refl _, Sub.refl _, Sub.refl _, Sub.refl _, trivial⟩ ⟨⟨_, rfl, SubB.refl _⟩, ⟨_, rfl, SubB.refl _⟩, trivial⟩ ?_
    refine awp_if false (by omega) (by kernel_rfl) rfl ?_
    refine awp_skip ?_
    refine hK8 _ ?_
    try clear hK8 K8
    refine awp_less (zN59 b2 b3 x r) ⟨Sub.refl _, Sub.refl _, Sub.refl _, Sub.refl _, trivial⟩ ⟨⟨_, rfl, SubB.refl _⟩, ⟨_, rfl, SubB.refl _⟩, trivial⟩ ?_
    refine awp_exit ?_
    refine hK4 _ ?_
    try clear hK4 K4
    refine awp_less (zN521 b2 b3 r x) ⟨Sub.refl _, Sub.refl _, Sub.refl _, trivial⟩ ⟨⟨_, rfl, SubB.refl _⟩, ⟨_, rfl, SubB.refl _⟩, trivial⟩ ?_
    refine awp_seq_k (fun K28 hK28 => ?_)
    refine awp_region [0, 1, 2, 3, 4, 5] (by rw [hc]; kernel_rfl) (by kernel_rfl) ?_
    refine seq_run (r := []) [0, 1, 2, 3, 4, 5] (s' := (zN517 b2 r x b3)) (ps := [b2 = b2, b3 = b3]) (by kernel_rfl) ⟨rfl, rfl, trivial⟩ ?_
    refine hK28 _ ?_
    try clear hK28 K28
    refine awp_less ⟨[(4, aB (r.kind == ((sayD x).1.kind)))], []⟩ ⟨Sub.refl _, trivial⟩ trivial ?_
    refine awp_ret ?_
    refine fin_ret ⟨[], [aB (r.kind == ((sayD x).1.kind))], by kernel_rfl, trivial, ?_⟩
    have hM : meantD x r = (r.kind == ((sayD x).1.kind)) := by
      unfold meantD
      repeat (first | rw [if_pos (by first | assumption | omega)] | rw [if_neg (by first | omega | simp_all)])
      try rfl
    rw [hM]
    exact Sub.refl _
  refine awp_if true (by omega) (by kernel_rfl) (show (!((sayD x).2)) = true from by rw [q4]; rfl) ?_
  refine awp_exit ?_
  refine hK7 _ ?_
  try clear hK7 K7
  refine awp_less (zN59 b2 b3 x r) ⟨Sub.refl _, Sub.refl _, Sub.refl _, Sub.refl _, trivial⟩ ⟨⟨_, rfl, SubB.refl _⟩, ⟨_, rfl, SubB.refl _⟩, trivial⟩ ?_
  refine awp_seq_k (fun K29 hK29 => ?_)
  refine awp_seq_k (fun K30 hK30 => ?_)
  refine awp_region [0] (by rw [hc]; kernel_rfl) (by kernel_rfl) ?_
  refine seq_run (r := []) [0] (s' := (zN59 b2 b3 x r)) (ps := []) (by kernel_rfl) trivial ?_
  refine hK30 _ ?_
  try clear hK30 K30
  refine awp_ret ?_
  refine fin_ret ⟨[], [aB false], by kernel_rfl, trivial, ?_⟩
  have hM : meantD x r = false := by
    unfold meantD
    repeat (first | rw [if_pos (by first | assumption | omega)] | rw [if_neg (by first | omega | simp_all)])
    try rfl
  rw [hM]
  exact Sub.refl _
set_option maxRecDepth 100000 in
set_option maxHeartbeats 4000000 in
theorem hear_spec (x : Cli) (r : Rsp) (ok : OkX x) (hr : RightP x) (hn9 : x.now.length ≤ 1000) (ht : x.told.length ≤ 90000) (hw : x.now.length ≤ 90000) (hn0 : 0 ≤ x.n) (hn1 : x.n ≤ 1000000) (hq : x.seq ≤ 1000000) : FSpec Try.prog 17 [.agg [aI x.me, aI x.epoch, aI x.seq, .sl 1 false (x.jobs.map jobA), aI x.phase, aI x.n, aI x.stamp, .sl 4 false (x.told.map donA), .sl 6 false (x.now.map repA)], .agg [aI r.kind, aI r.client, aI r.epoch, aI r.seq, aI r.n, aI r.r.e, aI r.r.a, aI r.r.b, aI r.r.n, aS r.r.t, .sl 1 false (r.r.ns.map txA)]] (.agg (cliA (hearD x r))) := by
  have hs : I64 x.seq := ok.1.1.2.2.1
  have hs0 := hs.1
  have hs9 := hs.2
  refine spec_enter ⟨[(0, .agg (zN51 x)), (1, .agg (zN52 r))], []⟩ Try.func17 rfl (by kernel_rfl) (by kernel_rfl) rfl (fun t => match t with | 0 => rfl | 1 => rfl | _ + 2 => rfl) (fun c hc => ?_)
  replace hc : c.n = 27 := hc
  refine awp_seq_k (fun K1 hK1 => ?_)
  refine awp_region [0, 1, 2] (by rw [hc]; kernel_rfl) (by kernel_rfl) ?_
  refine seq_new (f := fun b1 => ⟨[(0, .agg (zN51 x)), (1, .agg (zN52 r)), (2, .ptr 2 b1 0)], [(2, .box b1 26 (zN51 x))]⟩) (by kernel_rfl) (fun b1 => ?_)
  refine seq_new (f := fun b2 => ⟨[(0, .agg (zN51 x)), (1, .agg (zN52 r)), (2, .ptr 2 b1 0), (3, .ptr 3 b2 0)], (zN523 b1 x b2 r)⟩) (by kernel_rfl) (fun b2 => ?_)
  refine seq_new (f := fun b3 => ⟨[(0, .agg (zN51 x)), (1, .agg (zN52 r)), (2, .ptr 2 b1 0), (3, .ptr 3 b2 0), (4, .ptr 4 b3 0)], (zN54 b1 x b2 r b3)⟩) (by kernel_rfl) (fun b3 => ?_)
  refine hK1 _ ?_
  try clear hK1 K1
  refine awp_less ⟨[(2, .ptr 2 b1 0), (3, .ptr 3 b2 0), (4, .ptr 4 b3 0)], (zN54 b1 x b2 r b3)⟩ ⟨Sub.refl _, Sub.refl _, Sub.refl _, trivial⟩ ⟨⟨_, rfl, SubB.refl _⟩, ⟨_, rfl, SubB.refl _⟩, ⟨_, rfl, SubB.refl _⟩, trivial⟩ ?_
  refine awp_seq_k (fun K2 hK2 => ?_)
  refine awp_region_draw [1, 2, 0, 3, 4, 5, 6, 7, 8] (by kernel_rfl) (by rw [hc]; kernel_rfl) (by kernel_rfl) ?_
  refine seq_run (r := [0, 3, 4, 5, 6, 7, 8]) [1, 2] (s' := ⟨[(2, .ptr 2 b1 0), (3, .ptr 3 b2 0), (4, .ptr 4 b3 0), (9, .ptr 3 b2 0), (10, aI r.kind)], (zN54 b1 x b2 r b3)⟩) (ps := [b2 = b2]) (by kernel_rfl) ⟨rfl, trivial⟩ ?_
  refine seq_call (f := 30) (args := []) (d := some 8) (args' := []) (s' := ⟨[(2, .ptr 2 b1 0), (3, .ptr 3 b2 0), (4, .ptr 4 b3 0), (9, .ptr 3 b2 0), (10, aI r.kind), (8, .mp [(.i 1, .val (.func (.func 49) #[] #[])), (.i 2, .val (.func (.func 50) #[] #[])), (.i 3, .val (.func (.func 51) #[] #[])), (.i 5, .val (.func (.func 51) #[] #[])), (.i 6, .val (.func (.func 52) #[] #[]))])], (zN54 b1 x b2 r b3)⟩) (by kernel_rfl) (fun _ _ => rfl) trivial (ears_spec) (by kernel_rfl) ?_
  rcases beqC (1) (r.kind) with ⟨q1, p1⟩ | ⟨q1, p1⟩
  ·
    refine seqLook (kt := 3) (e := 42) (k := .i r.kind) (es := [(.i 1, .val (.func (.func 49) #[] #[])), (.i 2, .val (.func (.func 50) #[] #[])), (.i 3, .val (.func (.func 51) #[] #[])), (.i 5, .val (.func (.func 51) #[] #[])), (.i 6, .val (.func (.func 52) #[] #[]))]) (ok := true) (d := some 11) (s' := ⟨[(2, .ptr 2 b1 0), (3, .ptr 3 b2 0), (4, .ptr 4 b3 0), (9, .ptr 3 b2 0), (10, aI r.kind), (8, .mp [(.i 1, .val (.func (.func 49) #[] #[])), (.i 2, .val (.func (.func 50) #[] #[])), (.i 3, .val (.func (.func 51) #[] #[])), (.i 5, .val (.func (.func 51) #[] #[])), (.i 6, .val (.func (.func 52) #[] #[]))]), (11, .tup zN530)], (zN54 b1 x b2 r b3)⟩) (some (0, .val (.func (.func 49) #[] #[]))) .nilFunc (by kernel_rfl) (by kernel_rfl) (by kernel_rfl) (by kernel_rfl) (by simp only [mfind]; rw [if_pos (by simpa using q1)]) (by kernel_rfl) ?_
    refine seq_run (r := []) [4, 5, 6, 7, 8] (s' := ⟨[(2, .ptr 2 b1 0), (3, .ptr 3 b2 0), (4, .ptr 4 b3 0), (9, .ptr 3 b2 0), (10, aI r.kind), (8, .mp [(.i 1, .val (.func (.func 49) #[] #[])), (.i 2, .val (.func (.func 50) #[] #[])), (.i 3, .val (.func (.func 51) #[] #[])), (.i 5, .val (.func (.func 51) #[] #[])), (.i 6, .val (.func (.func 52) #[] #[]))]), (11, .tup zN530), (7, .tup zN530), (12, .val (.func (.func 49) #[] #[])), (13, aB true), (5, .val (.func (.func 49) #[] #[])), (6, aB true)], (zN54 b1 x b2 r b3)⟩) (ps := []) (by kernel_rfl) trivial ?_
    refine hK2 _ ?_
    try clear hK2 K2
    refine awp_less ⟨[(2, .ptr 2 b1 0), (3, .ptr 3 b2 0), (4, .ptr 4 b3 0), (5, .val (.func (.func 49) #[] #[])), (6, aB true)], (zN54 b1 x b2 r b3)⟩ ⟨Sub.refl _, Sub.refl _, Sub.refl _, Sub.refl _, Sub.refl _, trivial⟩ ⟨⟨_, rfl, SubB.refl _⟩, ⟨_, rfl, SubB.refl _⟩, ⟨_, rfl, SubB.refl _⟩, trivial⟩ ?_
    refine awp_seq_k (fun K3 hK3 => ?_)
    refine awp_seq_k (fun K4 hK4 => ?_)
    refine awp_region [0, 1, 2, 3, 4, 5, 6, 7] (by rw [hc]; kernel_rfl) (by kernel_rfl) ?_
    refine seq_run (r := [5, 6, 7]) [0, 1, 2, 3, 4] (s' := ⟨[(2, .ptr 2 b1 0), (3, .ptr 3 b2 0), (4, .ptr 4 b3 0), (5, .val (.func (.func 49) #[] #[])), (6, aB true), (14, aB true), (15, aB false), (16, aB false), (17, .agg (zN51 x)), (18, .agg (zN52 r))], (zN54 b1 x b2 r b3)⟩) (ps := [b1 = b1, b2 = b2]) (by kernel_rfl) ⟨rfl, rfl, trivial⟩ ?_
    refine seq_call (f := 31) (args := [.agg (zN51 x), .agg (zN52 r)]) (d := some 19) (args' := [.agg (zN51 x), .agg (zN52 r)]) (s' := ⟨[(2, .ptr 2 b1 0), (3, .ptr 3 b2 0), (4, .ptr 4 b3 0), (5, .val (.func (.func 49) #[] #[])), (6, aB true), (14, aB true), (15, aB false), (16, aB false), (17, .agg (zN51 x)), (18, .agg (zN52 r)), (19, aB (meantD x r))], (zN54 b1 x b2 r b3)⟩) (by kernel_rfl) (fun _ _ => rfl) ⟨Sub.refl _, Sub.refl _, trivial⟩ (meant_spec x r ok hr hn9) (by kernel_rfl) ?_
    refine seq_run (r := []) [6, 7] (s' := ⟨[(2, .ptr 2 b1 0), (3, .ptr 3 b2 0), (4, .ptr 4 b3 0), (5, .val (.func (.func 49) #[] #[])), (6, aB true), (14, aB true), (15, aB false), (16, aB false), (17, .agg (zN51 x)), (18, .agg (zN52 r)), (19, aB (meantD x r)), (20, aB (!(meantD x r))), (21, aB (!(meantD x r)))], (zN54 b1 x b2 r b3)⟩) (ps := []) (by kernel_rfl) trivial ?_
    refine hK4 _ ?_
    try clear hK4 K4
    refine awp_less ⟨[(2, .ptr 2 b1 0), (3, .ptr 3 b2 0), (4, .ptr 4 b3 0), (5, .val (.func (.func 49) #[] #[])), (21, aB (!(meantD x r)))], (zN54 b1 x b2 r b3)⟩ ⟨Sub.refl _, Sub.refl _, Sub.refl _, Sub.refl _, Sub.refl _, trivial⟩ ⟨⟨_, rfl, SubB.refl _⟩, ⟨_, rfl, SubB.refl _⟩, ⟨_, rfl, SubB.refl _⟩, trivial⟩ ?_
    rcases boolC (meantD x r) with ⟨q2, p2⟩ | ⟨q2, p2⟩
    ·
      refine awp_if false (by omega) (by kernel_rfl) (show (!(meantD x r)) = false from by rw [q2]; rfl) ?_
      refine awp_skip ?_
      refine hK3 _ ?_
      try clear hK3 K3
      refine awp_less ⟨[(2, .ptr 2 b1 0), (3, .ptr 3 b2 0), (4, .ptr 4 b3 0), (5, .val (.func (.func 49) #[] #[]))], (zN54 b1 x b2 r b3)⟩ ⟨Sub.refl _, Sub.refl _, Sub.refl _, Sub.refl _, trivial⟩ ⟨⟨_, rfl, SubB.refl _⟩, ⟨_, rfl, SubB.refl _⟩, ⟨_, rfl, SubB.refl _⟩, trivial⟩ ?_
      refine awp_seq_k (fun K5 hK5 => ?_)
      refine awp_region [0, 1, 2, 3, 4] (by rw [hc]; kernel_rfl) (by kernel_rfl) ?_
      refine seq_run (r := [3, 4]) [0, 1, 2] (s' := ⟨[(2, .ptr 2 b1 0), (3, .ptr 3 b2 0), (4, .ptr 4 b3 0), (5, .val (.func (.func 49) #[] #[])), (23, .val (.func (.func 49) #[] #[])), (24, .agg (zN51 x)), (25, .agg (zN52 r))], (zN54 b1 x b2 r b3)⟩) (ps := [b1 = b1, b2 = b2]) (by kernel_rfl) ⟨rfl, rfl, trivial⟩ ?_
      refine seq_call (f := 49) (args := [.agg (zN51 x), .agg (zN52 r)]) (d := some 26) (args' := [.agg (zN51 x), .agg (zN52 r)]) (s' := ⟨(zN527 b1 b2 b3 x r), (zN54 b1 x b2 r b3)⟩) (by kernel_rfl) (fun _ _ => rfl) ⟨Sub.refl _, Sub.refl _, trivial⟩ (begun_spec x r hs ht hw hn0 hn1 hq) (by kernel_rfl) ?_
      refine seq_run (r := []) [4] (s' := ⟨(zN527 b1 b2 b3 x r), [(2, .box b1 26 (zN51 x)), (3, .box b2 32 (zN52 r)), (4, .box b3 26 (zN510 x r))]⟩) (ps := [b3 = b3]) (by kernel_rfl) ⟨rfl, trivial⟩ ?_
      refine hK5 _ ?_
      try clear hK5 K5
      refine awp_less ⟨[(4, .ptr 4 b3 0)], [(4, .box b3 26 (zN510 x r))]⟩ ⟨Sub.refl _, trivial⟩ ⟨⟨_, rfl, SubB.refl _⟩, trivial⟩ ?_
      refine awp_ret ?_
      refine fin_ret ⟨[b3 = b3], [.agg (zN510 x r)], by kernel_rfl, ⟨rfl, trivial⟩, ?_⟩
      have hM : hearD x r = (begunD x r) := by
        unfold hearD
        repeat (first | rw [if_pos (by first | assumption | omega)] | rw [if_neg (by first | assumption | omega | simp_all)])
        try rfl
      rw [hM]
      exact Sub.refl _
    refine awp_if true (by omega) (by kernel_rfl) (show (!(meantD x r)) = true from by rw [q2]; rfl) ?_
    refine awp_seq_k (fun K6 hK6 => ?_)
    refine awp_region [0, 1] (by rw [hc]; kernel_rfl) (by kernel_rfl) ?_
    refine seq_run (r := []) [0, 1] (s' := ⟨[(2, .ptr 2 b1 0), (3, .ptr 3 b2 0), (4, .ptr 4 b3 0), (5, .val (.func (.func 49) #[] #[])), (21, aB (!(meantD x r))), (22, .agg (zN51 x))], (zN515 b1 x b2 r b3)⟩) (ps := [b1 = b1, b3 = b3]) (by kernel_rfl) ⟨rfl, rfl, trivial⟩ ?_
    refine hK6 _ ?_
    try clear hK6 K6
    refine awp_less ⟨[(2, .ptr 2 b1 0), (3, .ptr 3 b2 0), (4, .ptr 4 b3 0), (5, .val (.func (.func 49) #[] #[]))], (zN515 b1 x b2 r b3)⟩ ⟨Sub.refl _, Sub.refl _, Sub.refl _, Sub.refl _, trivial⟩ ⟨⟨_, rfl, SubB.refl _⟩, ⟨_, rfl, SubB.refl _⟩, ⟨_, rfl, SubB.refl _⟩, trivial⟩ ?_
    refine awp_ret ?_
    refine fin_ret ⟨[b3 = b3], [.agg (zN51 x)], by kernel_rfl, ⟨rfl, trivial⟩, ?_⟩
    have hM : hearD x r = x := by
      unfold hearD
      repeat (first | rw [if_pos (by first | assumption | omega)] | rw [if_neg (by first | assumption | omega | simp_all)])
      try rfl
    rw [hM]
    exact Sub.refl _
  rcases beqC (2) (r.kind) with ⟨q3, p3⟩ | ⟨q3, p3⟩
  ·
    refine seqLook (kt := 3) (e := 42) (k := .i r.kind) (es := [(.i 1, .val (.func (.func 49) #[] #[])), (.i 2, .val (.func (.func 50) #[] #[])), (.i 3, .val (.func (.func 51) #[] #[])), (.i 5, .val (.func (.func 51) #[] #[])), (.i 6, .val (.func (.func 52) #[] #[]))]) (ok := true) (d := some 11) (s' := ⟨[(2, .ptr 2 b1 0), (3, .ptr 3 b2 0), (4, .ptr 4 b3 0), (9, .ptr 3 b2 0), (10, aI r.kind), (8, .mp [(.i 1, .val (.func (.func 49) #[] #[])), (.i 2, .val (.func (.func 50) #[] #[])), (.i 3, .val (.func (.func 51) #[] #[])), (.i 5, .val (.func (.func 51) #[] #[])), (.i 6, .val (.func (.func 52) #[] #[]))]), (11, .tup zN528)], (zN54 b1 x b2 r b3)⟩) (some (1, .val (.func (.func 50) #[] #[]))) .nilFunc (by kernel_rfl) (by kernel_rfl) (by kernel_rfl) (by kernel_rfl) (by simp only [mfind]; rw [if_neg (by simpa using q1)]; rw [if_pos (by simpa using q3)]) (by kernel_rfl) ?_
    refine seq_run (r := []) [4, 5, 6, 7, 8] (s' := ⟨[(2, .ptr 2 b1 0), (3, .ptr 3 b2 0), (4, .ptr 4 b3 0), (9, .ptr 3 b2 0), (10, aI r.kind), (8, .mp [(.i 1, .val (.func (.func 49) #[] #[])), (.i 2, .val (.func (.func 50) #[] #[])), (.i 3, .val (.func (.func 51) #[] #[])), (.i 5, .val (.func (.func 51) #[] #[])), (.i 6, .val (.func (.func 52) #[] #[]))]), (11, .tup zN528), (7, .tup zN528), (12, .val (.func (.func 50) #[] #[])), (13, aB true), (5, .val (.func (.func 50) #[] #[])), (6, aB true)], (zN54 b1 x b2 r b3)⟩) (ps := []) (by kernel_rfl) trivial ?_
    refine hK2 _ ?_
    try clear hK2 K2
    refine awp_less ⟨[(2, .ptr 2 b1 0), (3, .ptr 3 b2 0), (4, .ptr 4 b3 0), (5, .val (.func (.func 50) #[] #[])), (6, aB true)], (zN54 b1 x b2 r b3)⟩ ⟨Sub.refl _, Sub.refl _, Sub.refl _, Sub.refl _, Sub.refl _, trivial⟩ ⟨⟨_, rfl, SubB.refl _⟩, ⟨_, rfl, SubB.refl _⟩, ⟨_, rfl, SubB.refl _⟩, trivial⟩ ?_
    refine awp_seq_k (fun K7 hK7 => ?_)
    refine awp_seq_k (fun K8 hK8 => ?_)
    refine awp_region [0, 1, 2, 3, 4, 5, 6, 7] (by rw [hc]; kernel_rfl) (by kernel_rfl) ?_
    refine seq_run (r := [5, 6, 7]) [0, 1, 2, 3, 4] (s' := ⟨[(2, .ptr 2 b1 0), (3, .ptr 3 b2 0), (4, .ptr 4 b3 0), (5, .val (.func (.func 50) #[] #[])), (6, aB true), (14, aB true), (15, aB false), (16, aB false), (17, .agg (zN51 x)), (18, .agg (zN52 r))], (zN54 b1 x b2 r b3)⟩) (ps := [b1 = b1, b2 = b2]) (by kernel_rfl) ⟨rfl, rfl, trivial⟩ ?_
    refine seq_call (f := 31) (args := [.agg (zN51 x), .agg (zN52 r)]) (d := some 19) (args' := [.agg (zN51 x), .agg (zN52 r)]) (s' := ⟨[(2, .ptr 2 b1 0), (3, .ptr 3 b2 0), (4, .ptr 4 b3 0), (5, .val (.func (.func 50) #[] #[])), (6, aB true), (14, aB true), (15, aB false), (16, aB false), (17, .agg (zN51 x)), (18, .agg (zN52 r)), (19, aB (meantD x r))], (zN54 b1 x b2 r b3)⟩) (by kernel_rfl) (fun _ _ => rfl) ⟨Sub.refl _, Sub.refl _, trivial⟩ (meant_spec x r ok hr hn9) (by kernel_rfl) ?_
    refine seq_run (r := []) [6, 7] (s' := ⟨[(2, .ptr 2 b1 0), (3, .ptr 3 b2 0), (4, .ptr 4 b3 0), (5, .val (.func (.func 50) #[] #[])), (6, aB true), (14, aB true), (15, aB false), (16, aB false), (17, .agg (zN51 x)), (18, .agg (zN52 r)), (19, aB (meantD x r)), (20, aB (!(meantD x r))), (21, aB (!(meantD x r)))], (zN54 b1 x b2 r b3)⟩) (ps := []) (by kernel_rfl) trivial ?_
    refine hK8 _ ?_
    try clear hK8 K8
    refine awp_less ⟨[(2, .ptr 2 b1 0), (3, .ptr 3 b2 0), (4, .ptr 4 b3 0), (5, .val (.func (.func 50) #[] #[])), (21, aB (!(meantD x r)))], (zN54 b1 x b2 r b3)⟩ ⟨Sub.refl _, Sub.refl _, Sub.refl _, Sub.refl _, Sub.refl _, trivial⟩ ⟨⟨_, rfl, SubB.refl _⟩, ⟨_, rfl, SubB.refl _⟩, ⟨_, rfl, SubB.refl _⟩, trivial⟩ ?_
    rcases boolC (meantD x r) with ⟨q4, p4⟩ | ⟨q4, p4⟩
    ·
      refine awp_if false (by omega) (by kernel_rfl) (show (!(meantD x r)) = false from by rw [q4]; rfl) ?_
      refine awp_skip ?_
      refine hK7 _ ?_
      try clear hK7 K7
      refine awp_less ⟨[(2, .ptr 2 b1 0), (3, .ptr 3 b2 0), (4, .ptr 4 b3 0), (5, .val (.func (.func 50) #[] #[]))], (zN54 b1 x b2 r b3)⟩ ⟨Sub.refl _, Sub.refl _, Sub.refl _, Sub.refl _, trivial⟩ ⟨⟨_, rfl, SubB.refl _⟩, ⟨_, rfl, SubB.refl _⟩, ⟨_, rfl, SubB.refl _⟩, trivial⟩ ?_
      refine awp_seq_k (fun K9 hK9 => ?_)
      refine awp_region [0, 1, 2, 3, 4] (by rw [hc]; kernel_rfl) (by kernel_rfl) ?_
      refine seq_run (r := [3, 4]) [0, 1, 2] (s' := ⟨[(2, .ptr 2 b1 0), (3, .ptr 3 b2 0), (4, .ptr 4 b3 0), (5, .val (.func (.func 50) #[] #[])), (23, .val (.func (.func 50) #[] #[])), (24, .agg (zN51 x)), (25, .agg (zN52 r))], (zN54 b1 x b2 r b3)⟩) (ps := [b1 = b1, b2 = b2]) (by kernel_rfl) ⟨rfl, rfl, trivial⟩ ?_
      refine seq_call (f := 50) (args := [.agg (zN51 x), .agg (zN52 r)]) (d := some 26) (args' := [.agg (zN51 x), .agg (zN52 r)]) (s' := ⟨(zN526 b1 b2 b3 x r), (zN54 b1 x b2 r b3)⟩) (by kernel_rfl) (fun _ _ => rfl) ⟨Sub.refl _, Sub.refl _, trivial⟩ (called_spec x r hs ht hw hn0 hn1 hq) (by kernel_rfl) ?_
      refine seq_run (r := []) [4] (s' := ⟨(zN526 b1 b2 b3 x r), [(2, .box b1 26 (zN51 x)), (3, .box b2 32 (zN52 r)), (4, .box b3 26 (zN58 x r))]⟩) (ps := [b3 = b3]) (by kernel_rfl) ⟨rfl, trivial⟩ ?_
      refine hK9 _ ?_
      try clear hK9 K9
      refine awp_less ⟨[(4, .ptr 4 b3 0)], [(4, .box b3 26 (zN58 x r))]⟩ ⟨Sub.refl _, trivial⟩ ⟨⟨_, rfl, SubB.refl _⟩, trivial⟩ ?_
      refine awp_ret ?_
      refine fin_ret ⟨[b3 = b3], [.agg (zN58 x r)], by kernel_rfl, ⟨rfl, trivial⟩, ?_⟩
      have hM : hearD x r = (calledD x r) := by
        unfold hearD
        repeat (first | rw [if_pos (by first | assumption | omega)] | rw [if_neg (by first | assumption | omega | simp_all)])
        try rfl
      rw [hM]
      exact Sub.refl _
    refine awp_if true (by omega) (by kernel_rfl) (show (!(meantD x r)) = true from by rw [q4]; rfl) ?_
    refine awp_seq_k (fun K10 hK10 => ?_)
    refine awp_region [0, 1] (by rw [hc]; kernel_rfl) (by kernel_rfl) ?_
    refine seq_run (r := []) [0, 1] (s' := ⟨[(2, .ptr 2 b1 0), (3, .ptr 3 b2 0), (4, .ptr 4 b3 0), (5, .val (.func (.func 50) #[] #[])), (21, aB (!(meantD x r))), (22, .agg (zN51 x))], (zN515 b1 x b2 r b3)⟩) (ps := [b1 = b1, b3 = b3]) (by kernel_rfl) ⟨rfl, rfl, trivial⟩ ?_
    refine hK10 _ ?_
    try clear hK10 K10
    refine awp_less ⟨[(2, .ptr 2 b1 0), (3, .ptr 3 b2 0), (4, .ptr 4 b3 0), (5, .val (.func (.func 50) #[] #[]))], (zN515 b1 x b2 r b3)⟩ ⟨Sub.refl _, Sub.refl _, Sub.refl _, Sub.refl _, trivial⟩ ⟨⟨_, rfl, SubB.refl _⟩, ⟨_, rfl, SubB.refl _⟩, ⟨_, rfl, SubB.refl _⟩, trivial⟩ ?_
    refine awp_ret ?_
    refine fin_ret ⟨[b3 = b3], [.agg (zN51 x)], by kernel_rfl, ⟨rfl, trivial⟩, ?_⟩
    have hM : hearD x r = x := by
      unfold hearD
      repeat (first | rw [if_pos (by first | assumption | omega)] | rw [if_neg (by first | assumption | omega | simp_all)])
      try rfl
    rw [hM]
    exact Sub.refl _
  rcases beqC (3) (r.kind) with ⟨q5, p5⟩ | ⟨q5, p5⟩
  ·
    refine seqLook (kt := 3) (e := 42) (k := .i r.kind) (es := [(.i 1, .val (.func (.func 49) #[] #[])), (.i 2, .val (.func (.func 50) #[] #[])), (.i 3, .val (.func (.func 51) #[] #[])), (.i 5, .val (.func (.func 51) #[] #[])), (.i 6, .val (.func (.func 52) #[] #[]))]) (ok := true) (d := some 11) (s' := (zN516 b1 b2 b3 r x)) (some (2, .val (.func (.func 51) #[] #[]))) .nilFunc (by kernel_rfl) (by kernel_rfl) (by kernel_rfl) (by kernel_rfl) (by simp only [mfind]; rw [if_neg (by simpa using q1)]; rw [if_neg (by simpa using q3)]; rw [if_pos (by simpa using q5)]) (by kernel_rfl) ?_
    refine seq_run (r := []) [4, 5, 6, 7, 8] (s' := (zN513 b1 b2 b3 r x)) (ps := []) (by kernel_rfl) trivial ?_
    refine hK2 _ ?_
    try clear hK2 K2
    refine awp_less ⟨[(2, .ptr 2 b1 0), (3, .ptr 3 b2 0), (4, .ptr 4 b3 0), (5, .val (.func (.func 51) #[] #[])), (6, aB true)], (zN54 b1 x b2 r b3)⟩ ⟨Sub.refl _, Sub.refl _, Sub.refl _, Sub.refl _, Sub.refl _, trivial⟩ ⟨⟨_, rfl, SubB.refl _⟩, ⟨_, rfl, SubB.refl _⟩, ⟨_, rfl, SubB.refl _⟩, trivial⟩ ?_
    refine awp_seq_k (fun K11 hK11 => ?_)
    refine awp_seq_k (fun K12 hK12 => ?_)
    refine awp_region [0, 1, 2, 3, 4, 5, 6, 7] (by rw [hc]; kernel_rfl) (by kernel_rfl) ?_
    refine seq_run (r := [5, 6, 7]) [0, 1, 2, 3, 4] (s' := (zN524 b1 b2 b3 x r)) (ps := [b1 = b1, b2 = b2]) (by kernel_rfl) ⟨rfl, rfl, trivial⟩ ?_
    refine seq_call (f := 31) (args := [.agg (zN51 x), .agg (zN52 r)]) (d := some 19) (args' := [.agg (zN51 x), .agg (zN52 r)]) (s' := (zN520 b1 b2 b3 x r)) (by kernel_rfl) (fun _ _ => rfl) ⟨Sub.refl _, Sub.refl _, trivial⟩ (meant_spec x r ok hr hn9) (by kernel_rfl) ?_
    refine seq_run (r := []) [6, 7] (s' := (zN519 b1 b2 b3 x r)) (ps := []) (by kernel_rfl) trivial ?_
    refine hK12 _ ?_
    try clear hK12 K12
    refine awp_less ⟨[(2, .ptr 2 b1 0), (3, .ptr 3 b2 0), (4, .ptr 4 b3 0), (5, .val (.func (.func 51) #[] #[])), (21, aB (!(meantD x r)))], (zN54 b1 x b2 r b3)⟩ ⟨Sub.refl _, Sub.refl _, Sub.refl _, Sub.refl _, Sub.refl _, trivial⟩ ⟨⟨_, rfl, SubB.refl _⟩, ⟨_, rfl, SubB.refl _⟩, ⟨_, rfl, SubB.refl _⟩, trivial⟩ ?_
    rcases boolC (meantD x r) with ⟨q6, p6⟩ | ⟨q6, p6⟩
    ·
      refine awp_if false (by omega) (by kernel_rfl) (show (!(meantD x r)) = false from by rw [q6]; rfl) ?_
      refine awp_skip ?_
      refine hK11 _ ?_
      try clear hK11 K11
      refine awp_less ⟨(zN518 b1 b2 b3), (zN54 b1 x b2 r b3)⟩ ⟨Sub.refl _, Sub.refl _, Sub.refl _, Sub.refl _, trivial⟩ ⟨⟨_, rfl, SubB.refl _⟩, ⟨_, rfl, SubB.refl _⟩, ⟨_, rfl, SubB.refl _⟩, trivial⟩ ?_
      refine awp_seq_k (fun K13 hK13 => ?_)
      refine awp_region [0, 1, 2, 3, 4] (by rw [hc]; kernel_rfl) (by kernel_rfl) ?_
      refine seq_run (r := [3, 4]) [0, 1, 2] (s' := (zN522 b1 b2 b3 x r)) (ps := [b1 = b1, b2 = b2]) (by kernel_rfl) ⟨rfl, rfl, trivial⟩ ?_
      refine seq_call (f := 51) (args := [.agg (zN51 x), .agg (zN52 r)]) (d := some 26) (args' := [.agg (zN51 x), .agg (zN52 r)]) (s' := ⟨(zN514 b1 b2 b3 x r), (zN54 b1 x b2 r b3)⟩) (by kernel_rfl) (fun _ _ => rfl) ⟨Sub.refl _, Sub.refl _, trivial⟩ (decided_spec x r hs ht hw hn0 hn1 hq) (by kernel_rfl) ?_
      refine seq_run (r := []) [4] (s' := ⟨(zN514 b1 b2 b3 x r), [(2, .box b1 26 (zN51 x)), (3, .box b2 32 (zN52 r)), (4, .box b3 26 (zN56 x r))]⟩) (ps := [b3 = b3]) (by kernel_rfl) ⟨rfl, trivial⟩ ?_
      refine hK13 _ ?_
      try clear hK13 K13
      refine awp_less ⟨[(4, .ptr 4 b3 0)], [(4, .box b3 26 (zN56 x r))]⟩ ⟨Sub.refl _, trivial⟩ ⟨⟨_, rfl, SubB.refl _⟩, trivial⟩ ?_
      refine awp_ret ?_
      refine fin_ret ⟨[b3 = b3], [.agg (zN56 x r)], by kernel_rfl, ⟨rfl, trivial⟩, ?_⟩
      have hM : hearD x r = (decidedD x r) := by
        unfold hearD
        repeat (first | rw [if_pos (by first | assumption | omega)] | rw [if_neg (by first | assumption | omega | simp_all)])
        try rfl
      rw [hM]
      exact Sub.refl _
    refine awp_if true (by omega) (by kernel_rfl) (show (!(meantD x r)) = true from by rw [q6]; rfl) ?_
    refine awp_seq_k (fun K14 hK14 => ?_)
    refine awp_region [0, 1] (by rw [hc]; kernel_rfl) (by kernel_rfl) ?_
    refine seq_run (r := []) [0, 1] (s' := ⟨[(2, .ptr 2 b1 0), (3, .ptr 3 b2 0), (4, .ptr 4 b3 0), (5, .val (.func (.func 51) #[] #[])), (21, aB (!(meantD x r))), (22, .agg (zN51 x))], (zN515 b1 x b2 r b3)⟩) (ps := [b1 = b1, b3 = b3]) (by kernel_rfl) ⟨rfl, rfl, trivial⟩ ?_
    refine hK14 _ ?_
    try clear hK14 K14
    refine awp_less ⟨(zN518 b1 b2 b3), (zN515 b1 x b2 r b3)⟩ ⟨Sub.refl _, Sub.refl _, Sub.refl _, Sub.refl _, trivial⟩ ⟨⟨_, rfl, SubB.refl _⟩, ⟨_, rfl, SubB.refl _⟩, ⟨_, rfl, SubB.refl _⟩, trivial⟩ ?_
    refine awp_ret ?_
    refine fin_ret ⟨[b3 = b3], [.agg (zN51 x)], by kernel_rfl, ⟨rfl, trivial⟩, ?_⟩
    have hM : hearD x r = x := by
      unfold hearD
      repeat (first | rw [if_pos (by first | assumption | omega)] | rw [if_neg (by first | assumption | omega | simp_all)])
      try rfl
    rw [hM]
    exact Sub.refl _
  rcases beqC (5) (r.kind) with ⟨q7, p7⟩ | ⟨q7, p7⟩
  ·
    refine seqLook (kt := 3) (e := 42) (k := .i r.kind) (es := [(.i 1, .val (.func (.func 49) #[] #[])), (.i 2, .val (.func (.func 50) #[] #[])), (.i 3, .val (.func (.func 51) #[] #[])), (.i 5, .val (.func (.func 51) #[] #[])), (.i 6, .val (.func (.func 52) #[] #[]))]) (ok := true) (d := some 11) (s' := (zN516 b1 b2 b3 r x)) (some (3, .val (.func (.func 51) #[] #[]))) .nilFunc (by kernel_rfl) (by kernel_rfl) (by kernel_rfl) (by kernel_rfl) (by simp only [mfind]; rw [if_neg (by simpa using q1)]; rw [if_neg (by simpa using q3)]; rw [if_neg (by simpa using q5)]; rw [if_pos (by simpa using q7)]) (by kernel_rfl) ?_
    refine seq_run (r := []) [4, 5, 6, 7, 8] (s' := (zN513 b1 b2 b3 r x)) (ps := []) (by kernel_rfl) trivial ?_
    refine hK2 _ ?_
    try clear hK2 K2
    refine awp_less ⟨[(2, .ptr 2 b1 0), (3, .ptr 3 b2 0), (4, .ptr 4 b3 0), (5, .val (.func (.func 51) #[] #[])), (6, aB true)], (zN54 b1 x b2 r b3)⟩ ⟨Sub.refl _, Sub.refl _, Sub.refl _, Sub.refl _, Sub.refl _, trivial⟩ ⟨⟨_, rfl, SubB.refl _⟩, ⟨_, rfl, SubB.refl _⟩, ⟨_, rfl, SubB.refl _⟩, trivial⟩ ?_
    refine awp_seq_k (fun K15 hK15 => ?_)
    refine awp_seq_k (fun K16 hK16 => ?_)
    refine awp_region [0, 1, 2, 3, 4, 5, 6, 7] (by rw [hc]; kernel_rfl) (by kernel_rfl) ?_
    refine seq_run (r := [5, 6, 7]) [0, 1, 2, 3, 4] (s' := (zN524 b1 b2 b3 x r)) (ps := [b1 = b1, b2 = b2]) (by kernel_rfl) ⟨rfl, rfl, trivial⟩ ?_
    refine seq_call (f := 31) (args := [.agg (zN51 x), .agg (zN52 r)]) (d := some 19) (args' := [.agg (zN51 x), .agg (zN52 r)]) (s' := (zN520 b1 b2 b3 x r)) (by kernel_rfl) (fun _ _ => rfl) ⟨Sub.refl _, Sub.refl _, trivial⟩ (meant_spec x r ok hr hn9) (by kernel_rfl) ?_
    refine seq_run (r := []) [6, 7] (s' := (zN519 b1 b2 b3 x r)) (ps := []) (by kernel_rfl) trivial ?_
    refine hK16 _ ?_
    try clear hK16 K16
    refine awp_less ⟨[(2, .ptr 2 b1 0), (3, .ptr 3 b2 0), (4, .ptr 4 b3 0), (5, .val (.func (.func 51) #[] #[])), (21, aB (!(meantD x r)))], (zN54 b1 x b2 r b3)⟩ ⟨Sub.refl _, Sub.refl _, Sub.refl _, Sub.refl _, Sub.refl _, trivial⟩ ⟨⟨_, rfl, SubB.refl _⟩, ⟨_, rfl, SubB.refl _⟩, ⟨_, rfl, SubB.refl _⟩, trivial⟩ ?_
    rcases boolC (meantD x r) with ⟨q8, p8⟩ | ⟨q8, p8⟩
    ·
      refine awp_if false (by omega) (by kernel_rfl) (show (!(meantD x r)) = false from by rw [q8]; rfl) ?_
      refine awp_skip ?_
      refine hK15 _ ?_
      try clear hK15 K15
      refine awp_less ⟨(zN518 b1 b2 b3), (zN54 b1 x b2 r b3)⟩ ⟨Sub.refl _, Sub.refl _, Sub.refl _, Sub.refl _, trivial⟩ ⟨⟨_, rfl, SubB.refl _⟩, ⟨_, rfl, SubB.refl _⟩, ⟨_, rfl, SubB.refl _⟩, trivial⟩ ?_
      refine awp_seq_k (fun K17 hK17 => ?_)
      refine awp_region [0, 1, 2, 3, 4] (by rw [hc]; kernel_rfl) (by kernel_rfl) ?_
      refine seq_run (r := [3, 4]) [0, 1, 2] (s' := (zN522 b1 b2 b3 x r)) (ps := [b1 = b1, b2 = b2]) (by kernel_rfl) ⟨rfl, rfl, trivial⟩ ?_
      refine seq_call (f := 51) (args := [.agg (zN51 x), .agg (zN52 r)]) (d := some 26) (args' := [.agg (zN51 x), .agg (zN52 r)]) (s' := ⟨(zN514 b1 b2 b3 x r), (zN54 b1 x b2 r b3)⟩) (by kernel_rfl) (fun _ _ => rfl) ⟨Sub.refl _, Sub.refl _, trivial⟩ (decided_spec x r hs ht hw hn0 hn1 hq) (by kernel_rfl) ?_
      refine seq_run (r := []) [4] (s' := ⟨(zN514 b1 b2 b3 x r), [(2, .box b1 26 (zN51 x)), (3, .box b2 32 (zN52 r)), (4, .box b3 26 (zN56 x r))]⟩) (ps := [b3 = b3]) (by kernel_rfl) ⟨rfl, trivial⟩ ?_
      refine hK17 _ ?_
      try clear hK17 K17
      refine awp_less ⟨[(4, .ptr 4 b3 0)], [(4, .box b3 26 (zN56 x r))]⟩ ⟨Sub.refl _, trivial⟩ ⟨⟨_, rfl, SubB.refl _⟩, trivial⟩ ?_
      refine awp_ret ?_
      refine fin_ret ⟨[b3 = b3], [.agg (zN56 x r)], by kernel_rfl, ⟨rfl, trivial⟩, ?_⟩
      have hM : hearD x r = (decidedD x r) := by
        unfold hearD
        repeat (first | rw [if_pos (by first | assumption | omega)] | rw [if_neg (by first | assumption | omega | simp_all)])
        try rfl
      rw [hM]
      exact Sub.refl _
    refine awp_if true (by omega) (by kernel_rfl) (show (!(meantD x r)) = true from by rw [q8]; rfl) ?_
    refine awp_seq_k (fun K18 hK18 => ?_)
    refine awp_region [0, 1] (by rw [hc]; kernel_rfl) (by kernel_rfl) ?_
    refine seq_run (r := []) [0, 1] (s' := ⟨[(2, .ptr 2 b1 0), (3, .ptr 3 b2 0), (4, .ptr 4 b3 0), (5, .val (.func (.func 51) #[] #[])), (21, aB (!(meantD x r))), (22, .agg (zN51 x))], (zN515 b1 x b2 r b3)⟩) (ps := [b1 = b1, b3 = b3]) (by kernel_rfl) ⟨rfl, rfl, trivial⟩ ?_
    refine hK18 _ ?_
    try clear hK18 K18
    refine awp_less ⟨(zN518 b1 b2 b3), (zN515 b1 x b2 r b3)⟩ ⟨Sub.refl _, Sub.refl _, Sub.refl _, Sub.refl _, trivial⟩ ⟨⟨_, rfl, SubB.refl _⟩, ⟨_, rfl, SubB.refl _⟩, ⟨_, rfl, SubB.refl _⟩, trivial⟩ ?_
    refine awp_ret ?_
    refine fin_ret ⟨[b3 = b3], [.agg (zN51 x)], by kernel_rfl, ⟨rfl, trivial⟩, ?_⟩
    have hM : hearD x r = x := by
      unfold hearD
      repeat (first | rw [if_pos (by first | assumption | omega)] | rw [if_neg (by first | assumption | omega | simp_all)])
      try rfl
    rw [hM]
    exact Sub.refl _
  rcases beqC (6) (r.kind) with ⟨q9, p9⟩ | ⟨q9, p9⟩
  ·
    refine seqLook (kt := 3) (e := 42) (k := .i r.kind) (es := [(.i 1, .val (.func (.func 49) #[] #[])), (.i 2, .val (.func (.func 50) #[] #[])), (.i 3, .val (.func (.func 51) #[] #[])), (.i 5, .val (.func (.func 51) #[] #[])), (.i 6, .val (.func (.func 52) #[] #[]))]) (ok := true) (d := some 11) (s' := ⟨[(2, .ptr 2 b1 0), (3, .ptr 3 b2 0), (4, .ptr 4 b3 0), (9, .ptr 3 b2 0), (10, aI r.kind), (8, .mp [(.i 1, .val (.func (.func 49) #[] #[])), (.i 2, .val (.func (.func 50) #[] #[])), (.i 3, .val (.func (.func 51) #[] #[])), (.i 5, .val (.func (.func 51) #[] #[])), (.i 6, .val (.func (.func 52) #[] #[]))]), (11, .tup zN529)], (zN54 b1 x b2 r b3)⟩) (some (4, .val (.func (.func 52) #[] #[]))) .nilFunc (by kernel_rfl) (by kernel_rfl) (by kernel_rfl) (by kernel_rfl) (by simp only [mfind]; rw [if_neg (by simpa using q1)]; rw [if_neg (by simpa using q3)]; rw [if_neg (by simpa using q5)]; rw [if_neg (by simpa using q7)]; rw [if_pos (by simpa using q9)]) (by kernel_rfl) ?_
    refine seq_run (r := []) [4, 5, 6, 7, 8] (s' := ⟨[(2, .ptr 2 b1 0), (3, .ptr 3 b2 0), (4, .ptr 4 b3 0), (9, .ptr 3 b2 0), (10, aI r.kind), (8, .mp [(.i 1, .val (.func (.func 49) #[] #[])), (.i 2, .val (.func (.func 50) #[] #[])), (.i 3, .val (.func (.func 51) #[] #[])), (.i 5, .val (.func (.func 51) #[] #[])), (.i 6, .val (.func (.func 52) #[] #[]))]), (11, .tup zN529), (7, .tup zN529), (12, .val (.func (.func 52) #[] #[])), (13, aB true), (5, .val (.func (.func 52) #[] #[])), (6, aB true)], (zN54 b1 x b2 r b3)⟩) (ps := []) (by kernel_rfl) trivial ?_
    refine hK2 _ ?_
    try clear hK2 K2
    refine awp_less ⟨[(2, .ptr 2 b1 0), (3, .ptr 3 b2 0), (4, .ptr 4 b3 0), (5, .val (.func (.func 52) #[] #[])), (6, aB true)], (zN54 b1 x b2 r b3)⟩ ⟨Sub.refl _, Sub.refl _, Sub.refl _, Sub.refl _, Sub.refl _, trivial⟩ ⟨⟨_, rfl, SubB.refl _⟩, ⟨_, rfl, SubB.refl _⟩, ⟨_, rfl, SubB.refl _⟩, trivial⟩ ?_
    refine awp_seq_k (fun K19 hK19 => ?_)
    refine awp_seq_k (fun K20 hK20 => ?_)
    refine awp_region [0, 1, 2, 3, 4, 5, 6, 7] (by rw [hc]; kernel_rfl) (by kernel_rfl) ?_
    refine seq_run (r := [5, 6, 7]) [0, 1, 2, 3, 4] (s' := ⟨[(2, .ptr 2 b1 0), (3, .ptr 3 b2 0), (4, .ptr 4 b3 0), (5, .val (.func (.func 52) #[] #[])), (6, aB true), (14, aB true), (15, aB false), (16, aB false), (17, .agg (zN51 x)), (18, .agg (zN52 r))], (zN54 b1 x b2 r b3)⟩) (ps := [b1 = b1, b2 = b2]) (by kernel_rfl) ⟨rfl, rfl, trivial⟩ ?_
    refine seq_call (f := 31) (args := [.agg (zN51 x), .agg (zN52 r)]) (d := some 19) (args' := [.agg (zN51 x), .agg (zN52 r)]) (s' := ⟨[(2, .ptr 2 b1 0), (3, .ptr 3 b2 0), (4, .ptr 4 b3 0), (5, .val (.func (.func 52) #[] #[])), (6, aB true), (14, aB true), (15, aB false), (16, aB false), (17, .agg (zN51 x)), (18, .agg (zN52 r)), (19, aB (meantD x r))], (zN54 b1 x b2 r b3)⟩) (by kernel_rfl) (fun _ _ => rfl) ⟨Sub.refl _, Sub.refl _, trivial⟩ (meant_spec x r ok hr hn9) (by kernel_rfl) ?_
    refine seq_run (r := []) [6, 7] (s' := ⟨[(2, .ptr 2 b1 0), (3, .ptr 3 b2 0), (4, .ptr 4 b3 0), (5, .val (.func (.func 52) #[] #[])), (6, aB true), (14, aB true), (15, aB false), (16, aB false), (17, .agg (zN51 x)), (18, .agg (zN52 r)), (19, aB (meantD x r)), (20, aB (!(meantD x r))), (21, aB (!(meantD x r)))], (zN54 b1 x b2 r b3)⟩) (ps := []) (by kernel_rfl) trivial ?_
    refine hK20 _ ?_
    try clear hK20 K20
    refine awp_less ⟨[(2, .ptr 2 b1 0), (3, .ptr 3 b2 0), (4, .ptr 4 b3 0), (5, .val (.func (.func 52) #[] #[])), (21, aB (!(meantD x r)))], (zN54 b1 x b2 r b3)⟩ ⟨Sub.refl _, Sub.refl _, Sub.refl _, Sub.refl _, Sub.refl _, trivial⟩ ⟨⟨_, rfl, SubB.refl _⟩, ⟨_, rfl, SubB.refl _⟩, ⟨_, rfl, SubB.refl _⟩, trivial⟩ ?_
    rcases boolC (meantD x r) with ⟨q10, p10⟩ | ⟨q10, p10⟩
    ·
      refine awp_if false (by omega) (by kernel_rfl) (show (!(meantD x r)) = false from by rw [q10]; rfl) ?_
      refine awp_skip ?_
      refine hK19 _ ?_
      try clear hK19 K19
      refine awp_less ⟨[(2, .ptr 2 b1 0), (3, .ptr 3 b2 0), (4, .ptr 4 b3 0), (5, .val (.func (.func 52) #[] #[]))], (zN54 b1 x b2 r b3)⟩ ⟨Sub.refl _, Sub.refl _, Sub.refl _, Sub.refl _, trivial⟩ ⟨⟨_, rfl, SubB.refl _⟩, ⟨_, rfl, SubB.refl _⟩, ⟨_, rfl, SubB.refl _⟩, trivial⟩ ?_
      refine awp_seq_k (fun K21 hK21 => ?_)
      refine awp_region [0, 1, 2, 3, 4] (by rw [hc]; kernel_rfl) (by kernel_rfl) ?_
      refine seq_run (r := [3, 4]) [0, 1, 2] (s' := ⟨[(2, .ptr 2 b1 0), (3, .ptr 3 b2 0), (4, .ptr 4 b3 0), (5, .val (.func (.func 52) #[] #[])), (23, .val (.func (.func 52) #[] #[])), (24, .agg (zN51 x)), (25, .agg (zN52 r))], (zN54 b1 x b2 r b3)⟩) (ps := [b1 = b1, b2 = b2]) (by kernel_rfl) ⟨rfl, rfl, trivial⟩ ?_
      refine seq_call (f := 52) (args := [.agg (zN51 x), .agg (zN52 r)]) (d := some 26) (args' := [.agg (zN51 x), .agg (zN52 r)]) (s' := ⟨(zN525 b1 b2 b3 x r), (zN54 b1 x b2 r b3)⟩) (by kernel_rfl) (fun _ _ => rfl) ⟨Sub.refl _, Sub.refl _, trivial⟩ (ack_spec x r hs ht hw hn0 hn1 hq) (by kernel_rfl) ?_
      refine seq_run (r := []) [4] (s' := ⟨(zN525 b1 b2 b3 x r), [(2, .box b1 26 (zN51 x)), (3, .box b2 32 (zN52 r)), (4, .box b3 26 (zN511 x r))]⟩) (ps := [b3 = b3]) (by kernel_rfl) ⟨rfl, trivial⟩ ?_
      refine hK21 _ ?_
      try clear hK21 K21
      refine awp_less ⟨[(4, .ptr 4 b3 0)], [(4, .box b3 26 (zN511 x r))]⟩ ⟨Sub.refl _, trivial⟩ ⟨⟨_, rfl, SubB.refl _⟩, trivial⟩ ?_
      refine awp_ret ?_
      refine fin_ret ⟨[b3 = b3], [.agg (zN511 x r)], by kernel_rfl, ⟨rfl, trivial⟩, ?_⟩
      have hM : hearD x r = (ackD x r) := by
        unfold hearD
        repeat (first | rw [if_pos (by first | assumption | omega)] | rw [if_neg (by first | assumption | omega | simp_all)])
        try rfl
      rw [hM]
      exact Sub.refl _
    refine awp_if true (by omega) (by kernel_rfl) (show (!(meantD x r)) = true from by rw [q10]; rfl) ?_
    refine awp_seq_k (fun K22 hK22 => ?_)
    refine awp_region [0, 1] (by rw [hc]; kernel_rfl) (by kernel_rfl) ?_
    refine seq_run (r := []) [0, 1] (s' := ⟨[(2, .ptr 2 b1 0), (3, .ptr 3 b2 0), (4, .ptr 4 b3 0), (5, .val (.func (.func 52) #[] #[])), (21, aB (!(meantD x r))), (22, .agg (zN51 x))], (zN515 b1 x b2 r b3)⟩) (ps := [b1 = b1, b3 = b3]) (by kernel_rfl) ⟨rfl, rfl, trivial⟩ ?_
    refine hK22 _ ?_
    try clear hK22 K22
    refine awp_less ⟨[(2, .ptr 2 b1 0), (3, .ptr 3 b2 0), (4, .ptr 4 b3 0), (5, .val (.func (.func 52) #[] #[]))], (zN515 b1 x b2 r b3)⟩ ⟨Sub.refl _, Sub.refl _, Sub.refl _, Sub.refl _, trivial⟩ ⟨⟨_, rfl, SubB.refl _⟩, ⟨_, rfl, SubB.refl _⟩, ⟨_, rfl, SubB.refl _⟩, trivial⟩ ?_
    refine awp_ret ?_
    refine fin_ret ⟨[b3 = b3], [.agg (zN51 x)], by kernel_rfl, ⟨rfl, trivial⟩, ?_⟩
    have hM : hearD x r = x := by
      unfold hearD
      repeat (first | rw [if_pos (by first | assumption | omega)] | rw [if_neg (by first | assumption | omega | simp_all)])
      try rfl
    rw [hM]
    exact Sub.refl _
  refine seqLook (kt := 3) (e := 42) (k := .i r.kind) (es := [(.i 1, .val (.func (.func 49) #[] #[])), (.i 2, .val (.func (.func 50) #[] #[])), (.i 3, .val (.func (.func 51) #[] #[])), (.i 5, .val (.func (.func 51) #[] #[])), (.i 6, .val (.func (.func 52) #[] #[]))]) (ok := true) (d := some 11) (s' := ⟨[(2, .ptr 2 b1 0), (3, .ptr 3 b2 0), (4, .ptr 4 b3 0), (9, .ptr 3 b2 0), (10, aI r.kind), (8, .mp [(.i 1, .val (.func (.func 49) #[] #[])), (.i 2, .val (.func (.func 50) #[] #[])), (.i 3, .val (.func (.func 51) #[] #[])), (.i 5, .val (.func (.func 51) #[] #[])), (.i 6, .val (.func (.func 52) #[] #[]))]), (11, .tup [.val .nilFunc, aB false])], (zN54 b1 x b2 r b3)⟩) (none) .nilFunc (by kernel_rfl) (by kernel_rfl) (by kernel_rfl) (by kernel_rfl) (by simp only [mfind]; rw [if_neg (by simpa using q1)]; rw [if_neg (by simpa using q3)]; rw [if_neg (by simpa using q5)]; rw [if_neg (by simpa using q7)]; rw [if_neg (by simpa using q9)];) (by kernel_rfl) ?_
  refine seq_run (r := []) [4, 5, 6, 7, 8] (s' := ⟨[(2, .ptr 2 b1 0), (3, .ptr 3 b2 0), (4, .ptr 4 b3 0), (9, .ptr 3 b2 0), (10, aI r.kind), (8, .mp [(.i 1, .val (.func (.func 49) #[] #[])), (.i 2, .val (.func (.func 50) #[] #[])), (.i 3, .val (.func (.func 51) #[] #[])), (.i 5, .val (.func (.func 51) #[] #[])), (.i 6, .val (.func (.func 52) #[] #[]))]), (11, .tup [.val .nilFunc, aB false]), (7, .tup [.val .nilFunc, aB false]), (12, .val .nilFunc), (13, aB false), (5, .val .nilFunc), (6, aB false)], (zN54 b1 x b2 r b3)⟩) (ps := []) (by kernel_rfl) trivial ?_
  refine hK2 _ ?_
  try clear hK2 K2
  refine awp_less ⟨[(2, .ptr 2 b1 0), (3, .ptr 3 b2 0), (4, .ptr 4 b3 0), (5, .val .nilFunc), (6, aB false)], (zN54 b1 x b2 r b3)⟩ ⟨Sub.refl _, Sub.refl _, Sub.refl _, Sub.refl _, Sub.refl _, trivial⟩ ⟨⟨_, rfl, SubB.refl _⟩, ⟨_, rfl, SubB.refl _⟩, ⟨_, rfl, SubB.refl _⟩, trivial⟩ ?_
  refine awp_seq_k (fun K23 hK23 => ?_)
  refine awp_seq_k (fun K24 hK24 => ?_)
  refine awp_region [0, 1, 2, 3, 4, 5, 6, 7] (by rw [hc]; kernel_rfl) (by kernel_rfl) ?_
  refine seq_run (r := []) [0, 1, 2, 3, 4, 5, 6, 7] (s' := ⟨[(2, .ptr 2 b1 0), (3, .ptr 3 b2 0), (4, .ptr 4 b3 0), (5, .val .nilFunc), (6, aB false), (14, aB false), (15, aB true), (16, aB true), (17, .val undef), (18, .val undef), (19, .val undef), (20, .val undef), (21, aB true)], (zN54 b1 x b2 r b3)⟩) (ps := []) (by kernel_rfl) trivial ?_
  refine hK24 _ ?_
  try clear hK24 K24
  refine awp_less ⟨[(2, .ptr 2 b1 0), (3, .ptr 3 b2 0), (4, .ptr 4 b3 0), (5, .val .nilFunc), (21, aB true)], (zN54 b1 x b2 r b3)⟩ ⟨Sub.refl _, Sub.refl _, Sub.refl _, Sub.refl _, Sub.refl _, trivial⟩ ⟨⟨_, rfl, SubB.refl _⟩, ⟨_, rfl, SubB.refl _⟩, ⟨_, rfl, SubB.refl _⟩, trivial⟩ ?_
  refine awp_if true (by omega) (by kernel_rfl) rfl ?_
  refine awp_seq_k (fun K25 hK25 => ?_)
  refine awp_region [0, 1] (by rw [hc]; kernel_rfl) (by kernel_rfl) ?_
  refine seq_run (r := []) [0, 1] (s' := ⟨[(2, .ptr 2 b1 0), (3, .ptr 3 b2 0), (4, .ptr 4 b3 0), (5, .val .nilFunc), (21, aB true), (22, .agg (zN51 x))], (zN515 b1 x b2 r b3)⟩) (ps := [b1 = b1, b3 = b3]) (by kernel_rfl) ⟨rfl, rfl, trivial⟩ ?_
  refine hK25 _ ?_
  try clear hK25 K25
  refine awp_less ⟨[(2, .ptr 2 b1 0), (3, .ptr 3 b2 0), (4, .ptr 4 b3 0), (5, .val .nilFunc)], (zN515 b1 x b2 r b3)⟩ ⟨Sub.refl _, Sub.refl _, Sub.refl _, Sub.refl _, trivial⟩ ⟨⟨_, rfl, SubB.refl _⟩, ⟨_, rfl, SubB.refl _⟩, ⟨_, rfl, SubB.refl _⟩, trivial⟩ ?_
  refine awp_ret ?_
  refine fin_ret ⟨[b3 = b3], [.agg (zN51 x)], by kernel_rfl, ⟨rfl, trivial⟩, ?_⟩
  have hM : hearD x r = x := by
    unfold hearD
    by_cases hm : meantD x r = false
    · rw [if_pos hm]
    repeat (first | rw [if_pos (by first | assumption | omega)] | rw [if_neg (by first | assumption | omega | simp_all)])
    try rfl
  rw [hM]
  exact Sub.refl _
end Go.Proofs.Ytpdedjbkfcaebaa
