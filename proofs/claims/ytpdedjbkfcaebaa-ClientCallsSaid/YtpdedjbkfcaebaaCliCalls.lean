/- The law ClientCalls over data. -/
import Derived.Test.YtpdedjbkfcaebaaCliN9
import Derived.Test.YtpdedjbkfcaebaaVcM
set_option linter.unusedVariables false
set_option linter.unusedSimpArgs false
namespace Go.Proofs.Ytpdedjbkfcaebaa
open Go.RowKit Copyhold
theorem same11_spec (a b : Rep) (ok : OkRep a) (ok' : OkRep b) : FSpec Try.prog 27 [.agg (repA a), .agg (repA b)] (aB (decide (a = b))) := fspec_val fun D w vs h => by
  obtain ⟨u, v, rfl, hu, hv⟩ := h.two
  cases hu with
  | agg _ us a1 a2 a3 =>
  cases hv with
  | agg _ vs b1 b2 b3 =>
  obtain ⟨c0, c1, c2, c3, c4, c5, rfl⟩ := array6_of a1.symm
  obtain ⟨d0, d1, d2, d3, d4, d5, rfl⟩ := array6_of b1.symm
  have e0 := a3 0 _ c0 rfl rfl
  have e1 := a3 1 _ c1 rfl rfl
  have e2 := a3 2 _ c2 rfl rfl
  have e3 := a3 3 _ c3 rfl rfl
  have e4 := a3 4 _ c4 rfl rfl
  have e5 := a3 5 _ c5 rfl rfl
  have f0 := b3 0 _ d0 rfl rfl
  have f1 := b3 1 _ d1 rfl rfl
  have f2 := b3 2 _ d2 rfl rfl
  have f3 := b3 3 _ d3 rfl rfl
  have f4 := b3 4 _ d4 rfl rfl
  have f5 := b3 5 _ d5 rfl rfl
  cases e0; cases e1; cases e2; cases e3; cases e4
  cases f0; cases f1; cases f2; cases f3; cases f4
  have r1 := row_of_ra e5
  have r2 := row_of_ra f5
  obtain ⟨A, c, rfl⟩ : ∃ A c, c5 = .slice A a.ns.length c := by
    cases e5 with
    | sl k t xs A c => exact ⟨A, c, by simp⟩
  obtain ⟨B, d, rfl⟩ : ∃ A c, d5 = .slice A b.ns.length c := by
    cases f5 with
    | sl k t xs A c => exact ⟨A, c, by simp⟩
  exact ref11_Same a b A B c d w r1 r2 (by have := ok.2.2.1; omega) (by have := ok'.2.2.1; omega)
set_option maxRecDepth 100000 in
set_option maxHeartbeats 4000000 in
theorem clientCalls_spec (x : Cli) (q : Rep) (ok : OkX x) (okq : OkRep q) : FSpec Try.prog 9 [.agg [aI x.me, aI x.epoch, aI x.seq, .sl 1 false (x.jobs.map jobA), aI x.phase, aI x.n, aI x.stamp, .sl 4 false (x.told.map donA), .sl 6 false (x.now.map repA)], .agg [aI q.e, aI q.a, aI q.b, aI q.n, aS q.t, .sl 1 false (q.ns.map txA)]] (aB true) := by
  exact spec_vc (F := Try.f9) 400 (
 .new fun b1 => .new fun b2 => .r 1 <| .call (shown_spec) <|
 .r 1 <| .run 1 [b1 = b1] ⟨rfl, trivial⟩ <|
 .call (good_spec x ok) <|
 .r 1 <| .r 3 <| .br 15 (!(goodB x)) (fun q1 => have q1 := notT q1; have p1 := booF q1; .r 5 <| .r 2 <| .fin (x := aB true) (r := aB true) [] trivial (by exact Sub.of_eq (by first | rfl | (exact congrArg aB (decide_eq_true (call_hear hF.2.1 hp q ▸ hear_right hF.2.1))) | (simp; done))))
 <| fun q1 => have q1 := notF q1; have p1 := booT q1; have hF : Fit 40 x := few_fit ok q1; have hsx := hF.seq; have hnx := hF.n; have hfx := hF.2.2; .run 3 [b2 = b2] ⟨rfl, trivial⟩ <|
 .val 18 (show (aI ((q.ns.map txA).length : Int) : AV) = aI (q.ns.length : Int) from by rw [List.length_map]) <| .r 2 <| .br 20 (decide ((q.ns.length : Int) > 100)) (fun q2 => have p2 := decT q2; .r 2 <| .fin (x := aB true) (r := aB true) [] trivial (by exact Sub.of_eq (by first | rfl | (exact congrArg aB (decide_eq_true (call_hear hF.2.1 hp q ▸ hear_right hF.2.1))) | (simp; done))))
 <| fun q2 => have p2 := decF q2; .run 1 [b1 = b1] ⟨rfl, trivial⟩ <|
 .call (say_spec x ok (few_fit ok (by assumption)).2.1 (by have := (few_fit ok (by assumption)).2.2; omega)) <|
 .r 3 <| .new fun b3 => .run 2 [b3 = b3] ⟨rfl, trivial⟩ <|
 .r 3 <| .br 29 (!((sayD x).2)) (fun q3 => have q3 := notT q3; have p3 := booF q3; .r 4 <| .r 2 <| .fin (x := aB true) (r := aB true) [] trivial (by exact Sub.of_eq (by first | rfl | (exact congrArg aB (decide_eq_true (call_hear hF.2.1 hp q ▸ hear_right hF.2.1))) | (simp; done))))
 <| fun q3 => have q3 := notF q3; have p3 := booT q3; .run 4 [b3 = b3] ⟨rfl, trivial⟩ <|
 .br 33 (((sayD x).1.kind) != 2) (fun q4 => have p4 := bneT q4; .r 2 <| .fin (x := aB true) (r := aB true) [] trivial (by exact Sub.of_eq (by first | rfl | (exact congrArg aB (decide_eq_true (call_hear hF.2.1 hp q ▸ hear_right hF.2.1))) | (simp; done))))
 <| fun q4 => have p4 := bneF q4; have hp : x.phase = 1 := (by have := say_kind (x := x) (by assumption); omega); .ex (call_elem hF.2.1 hp) fun i hi0 =>
 .ex (hi0) fun n hn0 =>
 have hi := hn0.1; have hn := hn0.2.1; have hji := hn0.2.2.1; have hjn := hn0.2.2.2.1; have hsn := hn0.2.2.2.2.1; have hst := hn0.2.2.2.2.2.1; have hnl := hn0.2.2.2.2.2.2.1; have hil := hn0.2.2.2.2.2.2.2; have okr : OkRsp (rspC1 x q) := ⟨⟨⟨by show (-9223372036854775808 : Int) ≤ 2; omega, by show (2 : Int) ≤ 9223372036854775807; omega⟩, ok.1.1.1, ok.1.1.2.1, ok.1.1.2.2.1, (say_n hF (by omega)).2⟩, okq⟩; .run 11 [b1 = b1, b1 = b1, b1 = b1, b1 = b1, b3 = b3, b2 = b2] ⟨rfl, rfl, rfl, rfl, rfl, rfl, trivial⟩ <|
 .call ((by have h := fhear_spec (r := rspC1 x q) hF (by omega); rw [call_hear hF.2.1 hp q] at h; exact h)) <|
 .new fun b4 => .run 1 [b4 = b4] ⟨rfl, trivial⟩ <|
 .ord [0, 1, 2, 3, 4, 5, 6, 7, 8, 9, 10, 11, 12, 13, 14, 15, 16, 17, 18, 19, 20, 21, 22, 23, 24, 25, 26, 27, 28] <| .run 3 [b4 = b4] ⟨rfl, trivial⟩ <|
 .val 49 (show (aI (((kD x q).now.map repA).length : Int) : AV) = aI (((kD x q).now).length : Int) from by rw [List.length_map]) <| .run 3 [b1 = b1] ⟨rfl, trivial⟩ <|
 .val 52 (show (aI ((x.now.map repA).length : Int) : AV) = aI (x.now.length : Int) from by rw [List.length_map]) <| .run 3 [rng .i64 ((x.now.length : Int) + 1)] ⟨rng64 (by omega) (by omega), trivial⟩ <|
 .is 55 (show ((((kD x q).now).length : Int) != ((x.now.length : Int) + 1)) = false from (bne_eq_false_iff_eq.2 (by simp [kD, nowD]))) <| .run 5 [b1 = b1, b1 = b1] ⟨rfl, rfl, trivial⟩ <|
 .val 60 (show (aI ((x.jobs.map jobA).length : Int) : AV) = aI (x.jobs.length : Int) from by rw [List.length_map]) <| .r 3 <| .is 63 (show (decide (x.seq > (x.jobs.length : Int))) = false from (decide_eq_false (by omega))) <| .run 7 [b1 = b1, b1 = b1, b1 = b1, rng .i64 (x.seq - 1)] ⟨rfl, rfl, rfl, rng64 (by omega) (by omega), trivial⟩ <|
 .idx i (m := x.seq - 1) (xs := x.jobs.map jobA) (e := [.sl 8 false ((jobOf x).map calA)]) hi (map_some hji) <|
 .r 2 <| .val 73 (show (aI (((jobOf x).map calA).length : Int) : AV) = aI ((jobOf x).length : Int) from by rw [List.length_map]) <| .r 2 <| .is 75 (show (decide (x.n ≥ ((jobOf x).length : Int))) = false from (decide_eq_false (by omega))) <| .ord [0, 1, 2, 3, 4, 5, 6, 7, 8, 9, 10, 11, 12, 13, 14, 15, 16, 17, 18, 19, 20, 21, 22, 23, 24, 25, 26, 27, 28, 29, 30, 31, 32, 33, 34, 35, 36, 37, 38, 39, 40, 41, 42, 43, 44, 45, 46, 47, 48, 49, 50, 51, 52, 53, 54, 55, 56, 57, 58, 59, 60, 61] <| .run 9 [b3 = b3, b1 = b1, b1 = b1, rng .i64 (x.seq - 1)] ⟨rfl, rfl, rfl, rng64 (by omega) (by omega), trivial⟩ <|
 .idx i (m := x.seq - 1) (xs := x.jobs.map jobA) (e := [.sl 8 false ((jobOf x).map calA)]) hi (map_some hji) <|
 .run 3 [b1 = b1] ⟨rfl, trivial⟩ <|
 .idx n (m := x.n) (xs := (jobOf x).map calA) (e := [aI ((sayD x).1.c.kind), aI ((sayD x).1.c.ino), aI ((sayD x).1.c.dest), aI ((sayD x).1.c.pos), aI ((sayD x).1.c.many), aS ((sayD x).1.c.name), aS ((sayD x).1.c.name2), aS ((sayD x).1.c.text)]) hn (map_some hjn) <|
 .r 1 <| .eqS <| .r 2 <| .is 93 (show ((((sayD x).1.c.kind) == ((sayD x).1.c.kind)) && ((((sayD x).1.c.ino) == ((sayD x).1.c.ino)) && ((((sayD x).1.c.dest) == ((sayD x).1.c.dest)) && ((((sayD x).1.c.pos) == ((sayD x).1.c.pos)) && ((((sayD x).1.c.many) == ((sayD x).1.c.many)) && ((((sayD x).1.c.name) == ((sayD x).1.c.name)) && ((((sayD x).1.c.name2) == ((sayD x).1.c.name2)) && ((((sayD x).1.c.text) == ((sayD x).1.c.text)) && (true))))))))) = true from (by simp)) <| .run 8 [b3 = b3, b1 = b1, rng .i64 (x.n + 1)] ⟨rfl, rfl, rng64 (by omega) (by omega), trivial⟩ <|
 .is 101 (show (((sayD x).1.n) == (x.n + 1)) = true from (beq_iff_eq.2 hsn)) <| .run 7 [b3 = b3, b1 = b1] ⟨rfl, rfl, trivial⟩ <|
 .is 108 (show (((sayD x).1.stamp) == x.stamp) = true from (beq_iff_eq.2 hst)) <| .run 4 [b4 = b4, b1 = b1] ⟨rfl, rfl, trivial⟩ <|
 .idx x.now.length (m := x.n) (xs := (kD x q).now.map repA) (e := [aI q.e, aI q.a, aI q.b, aI q.n, aS q.t, .sl 1 false (q.ns.map txA)]) hF.2.1.2.2.2.1.symm (by simp [kD, nowD, repA]) <|
 .run 2 [b2 = b2] ⟨rfl, trivial⟩ <|
 .call (same11_spec q q okq okq) <|
 .r 2 <| .is 118 (show (decide (q = q)) = true from (by simp)) <| .run 8 [b4 = b4, b1 = b1, rng .i64 (x.n + 1)] ⟨rfl, rfl, rng64 (by omega) (by omega), trivial⟩ <|
 .is 126 (show (((kD x q).n) == (x.n + 1)) = true from (beq_iff_eq.2 (by simp [kD, nowD]))) <| .run 7 [b4 = b4, b1 = b1] ⟨rfl, rfl, trivial⟩ <|
 .is 133 (show (((kD x q).stamp) == x.stamp) = true from (beq_iff_eq.2 (by simp [kD, nowD]))) <| .run 1 [b4 = b4] ⟨rfl, trivial⟩ <|
 .call (rright_spec (kD x q) (call_hear hF.2.1 hp q ▸ (hear_fit hF (by omega) okr).1)) <|
 .r 2 <| .fin (x := aB (decide (RightP (kD x q)))) (r := aB true) [] trivial (by exact Sub.of_eq (by first | rfl | (exact congrArg aB (decide_eq_true (call_hear hF.2.1 hp q ▸ hear_right hF.2.1))) | (simp; done)))) Try.func9 rfl (by kernel_rfl) (by kernel_rfl)
end Go.Proofs.Ytpdedjbkfcaebaa
