/- The law TreePuts over data. -/
import Derived.Test.YtgcjfhgkkgocpaaTreM8
set_option linter.unusedVariables false
set_option linter.unusedSimpArgs false
namespace Go.Proofs.Ytgcjfhgkkgocpaa
open Go Go.RowKit Copyhold
set_option maxRecDepth 100000 in
set_option maxHeartbeats 4000000 in
theorem treePuts_spec (f : Fsy) (n : Nod) (j : Int) (okf : OkF f) (okn : OkN n) : FSpec Try.prog 4 [.agg [.sl 5 false (f.l.map nodA), aI f.next], .agg [aI n.ino, aI n.kind, aI n.links, aS n.text, .sl 2 false (n.l.map entA)], aI j] (aB true) := by
  have hnl := okn.2.2.2.2.1
  exact spec_vc (F := Try.f4) 400 (
 .new fun b1 => .new fun b2 => .r 1 <| .call (shown_spec) <|
 .r 1 <| .run 1 [b1 = b1] ⟨rfl, trivial⟩ <|
 .call (few_spec f okf) <|
 .r 2 <| .br 21 (!(dP (fewF f))) (fun q1 => have q1 := notT q1; have p1 := booF q1; .r 26 <| .r 2 <| .fin (x := aB true) (r := aB true) [] trivial (by exact Sub.of_eq (by first | rfl | (exact congrArg aB (dP_true.2 (put_rows hp hnp (by omega)))) | (rw [(find_out (put_rise hr)).1, if_pos rfl]; rfl) | (simp; done))))
 <| fun q1 => have q1 := notF q1; have p1 := booT q1; have hf1 := (dP_true.1 q1).1; have hl0 : f.l.length ≤ 200 := (by omega); .run 1 [b1 = b1] ⟨rfl, trivial⟩ <|
 .call (rrows_spec f okf) <|
 .r 3 <| .br 26 (!(dP (rowsP f))) (fun q2 => have q2 := notT q2; have p2 := booF q2; .r 21 <| .r 2 <| .fin (x := aB true) (r := aB true) [] trivial (by exact Sub.of_eq (by first | rfl | (exact congrArg aB (dP_true.2 (put_rows hp hnp (by omega)))) | (rw [(find_out (put_rise hr)).1, if_pos rfl]; rfl) | (simp; done))))
 <| fun q2 => have q2 := notF q2; have p2 := booT q2; have hp := dP_true.1 q2; have hr := rows_rise hp; .run 3 [b2 = b2] ⟨rfl, trivial⟩ <|
 .val 29 (show (aI ((n.l.map entA).length : Int) : AV) = aI (n.l.length : Int) from by rw [List.length_map]) <| .r 3 <| .br 32 (decide ((n.l.length : Int) > 200)) (fun q3 => have p3 := decT q3; .r 15 <| .r 2 <| .fin (x := aB true) (r := aB true) [] trivial (by exact Sub.of_eq (by first | rfl | (exact congrArg aB (dP_true.2 (put_rows hp hnp (by omega)))) | (rw [(find_out (put_rise hr)).1, if_pos rfl]; rfl) | (simp; done))))
 <| fun q3 => have p3 := decF q3; .run 1 [b2 = b2] ⟨rfl, trivial⟩ <|
 .call (rnright_spec n okn) <|
 .r 3 <| .br 37 (!(dP (nodP n))) (fun q4 => have q4 := notT q4; have p4 := booF q4; .r 10 <| .r 2 <| .fin (x := aB true) (r := aB true) [] trivial (by exact Sub.of_eq (by first | rfl | (exact congrArg aB (dP_true.2 (put_rows hp hnp (by omega)))) | (rw [(find_out (put_rise hr)).1, if_pos rfl]; rfl) | (simp; done))))
 <| fun q4 => have q4 := notF q4; have p4 := booT q4; have hnp := dP_true.1 q4; .run 5 [b2 = b2] ⟨rfl, trivial⟩ <|
 .br 42 (n.ino == 9223372036854775807) (fun q5 => have p5 := beqT q5; .r 5 <| .r 2 <| .fin (x := aB true) (r := aB true) [] trivial (by exact Sub.of_eq (by first | rfl | (exact congrArg aB (dP_true.2 (put_rows hp hnp (by omega)))) | (rw [(find_out (put_rise hr)).1, if_pos rfl]; rfl) | (simp; done))))
 <| fun q5 => have p5 := beqF q5; .run 3 [b1 = b1] ⟨rfl, trivial⟩ <|
 .val 45 (show (aI ((f.l.map nodA).length : Int) : AV) = aI (f.l.length : Int) from by rw [List.length_map]) <| .r 2 <| .br 47 (decide ((f.l.length : Int) ≥ 256)) (fun q6 => have p6 := decT q6; .r 2 <| .fin (x := aB true) (r := aB true) [] trivial (by exact Sub.of_eq (by first | rfl | (exact congrArg aB (dP_true.2 (put_rows hp hnp (by omega)))) | (rw [(find_out (put_rise hr)).1, if_pos rfl]; rfl) | (simp; done))))
 <| fun q6 => have p6 := decF q6; have hn0 := okn.1.1; have hlt : n.ino < 9223372036854775807 := (by have := okn.1.2; omega); have okp := put_ok okf okn hlt (by omega); have okq := out_ok (i := n.ino) okp (put_rise hr); .run 2 [b1 = b1, b2 = b2] ⟨rfl, rfl, trivial⟩ <|
 .call (put_spec f n ⟨okn.1, by omega⟩ (by omega) hr) <|
 .new fun b3 => .run 1 [b3 = b3] ⟨rfl, trivial⟩ <|
 .run 3 [b3 = b3, b2 = b2] ⟨rfl, rfl, trivial⟩ <|
 .call (tfind_spec (putF f n) n.ino (Nat.le_trans (putN_le f.l n) (by omega)) (put_rise hr)) <|
 .r 3 <| .new fun b4 => .run 2 [b4 = b4] ⟨rfl, trivial⟩ <|
 .run 2 [b1 = b1] ⟨rfl, trivial⟩ <|
 .call (tfind_spec f j (by omega) hr) <|
 .r 3 <| .new fun b5 => .run 2 [b5 = b5] ⟨rfl, trivial⟩ <|
 .run 2 [b3 = b3] ⟨rfl, trivial⟩ <|
 .call (tfind_spec (putF f n) j (Nat.le_trans (putN_le f.l n) (by omega)) (put_rise hr)) <|
 .r 3 <| .new fun b6 => .run 2 [b6 = b6] ⟨rfl, trivial⟩ <|
 .run 3 [b3 = b3, b2 = b2] ⟨rfl, rfl, trivial⟩ <|
 .call (out_spec (putF f n) n.ino (Nat.le_trans (putN_le f.l n) (by omega)) (put_rise hr)) <|
 .r 1 <| .call (tfind_spec (outF (putF f n) n.ino) j (Nat.le_trans (outN_le _ _) (Nat.le_trans (putN_le f.l n) (by omega))) (out_rise (put_rise hr))) <|
 .r 3 <| .new fun b7 => .run 2 [b7 = b7] ⟨rfl, trivial⟩ <|
 .run 4 [b2 = b2] ⟨rfl, trivial⟩ <|
 .br 83 (j == n.ino) (fun q7 => have p7 := beqT q7; .r 5 <| .is 88 (show (findB (putF f n) n.ino) = true from (find_put_self hr).1) <| .run 2 [b4 = b4, b2 = b2] ⟨rfl, rfl, trivial⟩ <|
 .call (rnsame_spec (findN (putF f n) n.ino) n (findN_ok okp _) (okn)) <|
 .r 2 <| .is 93 (show (dP ((findN (putF f n) n.ino) = n)) = true from (dP_true.2 (find_put_self hr).2)) <| .r 4 <| .fin (x := aB (!(findB (outF (putF f n) n.ino) j))) (r := aB true) [] trivial (by exact Sub.of_eq (by first | rfl | (exact congrArg aB (dP_true.2 (put_rows hp hnp (by omega)))) | (rw [(find_out (put_rise hr)).1, if_pos p7]; rfl) | (simp; done))))
 <| fun q7 => have p7 := beqF q7; .r 5 <| .is 101 (show (findB (putF f n) n.ino) = true from (find_put_self hr).1) <| .run 2 [b4 = b4, b2 = b2] ⟨rfl, rfl, trivial⟩ <|
 .call (rnsame_spec (findN (putF f n) n.ino) n (findN_ok okp _) (okn)) <|
 .r 2 <| .is 106 (show (dP ((findN (putF f n) n.ino) = n)) = true from (dP_true.2 (find_put_self hr).2)) <| .r 5 <| .is 111 (show ((findB f j) == (findB (putF f n) j)) = true from (by rw [(find_put_other hr p7).1]; simp)) <| .r 5 <| .is 116 (show ((findB (putF f n) j) == (findB (outF (putF f n) n.ino) j)) = true from (by rw [(find_out (put_rise hr)).1, if_neg p7, (find_put_other hr p7).1]; simp)) <| .run 2 [b5 = b5, b6 = b6] ⟨rfl, rfl, trivial⟩ <|
 .call (rnsame_spec (findN f j) (findN (putF f n) j) (findN_ok okf _) (findN_ok okp _)) <|
 .r 2 <| .is 121 (show (dP ((findN f j) = (findN (putF f n) j))) = true from (dP_true.2 (find_put_other hr p7).2.symm)) <| .run 2 [b5 = b5, b7 = b7] ⟨rfl, rfl, trivial⟩ <|
 .call (rnsame_spec (findN f j) (findN (outF (putF f n) n.ino) j) (findN_ok okf _) (findN_ok okq _)) <|
 .r 2 <| .is 126 (show (dP ((findN f j) = (findN (outF (putF f n) n.ino) j))) = true from (dP_true.2 (by rw [(find_out (put_rise hr)).2, if_neg p7, (find_put_other hr p7).2]))) <| .run 1 [b3 = b3] ⟨rfl, trivial⟩ <|
 .call (rrows_spec (putF f n) okp) <|
 .r 2 <| .fin (x := aB (dP (rowsP (putF f n)))) (r := aB true) [] trivial (by exact Sub.of_eq (by first | rfl | (exact congrArg aB (dP_true.2 (put_rows hp hnp (by omega)))) | (rw [(find_out (put_rise hr)).1, if_pos p7]; rfl) | (simp; done)))) Try.func4 rfl (by kernel_rfl) (by kernel_rfl)
end Go.Proofs.Ytgcjfhgkkgocpaa
