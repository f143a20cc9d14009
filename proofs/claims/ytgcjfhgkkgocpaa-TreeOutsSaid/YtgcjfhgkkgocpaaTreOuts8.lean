/- The law TreeOuts over data. -/
import Derived.Test.YtgcjfhgkkgocpaaTreM8
set_option linter.unusedVariables false
set_option linter.unusedSimpArgs false
namespace Go.Proofs.Ytgcjfhgkkgocpaa
open Go Go.RowKit Copyhold
set_option maxRecDepth 100000 in
set_option maxHeartbeats 4000000 in
theorem treeOuts_spec (f : Fsy) (i : Int) (okf : OkF f) : FSpec Try.prog 7 [.agg [.sl 5 false (f.l.map nodA), aI f.next], aI i] (aB true) := by
  exact spec_vc (F := Try.f7) 400 (
 .new fun b1 => .r 1 <| .call (shown_spec) <|
 .r 1 <| .run 1 [b1 = b1] ⟨rfl, trivial⟩ <|
 .call (few_spec f okf) <|
 .r 2 <| .br 15 (!(dP (fewF f))) (fun q1 => have q1 := notT q1; have p1 := booF q1; .r 4 <| .r 2 <| .fin (x := aB true) (r := aB true) [] trivial (by exact Sub.of_eq (by first | rfl | (exact congrArg aB (dP_true.2 (out_same hr (by assumption)))) | (simp; done))))
 <| fun q1 => have q1 := notF q1; have p1 := booT q1; have hf1 := (dP_true.1 q1).1; have hl0 : f.l.length ≤ 200 := (by omega); .run 1 [b1 = b1] ⟨rfl, trivial⟩ <|
 .call (rrows_spec f okf) <|
 .r 2 <| .br 19 (!(dP (rowsP f))) (fun q2 => have q2 := notT q2; have p2 := booF q2; .r 2 <| .fin (x := aB true) (r := aB true) [] trivial (by exact Sub.of_eq (by first | rfl | (exact congrArg aB (dP_true.2 (out_same hr (by assumption)))) | (simp; done))))
 <| fun q2 => have q2 := notF q2; have p2 := booT q2; have hp := dP_true.1 q2; have hr := rows_rise hp; have oko := out_ok (i := i) okf hr; .run 2 [b1 = b1] ⟨rfl, trivial⟩ <|
 .call (tfind_spec f i (by omega) hr) <|
 .r 3 <| .new fun b2 => .run 2 [b2 = b2] ⟨rfl, trivial⟩ <|
 .run 2 [b1 = b1] ⟨rfl, trivial⟩ <|
 .call (out_spec f i (by omega) hr) <|
 .new fun b3 => .run 1 [b3 = b3] ⟨rfl, trivial⟩ <|
 .run 2 [b3 = b3] ⟨rfl, trivial⟩ <|
 .call (tfind_spec (outF f i) i (Nat.le_trans (outN_le f.l i) (by omega)) (out_rise hr)) <|
 .r 3 <| .new fun b4 => .run 2 [b4 = b4] ⟨rfl, trivial⟩ <|
 .r 6 <| .is 41 (show (!(findB (outF f i) i)) = true from (by rw [show (findB (outF f i) i) = false from (by rw [(find_out hr).1]; simp)]; rfl)) <| .run 1 [b3 = b3] ⟨rfl, trivial⟩ <|
 .call (rrows_spec (outF f i) oko) <|
 .r 2 <| .is 45 (show (dP (rowsP (outF f i))) = true from (dP_true.2 (out_rows hp))) <| .run 7 [b3 = b3, b1 = b1] ⟨rfl, rfl, trivial⟩ <|
 .is 52 (show (((outF f i).next) == f.next) = true from (beq_iff_eq.2 rfl)) <| .r 2 <| .br 54 (findB f i) (fun q3 => have p3 := booT q3; .run 3 [b3 = b3] ⟨rfl, trivial⟩ <|
 .val 57 (show (aI (((outF f i).l.map nodA).length : Int) : AV) = aI (((outF f i).l).length : Int) from by rw [List.length_map]) <| .run 3 [b1 = b1] ⟨rfl, trivial⟩ <|
 .val 60 (show (aI ((f.l.map nodA).length : Int) : AV) = aI (f.l.length : Int) from by rw [List.length_map]) <| .run 4 [rng .i64 ((f.l.length : Int) - 1)] ⟨rng64 (by omega) (by omega), trivial⟩ <|
 .is 64 (show ((((outF f i).l).length : Int) == ((f.l.length : Int) - 1)) = true from (by have := out_len hr q3; have h9 := plN_lt (by rw [← findB_eq hr]; exact q3 : thN f.l i = true); exact beq_iff_eq.2 (by omega))) <| .r 10 <| .fin (x := aB true) (r := aB true) [] trivial (by exact Sub.of_eq (by first | rfl | (exact congrArg aB (dP_true.2 (out_same hr (by assumption)))) | (simp; done))))
 <| fun q3 => have p3 := booF q3; .r 13 <| .is 67 (show (!(findB f i)) = true from by rw [q3]; rfl) <| .run 2 [b3 = b3, b1 = b1] ⟨rfl, rfl, trivial⟩ <|
 .call (fsame_spec (outF f i) f oko okf) <|
 .r 4 <| .fin (x := aB (dP ((outF f i) = f))) (r := aB true) [] trivial (by exact Sub.of_eq (by first | rfl | (exact congrArg aB (dP_true.2 (out_same hr (by assumption)))) | (simp; done)))) Try.func7 rfl (by kernel_rfl) (by kernel_rfl)
end Go.Proofs.Ytgcjfhgkkgocpaa
