/- The law StoreLooks over data. -/
import Derived.Test.YtibcmgmlklehdaaStoZ
set_option linter.unusedVariables false
set_option linter.unusedSimpArgs false
namespace Go.Proofs.Ytibcmgmlklehdaa
open Go Go.RowKit Copyhold

set_option maxRecDepth 100000 in
set_option maxHeartbeats 4000000 in
theorem storeLooks_spec (s t : Sto) (st : Int) (oks : OkS s) (okt : OkS t) : FSpec Try.prog 3 [.agg [.sl 2 false (s.l.map chnA), .sl 2 false (s.nexts.map cntA), aI s.stamp], aI st, .agg [.sl 2 false (t.l.map chnA), .sl 2 false (t.nexts.map cntA), aI t.stamp]] (aB true) := by
  exact spec_vc (F := Try.f3) 400 (
 .new fun b1 => .new fun b2 => .r 1 <| .call (shown_spec) <|
 .r 1 <| .run 1 [b1 = b1] ⟨rfl, trivial⟩ <|
 .call (few_spec s oks) <|
 .r 2 <| .br 14 (!(dP (few s))) (fun q1 => have q1 := notT q1; have p1 := booF q1; .r 4 <| .r 2 <| .fin (x := aB true) (r := aB true) [] trivial (by exact Sub.of_eq (by first | rfl | (simp; done) | (congr 1; simp))))
 <| fun q1 => have q1 := notF q1; have p1 := booT q1; have hfws := few_many (dP_true.1 q1); .run 1 [b2 = b2] ⟨rfl, trivial⟩ <|
 .call (few_spec t okt) <|
 .r 2 <| .br 18 (!(dP (few t))) (fun q2 => have q2 := notT q2; have p2 := booF q2; .r 2 <| .fin (x := aB true) (r := aB true) [] trivial (by exact Sub.of_eq (by first | rfl | (simp; done) | (congr 1; simp))))
 <| fun q2 => have q2 := notF q2; have p2 := booT q2; have hfwt := few_many (dP_true.1 q2); .run 1 [b1 = b1] ⟨rfl, trivial⟩ <|
 .call (rright_spec s oks) <|
 .r 1 <| .run 1 [b1 = b1] ⟨rfl, trivial⟩ <|
 .call (right_spec s oks) <|
 .r 3 <| .br 26 (!((dP (storeP s)) == (dP (storeP s)))) (fun q3 => have q3 := notT q3; have p3 := beqF q3; .r 3 <| .run 3 [b1 = b1] ⟨rfl, trivial⟩ <|
 .call (right_spec s oks) <|
 .r 4 <| .fin (x := aB ((dP (storeP s)) == (dP (storeP s)))) (r := aB true) [] trivial (by exact Sub.of_eq (by first | rfl | (simp; done) | (congr 1; simp))))
 <| fun q3 => have q3 := notF q3; have p3 := beqT q3; .r 3 <| .br 29 (!(dP (storeP s))) (fun q4 => have q4 := notT q4; have p4 := booF q4; .run 3 [b1 = b1] ⟨rfl, trivial⟩ <|
 .call (right_spec s oks) <|
 .r 4 <| .fin (x := aB ((dP (storeP s)) == (dP (storeP s)))) (r := aB true) [] trivial (by exact Sub.of_eq (by first | rfl | (simp; done) | (congr 1; simp))))
 <| fun q4 => have q4 := notF q4; have p4 := booT q4; .run 1 [b2 = b2] ⟨rfl, trivial⟩ <|
 .call (rright_spec t okt) <|
 .r 1 <| .br 39 (!(dP (storeP t))) (fun q5 => have q5 := notT q5; have p5 := booF q5; .r 2 <| .fin (x := aB true) (r := aB true) [] trivial (by exact Sub.of_eq (by first | rfl | (simp; done) | (congr 1; simp))))
 <| fun q5 => have q5 := notF q5; have p5 := booT q5; .ord [0, 1, 3, 4, 2, 5, 6, 7, 8, 9, 11, 12, 10, 13, 14, 15, 16] <| .run 4 [b1 = b1, b1 = b1] ⟨rfl, rfl, trivial⟩ <|
 .call (view_spec s st oks (by omega)) <|
 .call (rview_spec s st oks (by omega)) <|
 .call (fsame_spec (viewD s st) (viewD s st) (view_ok oks st) (view_ok oks st)) <|
 .r 1 <| .is 48 (show (dP ((viewD s st) = (viewD s st))) = true from (dP_true.2 rfl)) <| .run 4 [b1 = b1, b1 = b1] ⟨rfl, rfl, trivial⟩ <|
 .call (since_spec s st oks (by omega)) <|
 .call (rsince_spec s st oks (by omega)) <|
 .call (ints_spec (sinceD s st) (sinceD s st) (by have := since_le s st; omega) (by have := since_le s st; omega)) <|
 .r 2 <| .ord [0, 1, 2, 3, 4, 5, 7, 6, 8, 9, 10, 11, 12, 13, 15, 16, 14, 17, 18, 19, 20] <| .r 5 <| .is 61 (show (dP ((sinceD s st) = (sinceD s st))) = true from (dP_true.2 rfl)) <| .run 2 [b1 = b1, b1 = b1] ⟨rfl, rfl, trivial⟩ <|
 .call (many_spec s (by have := oks.2.1; omega) (by omega)) <|
 .call (rmany_spec s (by have := oks.2.1; omega) (by omega)) <|
 .r 3 <| .is 68 (show ((manyD s : Int) == (manyD s : Int)) = true from (by simp)) <| .run 4 [b1 = b1, b2 = b2, b1 = b1, b2 = b2] ⟨rfl, rfl, rfl, rfl, trivial⟩ <|
 .call (same_spec s t oks okt) <|
 .call (rsame_spec s t oks okt) <|
 .r 3 <| .fin (x := aB ((dP (s = t)) == (dP (s = t)))) (r := aB true) [] trivial (by exact Sub.of_eq (by first | rfl | (simp; done) | (congr 1; simp)))) Try.func3 rfl (by kernel_rfl) (by kernel_rfl)
end Go.Proofs.Ytibcmgmlklehdaa
