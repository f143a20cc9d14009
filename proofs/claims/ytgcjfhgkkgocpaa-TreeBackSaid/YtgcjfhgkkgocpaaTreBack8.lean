/- The law TreeBack over data. -/
import Derived.Test.YtgcjfhgkkgocpaaTreX8
set_option linter.unusedVariables false
set_option linter.unusedSimpArgs false
namespace Go.Proofs.Ytgcjfhgkkgocpaa
open Go Go.RowKit Copyhold
theorem rows_nodes {f : Fsy} (ok : OkF f) (hp : rowsP f) : ∀ n ∈ f.l, OkN n ∧ nodP n := fun n hn => ⟨ok.2.2 n hn, ((rowsP_iff.1 hp).2.2.1 n hn).1⟩
theorem textF_len {f : Fsy} (ok : OkF f) (hp : rowsP f) : (textF f).length ≤ 140737488351232 := by
  have := partsT_size ok.1 ok.2.1 (rows_nodes ok hp) f.l.length
  have h := hp.1
  unfold textF
  omega
set_option maxRecDepth 100000 in
set_option maxHeartbeats 4000000 in
theorem treeBack_spec (f : Fsy) (s : Txt) (okf : OkF f) (hs : s.length ≤ 140737488351232) : FSpec Try.prog 5 [.agg [.sl 5 false (f.l.map nodA), aI f.next], aS s] (aB true) := by
  exact spec_vc (F := Try.f5) 400 (
 .new fun b1 => .r 1 <| .call (shown_spec) <|
 .r 1 <| .run 1 [b1 = b1] ⟨rfl, trivial⟩ <|
 .call (few_spec f okf) <|
 .r 2 <| .br 14 (!(dP (fewF f))) (fun q1 => have q1 := notT q1; have p1 := booF q1; .r 4 <| .r 2 <| .fin (x := aB true) (r := aB true) [] trivial (by exact Sub.of_eq (by first | rfl | (exact congrArg aB (dP_true.2 (by rw [take_told okf hp]))) | (simp; done))))
 <| fun q1 => have q1 := notF q1; have p1 := booT q1; .r 4 <| .br 18 (decide (((s).length : Int) > 5000)) (fun q2 => have p2 := decT q2; .r 2 <| .fin (x := aB true) (r := aB true) [] trivial (by exact Sub.of_eq (by first | rfl | (exact congrArg aB (dP_true.2 (by rw [take_told okf hp]))) | (simp; done))))
 <| fun q2 => have p2 := decF q2; .r 1 <| .call (take_spec s hs) <|
 .r 3 <| .new fun b2 => .run 2 [b2 = b2] ⟨rfl, trivial⟩ <|
 .r 3 <| .br 27 (((takeF s).2) == 0) (fun q3 => have p3 := beqT q3; have ht := (take_laid p3).1; have hts := (take_laid p3).2; .run 1 [b2 = b2] ⟨rfl, trivial⟩ <|
 .call (rrows_spec (takeF s).1 (takeF_ok s)) <|
 .r 2 <| .is 31 (show (!(dP (rowsP (takeF s).1))) = false from (by rw [show (dP (rowsP (takeF s).1)) = true from (dP_true.2 ht)]; rfl)) <| .run 1 [b2 = b2] ⟨rfl, trivial⟩ <|
 .call (text_spec (takeF s).1 (takeF_ok s) ht.1 (rows_nodes (takeF_ok s) ht)) <|
 .r 4 <| .is 37 (show (!((textF (takeF s).1) == s)) = false from (by rw [hts]; simp)) <| .run 1 [b1 = b1] ⟨rfl, trivial⟩ <|
 .call (rrows_spec f (okf)) <|
 .r 1 <| .br 40 (!(dP (rowsP f))) (fun q4 => have q4 := notT q4; have p4 := booF q4; .r 2 <| .fin (x := aB true) (r := aB true) [] trivial (by exact Sub.of_eq (by first | rfl | (exact congrArg aB (dP_true.2 (by rw [take_told okf hp]))) | (simp; done))))
 <| fun q4 => have q4 := notF q4; have p4 := booT q4; have hp := dP_true.1 q4; .run 1 [b1 = b1] ⟨rfl, trivial⟩ <|
 .call (text_spec f okf hp.1 (rows_nodes okf hp)) <|
 .call (take_spec (textF f) (textF_len okf hp)) <|
 .r 3 <| .new fun b3 => .run 2 [b3 = b3] ⟨rfl, trivial⟩ <|
 .r 6 <| .is 53 (show (((takeF (textF f)).2) == 0) = true from (by rw [take_told okf hp]; rfl)) <| .run 2 [b3 = b3, b1 = b1] ⟨rfl, rfl, trivial⟩ <|
 .call (fsame_spec (takeF (textF f)).1 f (takeF_ok (textF f)) (okf)) <|
 .r 2 <| .fin (x := aB (dP ((takeF (textF f)).1 = f))) (r := aB true) [] trivial (by exact Sub.of_eq (by first | rfl | (exact congrArg aB (dP_true.2 (by rw [take_told okf hp]))) | (simp; done))))
 <| fun q3 => have p3 := beqF q3; .r 10 <| .run 1 [b1 = b1] ⟨rfl, trivial⟩ <|
 .call (rrows_spec f (okf)) <|
 .r 1 <| .br 40 (!(dP (rowsP f))) (fun q5 => have q5 := notT q5; have p5 := booF q5; .r 2 <| .fin (x := aB true) (r := aB true) [] trivial (by exact Sub.of_eq (by first | rfl | (exact congrArg aB (dP_true.2 (by rw [take_told okf hp]))) | (simp; done))))
 <| fun q5 => have q5 := notF q5; have p5 := booT q5; have hp := dP_true.1 q5; .run 1 [b1 = b1] ⟨rfl, trivial⟩ <|
 .call (text_spec f okf hp.1 (rows_nodes okf hp)) <|
 .call (take_spec (textF f) (textF_len okf hp)) <|
 .r 3 <| .new fun b4 => .run 2 [b4 = b4] ⟨rfl, trivial⟩ <|
 .r 6 <| .is 53 (show (((takeF (textF f)).2) == 0) = true from (by rw [take_told okf hp]; rfl)) <| .run 2 [b4 = b4, b1 = b1] ⟨rfl, rfl, trivial⟩ <|
 .call (fsame_spec (takeF (textF f)).1 f (takeF_ok (textF f)) (okf)) <|
 .r 2 <| .fin (x := aB (dP ((takeF (textF f)).1 = f))) (r := aB true) [] trivial (by exact Sub.of_eq (by first | rfl | (exact congrArg aB (dP_true.2 (by rw [take_told okf hp]))) | (simp; done)))) Try.func5 rfl (by kernel_rfl) (by kernel_rfl)
end Go.Proofs.Ytgcjfhgkkgocpaa
