/- The law OpsStays over data. -/
import Derived.Test.YtkhnialfkndiiaaGreatMrgW
import Derived.Test.YtkhnialfkndiiaaGreatMrgX
import Derived.Test.YtkhnialfkndiiaaGreatMrgY
import Derived.Test.YtkhnialfkndiiaaGreatOpsL11
set_option linter.unusedVariables false
set_option linter.unusedSimpArgs false
namespace Go.Proofs.YtkhnialfkndiiaaGreat
open Go Go.RowKit Copyhold
set_option maxRecDepth 100000 in
set_option maxHeartbeats 4000000 in
theorem opsStays_data (f : Fsy) (c : Cal) (okf : OkF f) (okc0 : OkC0 c) : FSpec Tryz.prog 5 [.agg [.sl 5 false (f.l.map nodA), aI f.next], .agg [aI c.kind, aI c.ino, aI c.to, aI c.at_, aI c.many, aS c.name, aS c.name2, aS c.text]] (aB true) := by
  exact spec_vc (F := Tryz.f5) 400 (
 .new fun b1 => .new fun b2 => .r 1 <| .call (shown11) <|
 .r 1 <| .run 1 [b1 = b1] ⟨rfl, trivial⟩ <|
 .call (few11 f okf) <|
 .r 1 <| .r 3 <| .br 15 (!(dP (fewF f ∧ rightP f ∧ f.next < 1152921504606846976))) (fun q1 => have q1 := notT q1; have p1 := booF q1; .r 5 <| .r 2 <| .fin (x := aB true) (r := aB true) [] trivial (by exact Sub.of_eq (by first | rfl | (refine congrArg aB ?_; rw [hds]; rfl) | (refine congrArg aB ?_; simp; done))))
 <| fun q1 => have q1 := notF q1; have p1 := booT q1; have hfr := dP_true.1 q1; have hp := hfr.2.1.1; have hx := hfr.2.2; have T := rightP_tree hfr.1 hfr.2.1; .run 2 [b2 = b2] ⟨rfl, trivial⟩ <|
 .callS (args0 := [.sl 8 true ([[aI c.kind, aI c.ino, aI c.to, aI c.at_, aI c.many, aS c.name, aS c.name2, aS c.text]])]) (args := [.sl 8 false ([c].map calA)]) ⟨Sub.loose _ _ _, trivial⟩ (small_spec [c] (by show 1 ≤ _; omega) (fun x hx => by rw [List.mem_singleton.1 hx]; exact okc0)) <|
 .r 2 <| .br 20 (!(dP (smallP [c]))) (fun q2 => have q2 := notT q2; have p2 := booF q2; .r 2 <| .fin (x := aB true) (r := aB true) [] trivial (by exact Sub.of_eq (by first | rfl | (refine congrArg aB ?_; rw [hds]; rfl) | (refine congrArg aB ?_; simp; done))))
 <| fun q2 => have q2 := notF q2; have p2 := booT q2; have okc := small_ok (dP_true.1 q2) (List.mem_singleton.2 rfl) okc0; have kd := kept_do okf okc T (by omega); .run 2 [b1 = b1, b2 = b2] ⟨rfl, rfl, trivial⟩ <|
 .call (do_spec f c okf okc hp (by omega)) <|
 .r 3 <| .new fun b3 => .new fun b4 => .run 2 [b3 = b3, b4 = b4] ⟨rfl, rfl, trivial⟩ <|
 .run 4 [b2 = b2] ⟨rfl, trivial⟩ <|
 .br 31 (decide (c.kind ≤ 3)) (fun q3 => have p3 := decT q3; .r 5 <| .run 4 [b4 = b4] ⟨rfl, trivial⟩ <|
 .br 39 (((doF f c).2.e) != 0) (fun q4 => have p4 := bneT q4; have hds := do_same (bneT q4); .run 5 [b3 = b3, b1 = b1] ⟨rfl, rfl, trivial⟩ <|
 .call (fsame_spec (doF f c).1 f kd.ok okf) <|
 .r 2 <| .is 47 (show (!(dP ((doF f c).1 = f))) = false from (by rw [show (dP ((doF f c).1 = f)) = true from (dP_true.2 (by rw [hds]))]; rfl)) <| .run 3 [b3 = b3] ⟨rfl, trivial⟩ <|
 .call (right_specM (doF f c).1 kd.ok (midF_of hfr.1 kd)) <|
 .r 2 <| .is 53 (show (dP (rightP (doF f c).1)) = true from (dP_true.2 (tree_right (midF_of hfr.1 kd) kd.tree))) <| .run 4 [b4 = b4] ⟨rfl, trivial⟩ <|
 .is 57 (show (((doF f c).2.e) == 0) = false from (by simpa using bneT q4)) <| .run 4 [b4 = b4] ⟨rfl, trivial⟩ <|
 .is 61 (show (((doF f c).2.a) == 0) = true from (by rw [hds]; rfl)) <| .run 5 [b4 = b4] ⟨rfl, trivial⟩ <|
 .is 66 (show (((doF f c).2.b) == 0) = true from (by rw [hds]; rfl)) <| .run 5 [b4 = b4] ⟨rfl, trivial⟩ <|
 .is 71 (show (((doF f c).2.n) == 0) = true from (by rw [hds]; rfl)) <| .run 5 [b4 = b4] ⟨rfl, trivial⟩ <|
 .is 76 (show (((doF f c).2.text) == ([])) = true from (by rw [hds]; rfl)) <| .run 3 [b4 = b4] ⟨rfl, trivial⟩ <|
 .val 79 (show (aI (((doF f c).2.names.map txA).length : Int) : AV) = aI (((doF f c).2.names).length : Int) from by rw [List.length_map]) <| .r 5 <| .fin (x := aB ((((doF f c).2.names).length : Int) == 0)) (r := aB true) [] trivial (by exact Sub.of_eq (by first | rfl | (refine congrArg aB ?_; rw [hds]; rfl) | (refine congrArg aB ?_; simp; done))))
 <| fun q4 => have p4 := bneF q4; .run 5 [b3 = b3, b1 = b1] ⟨rfl, rfl, trivial⟩ <|
 .call (fsame_spec (doF f c).1 f kd.ok okf) <|
 .r 2 <| .is 47 (show (!(dP ((doF f c).1 = f))) = false from (by rw [show (dP ((doF f c).1 = f)) = true from (dP_true.2 (do_looks (by omega)))]; rfl)) <| .run 3 [b3 = b3] ⟨rfl, trivial⟩ <|
 .call (right_specM (doF f c).1 kd.ok (midF_of hfr.1 kd)) <|
 .r 2 <| .is 53 (show (dP (rightP (doF f c).1)) = true from (dP_true.2 (tree_right (midF_of hfr.1 kd) kd.tree))) <| .run 4 [b4 = b4] ⟨rfl, trivial⟩ <|
 .is 57 (show (((doF f c).2.e) == 0) = true from (by simpa using bneF q4)) <| .r 27 <| .fin (x := aB true) (r := aB true) [] trivial (by exact Sub.of_eq (by first | rfl | (refine congrArg aB ?_; rw [hds]; rfl) | (refine congrArg aB ?_; simp; done))))
 <| fun q3 => have p3 := decF q3; .run 5 [b2 = b2] ⟨rfl, trivial⟩ <|
 .run 4 [b4 = b4] ⟨rfl, trivial⟩ <|
 .br 39 (((doF f c).2.e) != 0) (fun q5 => have p5 := bneT q5; have hds := do_same (bneT q5); .run 5 [b3 = b3, b1 = b1] ⟨rfl, rfl, trivial⟩ <|
 .call (fsame_spec (doF f c).1 f kd.ok okf) <|
 .r 2 <| .is 47 (show (!(dP ((doF f c).1 = f))) = false from (by rw [show (dP ((doF f c).1 = f)) = true from (dP_true.2 (by rw [hds]))]; rfl)) <| .run 3 [b3 = b3] ⟨rfl, trivial⟩ <|
 .call (right_specM (doF f c).1 kd.ok (midF_of hfr.1 kd)) <|
 .r 2 <| .is 53 (show (dP (rightP (doF f c).1)) = true from (dP_true.2 (tree_right (midF_of hfr.1 kd) kd.tree))) <| .run 4 [b4 = b4] ⟨rfl, trivial⟩ <|
 .is 57 (show (((doF f c).2.e) == 0) = false from (by simpa using bneT q5)) <| .run 4 [b4 = b4] ⟨rfl, trivial⟩ <|
 .is 61 (show (((doF f c).2.a) == 0) = true from (by rw [hds]; rfl)) <| .run 5 [b4 = b4] ⟨rfl, trivial⟩ <|
 .is 66 (show (((doF f c).2.b) == 0) = true from (by rw [hds]; rfl)) <| .run 5 [b4 = b4] ⟨rfl, trivial⟩ <|
 .is 71 (show (((doF f c).2.n) == 0) = true from (by rw [hds]; rfl)) <| .run 5 [b4 = b4] ⟨rfl, trivial⟩ <|
 .is 76 (show (((doF f c).2.text) == ([])) = true from (by rw [hds]; rfl)) <| .run 3 [b4 = b4] ⟨rfl, trivial⟩ <|
 .val 79 (show (aI (((doF f c).2.names.map txA).length : Int) : AV) = aI (((doF f c).2.names).length : Int) from by rw [List.length_map]) <| .r 5 <| .fin (x := aB ((((doF f c).2.names).length : Int) == 0)) (r := aB true) [] trivial (by exact Sub.of_eq (by first | rfl | (refine congrArg aB ?_; rw [hds]; rfl) | (refine congrArg aB ?_; simp; done))))
 <| fun q5 => have p5 := bneF q5; .r 3 <| .br 42 (decide (c.kind ≥ 13)) (fun q6 => have p6 := decT q6; .run 2 [b3 = b3, b1 = b1] ⟨rfl, rfl, trivial⟩ <|
 .call (fsame_spec (doF f c).1 f kd.ok okf) <|
 .r 2 <| .is 47 (show (!(dP ((doF f c).1 = f))) = false from (by rw [show (dP ((doF f c).1 = f)) = true from (dP_true.2 (do_looks (by omega)))]; rfl)) <| .run 3 [b3 = b3] ⟨rfl, trivial⟩ <|
 .call (right_specM (doF f c).1 kd.ok (midF_of hfr.1 kd)) <|
 .r 2 <| .is 53 (show (dP (rightP (doF f c).1)) = true from (dP_true.2 (tree_right (midF_of hfr.1 kd) kd.tree))) <| .run 4 [b4 = b4] ⟨rfl, trivial⟩ <|
 .is 57 (show (((doF f c).2.e) == 0) = true from (by simpa using bneF q5)) <| .r 27 <| .fin (x := aB true) (r := aB true) [] trivial (by exact Sub.of_eq (by first | rfl | (refine congrArg aB ?_; rw [hds]; rfl) | (refine congrArg aB ?_; simp; done))))
 <| fun q6 => have p6 := decF q6; .r 5 <| .run 3 [b3 = b3] ⟨rfl, trivial⟩ <|
 .call (right_specM (doF f c).1 kd.ok (midF_of hfr.1 kd)) <|
 .r 2 <| .is 53 (show (dP (rightP (doF f c).1)) = true from (dP_true.2 (tree_right (midF_of hfr.1 kd) kd.tree))) <| .run 4 [b4 = b4] ⟨rfl, trivial⟩ <|
 .is 57 (show (((doF f c).2.e) == 0) = true from (by simpa using bneF q5)) <| .r 27 <| .fin (x := aB true) (r := aB true) [] trivial (by exact Sub.of_eq (by first | rfl | (refine congrArg aB ?_; rw [hds]; rfl) | (refine congrArg aB ?_; simp; done)))) Tryz.func5 rfl (by kernel_rfl) (by kernel_rfl)
theorem opsStays_spec (f : Fsy) (c : Cal) (okf : OkF f) (okc0 : OkC0 c) : FSpec Tryz.prog 5 [.agg (fsyA f), .agg (calA c)] (aB true) := opsStays_data f c okf okc0
end Go.Proofs.YtkhnialfkndiiaaGreat
