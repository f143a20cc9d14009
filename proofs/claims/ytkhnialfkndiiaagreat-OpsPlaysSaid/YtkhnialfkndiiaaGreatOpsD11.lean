import Derived.Test.YtkhnialfkndiiaaGreatOpsC11
set_option maxRecDepth 100000
set_option maxHeartbeats 8000000
set_option linter.unusedVariables false
set_option linter.unusedSimpArgs false
namespace Go.Proofs.YtkhnialfkndiiaaGreat
open Go Go.RowKit Copyhold
noncomputable def deedF (f : Fsy) (c : Cal) : Fsy × Rep := if c.kind = 1 then lookD f c else if c.kind = 2 then statD f c else if c.kind = 3 then readO f c else if c.kind = 4 then writeO f c else if c.kind = 5 then cutO f c else if c.kind = 6 then addO f c ⟨0, 1, 0, [], []⟩ else if c.kind = 7 then addO f c ⟨0, 2, 0, [], []⟩ else if c.kind = 8 then symO f c else if c.kind = 9 then takeO f c false 9 else if c.kind = 10 then takeO f c true 8 else if c.kind = 11 then linkO f c else if c.kind = 12 then renO f c else if c.kind = 13 then rlnkO f c else if c.kind = 14 then rdirO f c else if c.kind = 15 then sfsO f else (f, errR 1)
noncomputable def doF (f : Fsy) (c : Cal) : Fsy × Rep := if (deedF f c).2.e = 0 then deedF f c else (f, errR (deedF f c).2.e)
theorem deed_1 {f : Fsy} {c : Cal} (h : c.kind = 1) : deedF f c = lookD f c := by unfold deedF; rw [if_pos h]
theorem deed_2 {f : Fsy} {c : Cal} (h : c.kind = 2) : deedF f c = statD f c := by unfold deedF; rw [if_neg (by omega), if_pos h]
theorem deed_3 {f : Fsy} {c : Cal} (h : c.kind = 3) : deedF f c = readO f c := by unfold deedF; rw [if_neg (by omega), if_neg (by omega), if_pos h]
theorem deed_4 {f : Fsy} {c : Cal} (h : c.kind = 4) : deedF f c = writeO f c := by unfold deedF; rw [if_neg (by omega), if_neg (by omega), if_neg (by omega), if_pos h]
theorem deed_5 {f : Fsy} {c : Cal} (h : c.kind = 5) : deedF f c = cutO f c := by unfold deedF; rw [if_neg (by omega), if_neg (by omega), if_neg (by omega), if_neg (by omega), if_pos h]
theorem deed_6 {f : Fsy} {c : Cal} (h : c.kind = 6) : deedF f c = addO f c ⟨0, 1, 0, [], []⟩ := by unfold deedF; rw [if_neg (by omega), if_neg (by omega), if_neg (by omega), if_neg (by omega), if_neg (by omega), if_pos h]
theorem deed_7 {f : Fsy} {c : Cal} (h : c.kind = 7) : deedF f c = addO f c ⟨0, 2, 0, [], []⟩ := by unfold deedF; rw [if_neg (by omega), if_neg (by omega), if_neg (by omega), if_neg (by omega), if_neg (by omega), if_neg (by omega), if_pos h]
theorem deed_8 {f : Fsy} {c : Cal} (h : c.kind = 8) : deedF f c = symO f c := by unfold deedF; rw [if_neg (by omega), if_neg (by omega), if_neg (by omega), if_neg (by omega), if_neg (by omega), if_neg (by omega), if_neg (by omega), if_pos h]
theorem deed_9 {f : Fsy} {c : Cal} (h : c.kind = 9) : deedF f c = takeO f c false 9 := by unfold deedF; rw [if_neg (by omega), if_neg (by omega), if_neg (by omega), if_neg (by omega), if_neg (by omega), if_neg (by omega), if_neg (by omega), if_neg (by omega), if_pos h]
theorem deed_10 {f : Fsy} {c : Cal} (h : c.kind = 10) : deedF f c = takeO f c true 8 := by unfold deedF; rw [if_neg (by omega), if_neg (by omega), if_neg (by omega), if_neg (by omega), if_neg (by omega), if_neg (by omega), if_neg (by omega), if_neg (by omega), if_neg (by omega), if_pos h]
theorem deed_11 {f : Fsy} {c : Cal} (h : c.kind = 11) : deedF f c = linkO f c := by unfold deedF; rw [if_neg (by omega), if_neg (by omega), if_neg (by omega), if_neg (by omega), if_neg (by omega), if_neg (by omega), if_neg (by omega), if_neg (by omega), if_neg (by omega), if_neg (by omega), if_pos h]
theorem deed_12 {f : Fsy} {c : Cal} (h : c.kind = 12) : deedF f c = renO f c := by unfold deedF; rw [if_neg (by omega), if_neg (by omega), if_neg (by omega), if_neg (by omega), if_neg (by omega), if_neg (by omega), if_neg (by omega), if_neg (by omega), if_neg (by omega), if_neg (by omega), if_neg (by omega), if_pos h]
theorem deed_13 {f : Fsy} {c : Cal} (h : c.kind = 13) : deedF f c = rlnkO f c := by unfold deedF; rw [if_neg (by omega), if_neg (by omega), if_neg (by omega), if_neg (by omega), if_neg (by omega), if_neg (by omega), if_neg (by omega), if_neg (by omega), if_neg (by omega), if_neg (by omega), if_neg (by omega), if_neg (by omega), if_pos h]
theorem deed_14 {f : Fsy} {c : Cal} (h : c.kind = 14) : deedF f c = rdirO f c := by unfold deedF; rw [if_neg (by omega), if_neg (by omega), if_neg (by omega), if_neg (by omega), if_neg (by omega), if_neg (by omega), if_neg (by omega), if_neg (by omega), if_neg (by omega), if_neg (by omega), if_neg (by omega), if_neg (by omega), if_neg (by omega), if_pos h]
theorem deed_15 {f : Fsy} {c : Cal} (h : c.kind = 15) : deedF f c = sfsO f := by unfold deedF; rw [if_neg (by omega), if_neg (by omega), if_neg (by omega), if_neg (by omega), if_neg (by omega), if_neg (by omega), if_neg (by omega), if_neg (by omega), if_neg (by omega), if_neg (by omega), if_neg (by omega), if_neg (by omega), if_neg (by omega), if_neg (by omega), if_pos h]
theorem deed_no {f : Fsy} {c : Cal} (h : c.kind < 1 ∨ c.kind > 15) : deedF f c = (f, errR 1) := by unfold deedF; rw [if_neg (by omega), if_neg (by omega), if_neg (by omega), if_neg (by omega), if_neg (by omega), if_neg (by omega), if_neg (by omega), if_neg (by omega), if_neg (by omega), if_neg (by omega), if_neg (by omega), if_neg (by omega), if_neg (by omega), if_neg (by omega), if_neg (by omega)]
theorem do_yes {f : Fsy} {c : Cal} {x : Fsy × Rep} (h : deedF f c = x) (he : x.2.e = 0) : doF f c = x := by unfold doF; rw [h, if_pos he]
theorem do_no {f : Fsy} {c : Cal} {x : Fsy × Rep} (h : deedF f c = x) (he : ¬ x.2.e = 0) : doF f c = (f, errR x.2.e) := by unfold doF; rw [h, if_neg he]
theorem deeds_spec  : FSpec Tryz.prog 37 [] (.mp [(.i 1, .val (.func (.func 70) #[] #[])), (.i 2, .val (.func (.func 71) #[] #[])), (.i 3, .val (.func (.func 72) #[] #[])), (.i 4, .val (.func (.func 73) #[] #[])), (.i 5, .val (.func (.func 74) #[] #[])), (.i 6, .val (.func (.func 75) #[] #[])), (.i 7, .val (.func (.func 77) #[] #[])), (.i 8, .val (.func (.func 78) #[] #[])), (.i 9, .val (.func (.func 79) #[] #[])), (.i 10, .val (.func (.func 81) #[] #[])), (.i 11, .val (.func (.func 82) #[] #[])), (.i 12, .val (.func (.func 84) #[] #[])), (.i 13, .val (.func (.func 86) #[] #[])), (.i 14, .val (.func (.func 88) #[] #[])), (.i 15, .val (.func (.func 90) #[] #[]))]) := by
 exact spec_vc (F := Tryz.f37) 400 (
 .r 1 <| .mkMap fun r1 => .ins (kk := .i 1) (es := []) r1 (by rfl) <| .ins (kk := .i 2) (es := [(.i 1, .val (.func (.func 70) #[] #[]))]) r1 (by simp [mfind]) <| .ins (kk := .i 3) (es := [(.i 1, .val (.func (.func 70) #[] #[])), (.i 2, .val (.func (.func 71) #[] #[]))]) r1 (by simp [mfind]) <| .ins (kk := .i 4) (es := [(.i 1, .val (.func (.func 70) #[] #[])), (.i 2, .val (.func (.func 71) #[] #[])), (.i 3, .val (.func (.func 72) #[] #[]))]) r1 (by simp [mfind]) <| .ins (kk := .i 5) (es := [(.i 1, .val (.func (.func 70) #[] #[])), (.i 2, .val (.func (.func 71) #[] #[])), (.i 3, .val (.func (.func 72) #[] #[])), (.i 4, .val (.func (.func 73) #[] #[]))]) r1 (by simp [mfind]) <| .ins (kk := .i 6) (es := [(.i 1, .val (.func (.func 70) #[] #[])), (.i 2, .val (.func (.func 71) #[] #[])), (.i 3, .val (.func (.func 72) #[] #[])), (.i 4, .val (.func (.func 73) #[] #[])), (.i 5, .val (.func (.func 74) #[] #[]))]) r1 (by simp [mfind]) <| .ins (kk := .i 7) (es := [(.i 1, .val (.func (.func 70) #[] #[])), (.i 2, .val (.func (.func 71) #[] #[])), (.i 3, .val (.func (.func 72) #[] #[])), (.i 4, .val (.func (.func 73) #[] #[])), (.i 5, .val (.func (.func 74) #[] #[])), (.i 6, .val (.func (.func 75) #[] #[]))]) r1 (by simp [mfind]) <| .ins (kk := .i 8) (es := [(.i 1, .val (.func (.func 70) #[] #[])), (.i 2, .val (.func (.func 71) #[] #[])), (.i 3, .val (.func (.func 72) #[] #[])), (.i 4, .val (.func (.func 73) #[] #[])), (.i 5, .val (.func (.func 74) #[] #[])), (.i 6, .val (.func (.func 75) #[] #[])), (.i 7, .val (.func (.func 77) #[] #[]))]) r1 (by simp [mfind]) <| .ins (kk := .i 9) (es := [(.i 1, .val (.func (.func 70) #[] #[])), (.i 2, .val (.func (.func 71) #[] #[])), (.i 3, .val (.func (.func 72) #[] #[])), (.i 4, .val (.func (.func 73) #[] #[])), (.i 5, .val (.func (.func 74) #[] #[])), (.i 6, .val (.func (.func 75) #[] #[])), (.i 7, .val (.func (.func 77) #[] #[])), (.i 8, .val (.func (.func 78) #[] #[]))]) r1 (by simp [mfind]) <| .ins (kk := .i 10) (es := [(.i 1, .val (.func (.func 70) #[] #[])), (.i 2, .val (.func (.func 71) #[] #[])), (.i 3, .val (.func (.func 72) #[] #[])), (.i 4, .val (.func (.func 73) #[] #[])), (.i 5, .val (.func (.func 74) #[] #[])), (.i 6, .val (.func (.func 75) #[] #[])), (.i 7, .val (.func (.func 77) #[] #[])), (.i 8, .val (.func (.func 78) #[] #[])), (.i 9, .val (.func (.func 79) #[] #[]))]) r1 (by simp [mfind]) <| .ins (kk := .i 11) (es := [(.i 1, .val (.func (.func 70) #[] #[])), (.i 2, .val (.func (.func 71) #[] #[])), (.i 3, .val (.func (.func 72) #[] #[])), (.i 4, .val (.func (.func 73) #[] #[])), (.i 5, .val (.func (.func 74) #[] #[])), (.i 6, .val (.func (.func 75) #[] #[])), (.i 7, .val (.func (.func 77) #[] #[])), (.i 8, .val (.func (.func 78) #[] #[])), (.i 9, .val (.func (.func 79) #[] #[])), (.i 10, .val (.func (.func 81) #[] #[]))]) r1 (by simp [mfind]) <| .ins (kk := .i 12) (es := [(.i 1, .val (.func (.func 70) #[] #[])), (.i 2, .val (.func (.func 71) #[] #[])), (.i 3, .val (.func (.func 72) #[] #[])), (.i 4, .val (.func (.func 73) #[] #[])), (.i 5, .val (.func (.func 74) #[] #[])), (.i 6, .val (.func (.func 75) #[] #[])), (.i 7, .val (.func (.func 77) #[] #[])), (.i 8, .val (.func (.func 78) #[] #[])), (.i 9, .val (.func (.func 79) #[] #[])), (.i 10, .val (.func (.func 81) #[] #[])), (.i 11, .val (.func (.func 82) #[] #[]))]) r1 (by simp [mfind]) <| .ins (kk := .i 13) (es := [(.i 1, .val (.func (.func 70) #[] #[])), (.i 2, .val (.func (.func 71) #[] #[])), (.i 3, .val (.func (.func 72) #[] #[])), (.i 4, .val (.func (.func 73) #[] #[])), (.i 5, .val (.func (.func 74) #[] #[])), (.i 6, .val (.func (.func 75) #[] #[])), (.i 7, .val (.func (.func 77) #[] #[])), (.i 8, .val (.func (.func 78) #[] #[])), (.i 9, .val (.func (.func 79) #[] #[])), (.i 10, .val (.func (.func 81) #[] #[])), (.i 11, .val (.func (.func 82) #[] #[])), (.i 12, .val (.func (.func 84) #[] #[]))]) r1 (by simp [mfind]) <| .ins (kk := .i 14) (es := [(.i 1, .val (.func (.func 70) #[] #[])), (.i 2, .val (.func (.func 71) #[] #[])), (.i 3, .val (.func (.func 72) #[] #[])), (.i 4, .val (.func (.func 73) #[] #[])), (.i 5, .val (.func (.func 74) #[] #[])), (.i 6, .val (.func (.func 75) #[] #[])), (.i 7, .val (.func (.func 77) #[] #[])), (.i 8, .val (.func (.func 78) #[] #[])), (.i 9, .val (.func (.func 79) #[] #[])), (.i 10, .val (.func (.func 81) #[] #[])), (.i 11, .val (.func (.func 82) #[] #[])), (.i 12, .val (.func (.func 84) #[] #[])), (.i 13, .val (.func (.func 86) #[] #[]))]) r1 (by simp [mfind]) <| .ins (kk := .i 15) (es := [(.i 1, .val (.func (.func 70) #[] #[])), (.i 2, .val (.func (.func 71) #[] #[])), (.i 3, .val (.func (.func 72) #[] #[])), (.i 4, .val (.func (.func 73) #[] #[])), (.i 5, .val (.func (.func 74) #[] #[])), (.i 6, .val (.func (.func 75) #[] #[])), (.i 7, .val (.func (.func 77) #[] #[])), (.i 8, .val (.func (.func 78) #[] #[])), (.i 9, .val (.func (.func 79) #[] #[])), (.i 10, .val (.func (.func 81) #[] #[])), (.i 11, .val (.func (.func 82) #[] #[])), (.i 12, .val (.func (.func 84) #[] #[])), (.i 13, .val (.func (.func 86) #[] #[])), (.i 14, .val (.func (.func 88) #[] #[]))]) r1 (by simp [mfind]) <| .r 2 <| .frz 1 [0] [] [r1 = r1] rt1 <|
 .fin (x := .mp [(.i 1, .val (.func (.func 70) #[] #[])), (.i 2, .val (.func (.func 71) #[] #[])), (.i 3, .val (.func (.func 72) #[] #[])), (.i 4, .val (.func (.func 73) #[] #[])), (.i 5, .val (.func (.func 74) #[] #[])), (.i 6, .val (.func (.func 75) #[] #[])), (.i 7, .val (.func (.func 77) #[] #[])), (.i 8, .val (.func (.func 78) #[] #[])), (.i 9, .val (.func (.func 79) #[] #[])), (.i 10, .val (.func (.func 81) #[] #[])), (.i 11, .val (.func (.func 82) #[] #[])), (.i 12, .val (.func (.func 84) #[] #[])), (.i 13, .val (.func (.func 86) #[] #[])), (.i 14, .val (.func (.func 88) #[] #[])), (.i 15, .val (.func (.func 90) #[] #[]))]) (r := .mp [(.i 1, .val (.func (.func 70) #[] #[])), (.i 2, .val (.func (.func 71) #[] #[])), (.i 3, .val (.func (.func 72) #[] #[])), (.i 4, .val (.func (.func 73) #[] #[])), (.i 5, .val (.func (.func 74) #[] #[])), (.i 6, .val (.func (.func 75) #[] #[])), (.i 7, .val (.func (.func 77) #[] #[])), (.i 8, .val (.func (.func 78) #[] #[])), (.i 9, .val (.func (.func 79) #[] #[])), (.i 10, .val (.func (.func 81) #[] #[])), (.i 11, .val (.func (.func 82) #[] #[])), (.i 12, .val (.func (.func 84) #[] #[])), (.i 13, .val (.func (.func 86) #[] #[])), (.i 14, .val (.func (.func 88) #[] #[])), (.i 15, .val (.func (.func 90) #[] #[]))]) [] trivial (by exact sR)) Tryz.func37 rfl (by kernel_rfl) (by kernel_rfl)
theorem do1_spec (f : Fsy) (c : Cal) (okf : OkF f) (okc : OkCal c) (hp : rowsP f) (hx : f.next < 9223372036854775807) (hk : c.kind = 1) : FSpec Tryz.prog 14 [.agg (fsyA f), .agg (calA c)] (.tup [.agg (fsyA (doF f c).1), .agg (repA (doF f c).2)]) := by
 exact spec_vc (F := Tryz.f14) 400 (
 .new fun b1 => .new fun b2 => .new fun b3 => .new fun b4 => .ord [1, 2, 0, 3, 4, 5, 6, 7, 8] <| .run 2 [b2 = b2] rt1 <|
 .call (deeds_spec) <|
 .look (kk := .i c.kind) (es := [(.i 1, .val (.func (.func 70) #[] #[])), (.i 2, .val (.func (.func 71) #[] #[])), (.i 3, .val (.func (.func 72) #[] #[])), (.i 4, .val (.func (.func 73) #[] #[])), (.i 5, .val (.func (.func 74) #[] #[])), (.i 6, .val (.func (.func 75) #[] #[])), (.i 7, .val (.func (.func 77) #[] #[])), (.i 8, .val (.func (.func 78) #[] #[])), (.i 9, .val (.func (.func 79) #[] #[])), (.i 10, .val (.func (.func 81) #[] #[])), (.i 11, .val (.func (.func 82) #[] #[])), (.i 12, .val (.func (.func 84) #[] #[])), (.i 13, .val (.func (.func 86) #[] #[])), (.i 14, .val (.func (.func 88) #[] #[])), (.i 15, .val (.func (.func 90) #[] #[]))]) (fd := some (0, .val (.func (.func 70) #[] #[]))) (by rw [hk]; rfl) <| .r 5 <| .r 2 <| .run 3 [b1 = b1, b2 = b2] rt2 <|
 .call (dlook_spec f c okf okc hp) <|
 .r 3 <| .new fun b5 => .new fun b6 => .run 2 [b5 = b5, b6 = b6] rt2 <|
 .run 3 [b6 = b6] rt1 <|
 .br 30 (((lookD f c).2.e) != 0) (fun q1 => have p1 := bneT q1; .pick [0, 1] <| .run 2 [b1 = b1] rt1 <|
 .fork <| .alt (.run 1 [b6 = b6] rt1 <|
 .pick [3, 4, 5] <| .run 3 [b3 = b3, b4 = b4] rt2 <|
 .fin (x := .tup [.agg (fsyA f), .agg [aI ((lookD f c).2.e), aI 0, aI 0, aI 0, aS ([]), aN]]) (r := .tup [.agg (fsyA (doF f c).1), .agg (repA (doF f c).2)]) [b3 = b3, b4 = b4] rt2 (by
  rw [do_no (deed_1 hk) (bneT q1)]
  exact Sub.tups ⟨sR, (rep_sub _ _ _ _ _), trivial⟩))
 <| .run 1 [b3 = b3] rt1 <|
 .pick [2, 3, 5] <| .run 3 [b6 = b6, b4 = b4] rt2 <|
 .fin (x := .tup [.agg (fsyA f), .agg [aI ((lookD f c).2.e), aI 0, aI 0, aI 0, aS ([]), aN]]) (r := .tup [.agg (fsyA (doF f c).1), .agg (repA (doF f c).2)]) [b3 = b3, b4 = b4] rt2 (by
  rw [do_no (deed_1 hk) (bneT q1)]
  exact Sub.tups ⟨sR, (rep_sub _ _ _ _ _), trivial⟩))
 <| fun q1 => have p1 := bneF q1; .pick [0] <| .run 1 [b5 = b5] rt1 <|
 .fork <| .alt (.run 1 [b6 = b6] rt1 <|
 .pick [2, 3] <| .run 2 [b3 = b3, b4 = b4] rt2 <|
 .fin (x := .tup [.agg [.sl 5 false ((lookD f c).1.l.map nodA), aI ((lookD f c).1.next)], .agg [aI ((lookD f c).2.e), aI ((lookD f c).2.a), aI ((lookD f c).2.b), aI ((lookD f c).2.n), aS ((lookD f c).2.text), .sl 1 false ((lookD f c).2.names.map txA)]]) (r := .tup [.agg (fsyA (doF f c).1), .agg (repA (doF f c).2)]) [b3 = b3, b4 = b4] rt2 (by
  rw [do_yes (deed_1 hk) (bneF q1)]
  exact sR))
 <| .run 1 [b3 = b3] rt1 <|
 .pick [1, 3] <| .run 2 [b6 = b6, b4 = b4] rt2 <|
 .fin (x := .tup [.agg [.sl 5 false ((lookD f c).1.l.map nodA), aI ((lookD f c).1.next)], .agg [aI ((lookD f c).2.e), aI ((lookD f c).2.a), aI ((lookD f c).2.b), aI ((lookD f c).2.n), aS ((lookD f c).2.text), .sl 1 false ((lookD f c).2.names.map txA)]]) (r := .tup [.agg (fsyA (doF f c).1), .agg (repA (doF f c).2)]) [b3 = b3, b4 = b4] rt2 (by
  rw [do_yes (deed_1 hk) (bneF q1)]
  exact sR)) Tryz.func14 rfl (by kernel_rfl) (by kernel_rfl)
theorem do2_spec (f : Fsy) (c : Cal) (okf : OkF f) (okc : OkCal c) (hp : rowsP f) (hx : f.next < 9223372036854775807) (hk : c.kind = 2) : FSpec Tryz.prog 14 [.agg (fsyA f), .agg (calA c)] (.tup [.agg (fsyA (doF f c).1), .agg (repA (doF f c).2)]) := by
 exact spec_vc (F := Tryz.f14) 400 (
 .new fun b1 => .new fun b2 => .new fun b3 => .new fun b4 => .ord [1, 2, 0, 3, 4, 5, 6, 7, 8] <| .run 2 [b2 = b2] rt1 <|
 .call (deeds_spec) <|
 .look (kk := .i c.kind) (es := [(.i 1, .val (.func (.func 70) #[] #[])), (.i 2, .val (.func (.func 71) #[] #[])), (.i 3, .val (.func (.func 72) #[] #[])), (.i 4, .val (.func (.func 73) #[] #[])), (.i 5, .val (.func (.func 74) #[] #[])), (.i 6, .val (.func (.func 75) #[] #[])), (.i 7, .val (.func (.func 77) #[] #[])), (.i 8, .val (.func (.func 78) #[] #[])), (.i 9, .val (.func (.func 79) #[] #[])), (.i 10, .val (.func (.func 81) #[] #[])), (.i 11, .val (.func (.func 82) #[] #[])), (.i 12, .val (.func (.func 84) #[] #[])), (.i 13, .val (.func (.func 86) #[] #[])), (.i 14, .val (.func (.func 88) #[] #[])), (.i 15, .val (.func (.func 90) #[] #[]))]) (fd := some (1, .val (.func (.func 71) #[] #[]))) (by rw [hk]; rfl) <| .r 5 <| .r 2 <| .run 3 [b1 = b1, b2 = b2] rt2 <|
 .call (dstat_spec f c okf okc hp) <|
 .r 3 <| .new fun b5 => .new fun b6 => .run 2 [b5 = b5, b6 = b6] rt2 <|
 .run 3 [b6 = b6] rt1 <|
 .br 30 (((statD f c).2.e) != 0) (fun q1 => have p1 := bneT q1; .pick [0, 1] <| .run 2 [b1 = b1] rt1 <|
 .fork <| .alt (.run 1 [b6 = b6] rt1 <|
 .pick [3, 4, 5] <| .run 3 [b3 = b3, b4 = b4] rt2 <|
 .fin (x := .tup [.agg (fsyA f), .agg [aI ((statD f c).2.e), aI 0, aI 0, aI 0, aS ([]), aN]]) (r := .tup [.agg (fsyA (doF f c).1), .agg (repA (doF f c).2)]) [b3 = b3, b4 = b4] rt2 (by
  rw [do_no (deed_2 hk) (bneT q1)]
  exact Sub.tups ⟨sR, (rep_sub _ _ _ _ _), trivial⟩))
 <| .run 1 [b3 = b3] rt1 <|
 .pick [2, 3, 5] <| .run 3 [b6 = b6, b4 = b4] rt2 <|
 .fin (x := .tup [.agg (fsyA f), .agg [aI ((statD f c).2.e), aI 0, aI 0, aI 0, aS ([]), aN]]) (r := .tup [.agg (fsyA (doF f c).1), .agg (repA (doF f c).2)]) [b3 = b3, b4 = b4] rt2 (by
  rw [do_no (deed_2 hk) (bneT q1)]
  exact Sub.tups ⟨sR, (rep_sub _ _ _ _ _), trivial⟩))
 <| fun q1 => have p1 := bneF q1; .pick [0] <| .run 1 [b5 = b5] rt1 <|
 .fork <| .alt (.run 1 [b6 = b6] rt1 <|
 .pick [2, 3] <| .run 2 [b3 = b3, b4 = b4] rt2 <|
 .fin (x := .tup [.agg [.sl 5 false ((statD f c).1.l.map nodA), aI ((statD f c).1.next)], .agg [aI ((statD f c).2.e), aI ((statD f c).2.a), aI ((statD f c).2.b), aI ((statD f c).2.n), aS ((statD f c).2.text), .sl 1 false ((statD f c).2.names.map txA)]]) (r := .tup [.agg (fsyA (doF f c).1), .agg (repA (doF f c).2)]) [b3 = b3, b4 = b4] rt2 (by
  rw [do_yes (deed_2 hk) (bneF q1)]
  exact sR))
 <| .run 1 [b3 = b3] rt1 <|
 .pick [1, 3] <| .run 2 [b6 = b6, b4 = b4] rt2 <|
 .fin (x := .tup [.agg [.sl 5 false ((statD f c).1.l.map nodA), aI ((statD f c).1.next)], .agg [aI ((statD f c).2.e), aI ((statD f c).2.a), aI ((statD f c).2.b), aI ((statD f c).2.n), aS ((statD f c).2.text), .sl 1 false ((statD f c).2.names.map txA)]]) (r := .tup [.agg (fsyA (doF f c).1), .agg (repA (doF f c).2)]) [b3 = b3, b4 = b4] rt2 (by
  rw [do_yes (deed_2 hk) (bneF q1)]
  exact sR)) Tryz.func14 rfl (by kernel_rfl) (by kernel_rfl)
theorem do3_spec (f : Fsy) (c : Cal) (okf : OkF f) (okc : OkCal c) (hp : rowsP f) (hx : f.next < 9223372036854775807) (hk : c.kind = 3) : FSpec Tryz.prog 14 [.agg (fsyA f), .agg (calA c)] (.tup [.agg (fsyA (doF f c).1), .agg (repA (doF f c).2)]) := by
 exact spec_vc (F := Tryz.f14) 400 (
 .new fun b1 => .new fun b2 => .new fun b3 => .new fun b4 => .ord [1, 2, 0, 3, 4, 5, 6, 7, 8] <| .run 2 [b2 = b2] rt1 <|
 .call (deeds_spec) <|
 .look (kk := .i c.kind) (es := [(.i 1, .val (.func (.func 70) #[] #[])), (.i 2, .val (.func (.func 71) #[] #[])), (.i 3, .val (.func (.func 72) #[] #[])), (.i 4, .val (.func (.func 73) #[] #[])), (.i 5, .val (.func (.func 74) #[] #[])), (.i 6, .val (.func (.func 75) #[] #[])), (.i 7, .val (.func (.func 77) #[] #[])), (.i 8, .val (.func (.func 78) #[] #[])), (.i 9, .val (.func (.func 79) #[] #[])), (.i 10, .val (.func (.func 81) #[] #[])), (.i 11, .val (.func (.func 82) #[] #[])), (.i 12, .val (.func (.func 84) #[] #[])), (.i 13, .val (.func (.func 86) #[] #[])), (.i 14, .val (.func (.func 88) #[] #[])), (.i 15, .val (.func (.func 90) #[] #[]))]) (fd := some (2, .val (.func (.func 72) #[] #[]))) (by rw [hk]; rfl) <| .r 5 <| .r 2 <| .run 3 [b1 = b1, b2 = b2] rt2 <|
 .call (dread_o f c okf okc hp) <|
 .r 3 <| .new fun b5 => .new fun b6 => .run 2 [b5 = b5, b6 = b6] rt2 <|
 .run 3 [b6 = b6] rt1 <|
 .br 30 (((readO f c).2.e) != 0) (fun q1 => have p1 := bneT q1; .pick [0, 1] <| .run 2 [b1 = b1] rt1 <|
 .fork <| .alt (.run 1 [b6 = b6] rt1 <|
 .pick [3, 4, 5] <| .run 3 [b3 = b3, b4 = b4] rt2 <|
 .fin (x := .tup [.agg (fsyA f), .agg [aI ((readO f c).2.e), aI 0, aI 0, aI 0, aS ([]), aN]]) (r := .tup [.agg (fsyA (doF f c).1), .agg (repA (doF f c).2)]) [b3 = b3, b4 = b4] rt2 (by
  rw [do_no (deed_3 hk) (bneT q1)]
  exact Sub.tups ⟨sR, (rep_sub _ _ _ _ _), trivial⟩))
 <| .run 1 [b3 = b3] rt1 <|
 .pick [2, 3, 5] <| .run 3 [b6 = b6, b4 = b4] rt2 <|
 .fin (x := .tup [.agg (fsyA f), .agg [aI ((readO f c).2.e), aI 0, aI 0, aI 0, aS ([]), aN]]) (r := .tup [.agg (fsyA (doF f c).1), .agg (repA (doF f c).2)]) [b3 = b3, b4 = b4] rt2 (by
  rw [do_no (deed_3 hk) (bneT q1)]
  exact Sub.tups ⟨sR, (rep_sub _ _ _ _ _), trivial⟩))
 <| fun q1 => have p1 := bneF q1; .pick [0] <| .run 1 [b5 = b5] rt1 <|
 .fork <| .alt (.run 1 [b6 = b6] rt1 <|
 .pick [2, 3] <| .run 2 [b3 = b3, b4 = b4] rt2 <|
 .fin (x := .tup [.agg [.sl 5 false ((readO f c).1.l.map nodA), aI ((readO f c).1.next)], .agg [aI ((readO f c).2.e), aI ((readO f c).2.a), aI ((readO f c).2.b), aI ((readO f c).2.n), aS ((readO f c).2.text), .sl 1 false ((readO f c).2.names.map txA)]]) (r := .tup [.agg (fsyA (doF f c).1), .agg (repA (doF f c).2)]) [b3 = b3, b4 = b4] rt2 (by
  rw [do_yes (deed_3 hk) (bneF q1)]
  exact sR))
 <| .run 1 [b3 = b3] rt1 <|
 .pick [1, 3] <| .run 2 [b6 = b6, b4 = b4] rt2 <|
 .fin (x := .tup [.agg [.sl 5 false ((readO f c).1.l.map nodA), aI ((readO f c).1.next)], .agg [aI ((readO f c).2.e), aI ((readO f c).2.a), aI ((readO f c).2.b), aI ((readO f c).2.n), aS ((readO f c).2.text), .sl 1 false ((readO f c).2.names.map txA)]]) (r := .tup [.agg (fsyA (doF f c).1), .agg (repA (doF f c).2)]) [b3 = b3, b4 = b4] rt2 (by
  rw [do_yes (deed_3 hk) (bneF q1)]
  exact sR)) Tryz.func14 rfl (by kernel_rfl) (by kernel_rfl)
theorem do4_spec (f : Fsy) (c : Cal) (okf : OkF f) (okc : OkCal c) (hp : rowsP f) (hx : f.next < 9223372036854775807) (hk : c.kind = 4) : FSpec Tryz.prog 14 [.agg (fsyA f), .agg (calA c)] (.tup [.agg (fsyA (doF f c).1), .agg (repA (doF f c).2)]) := by
 exact spec_vc (F := Tryz.f14) 400 (
 .new fun b1 => .new fun b2 => .new fun b3 => .new fun b4 => .ord [1, 2, 0, 3, 4, 5, 6, 7, 8] <| .run 2 [b2 = b2] rt1 <|
 .call (deeds_spec) <|
 .look (kk := .i c.kind) (es := [(.i 1, .val (.func (.func 70) #[] #[])), (.i 2, .val (.func (.func 71) #[] #[])), (.i 3, .val (.func (.func 72) #[] #[])), (.i 4, .val (.func (.func 73) #[] #[])), (.i 5, .val (.func (.func 74) #[] #[])), (.i 6, .val (.func (.func 75) #[] #[])), (.i 7, .val (.func (.func 77) #[] #[])), (.i 8, .val (.func (.func 78) #[] #[])), (.i 9, .val (.func (.func 79) #[] #[])), (.i 10, .val (.func (.func 81) #[] #[])), (.i 11, .val (.func (.func 82) #[] #[])), (.i 12, .val (.func (.func 84) #[] #[])), (.i 13, .val (.func (.func 86) #[] #[])), (.i 14, .val (.func (.func 88) #[] #[])), (.i 15, .val (.func (.func 90) #[] #[]))]) (fd := some (3, .val (.func (.func 73) #[] #[]))) (by rw [hk]; rfl) <| .r 5 <| .r 2 <| .run 3 [b1 = b1, b2 = b2] rt2 <|
 .call (dwrite_o f c okf okc hp) <|
 .r 3 <| .new fun b5 => .new fun b6 => .run 2 [b5 = b5, b6 = b6] rt2 <|
 .run 3 [b6 = b6] rt1 <|
 .br 30 (((writeO f c).2.e) != 0) (fun q1 => have p1 := bneT q1; .pick [0, 1] <| .run 2 [b1 = b1] rt1 <|
 .fork <| .alt (.run 1 [b6 = b6] rt1 <|
 .pick [3, 4, 5] <| .run 3 [b3 = b3, b4 = b4] rt2 <|
 .fin (x := .tup [.agg (fsyA f), .agg [aI ((writeO f c).2.e), aI 0, aI 0, aI 0, aS ([]), aN]]) (r := .tup [.agg (fsyA (doF f c).1), .agg (repA (doF f c).2)]) [b3 = b3, b4 = b4] rt2 (by
  rw [do_no (deed_4 hk) (bneT q1)]
  exact Sub.tups ⟨sR, (rep_sub _ _ _ _ _), trivial⟩))
 <| .run 1 [b3 = b3] rt1 <|
 .pick [2, 3, 5] <| .run 3 [b6 = b6, b4 = b4] rt2 <|
 .fin (x := .tup [.agg (fsyA f), .agg [aI ((writeO f c).2.e), aI 0, aI 0, aI 0, aS ([]), aN]]) (r := .tup [.agg (fsyA (doF f c).1), .agg (repA (doF f c).2)]) [b3 = b3, b4 = b4] rt2 (by
  rw [do_no (deed_4 hk) (bneT q1)]
  exact Sub.tups ⟨sR, (rep_sub _ _ _ _ _), trivial⟩))
 <| fun q1 => have p1 := bneF q1; .pick [0] <| .run 1 [b5 = b5] rt1 <|
 .fork <| .alt (.run 1 [b6 = b6] rt1 <|
 .pick [2, 3] <| .run 2 [b3 = b3, b4 = b4] rt2 <|
 .fin (x := .tup [.agg [.sl 5 false ((writeO f c).1.l.map nodA), aI ((writeO f c).1.next)], .agg [aI ((writeO f c).2.e), aI ((writeO f c).2.a), aI ((writeO f c).2.b), aI ((writeO f c).2.n), aS ((writeO f c).2.text), .sl 1 false ((writeO f c).2.names.map txA)]]) (r := .tup [.agg (fsyA (doF f c).1), .agg (repA (doF f c).2)]) [b3 = b3, b4 = b4] rt2 (by
  rw [do_yes (deed_4 hk) (bneF q1)]
  exact sR))
 <| .run 1 [b3 = b3] rt1 <|
 .pick [1, 3] <| .run 2 [b6 = b6, b4 = b4] rt2 <|
 .fin (x := .tup [.agg [.sl 5 false ((writeO f c).1.l.map nodA), aI ((writeO f c).1.next)], .agg [aI ((writeO f c).2.e), aI ((writeO f c).2.a), aI ((writeO f c).2.b), aI ((writeO f c).2.n), aS ((writeO f c).2.text), .sl 1 false ((writeO f c).2.names.map txA)]]) (r := .tup [.agg (fsyA (doF f c).1), .agg (repA (doF f c).2)]) [b3 = b3, b4 = b4] rt2 (by
  rw [do_yes (deed_4 hk) (bneF q1)]
  exact sR)) Tryz.func14 rfl (by kernel_rfl) (by kernel_rfl)
theorem do5_spec (f : Fsy) (c : Cal) (okf : OkF f) (okc : OkCal c) (hp : rowsP f) (hx : f.next < 9223372036854775807) (hk : c.kind = 5) : FSpec Tryz.prog 14 [.agg (fsyA f), .agg (calA c)] (.tup [.agg (fsyA (doF f c).1), .agg (repA (doF f c).2)]) := by
 exact spec_vc (F := Tryz.f14) 400 (
 .new fun b1 => .new fun b2 => .new fun b3 => .new fun b4 => .ord [1, 2, 0, 3, 4, 5, 6, 7, 8] <| .run 2 [b2 = b2] rt1 <|
 .call (deeds_spec) <|
 .look (kk := .i c.kind) (es := [(.i 1, .val (.func (.func 70) #[] #[])), (.i 2, .val (.func (.func 71) #[] #[])), (.i 3, .val (.func (.func 72) #[] #[])), (.i 4, .val (.func (.func 73) #[] #[])), (.i 5, .val (.func (.func 74) #[] #[])), (.i 6, .val (.func (.func 75) #[] #[])), (.i 7, .val (.func (.func 77) #[] #[])), (.i 8, .val (.func (.func 78) #[] #[])), (.i 9, .val (.func (.func 79) #[] #[])), (.i 10, .val (.func (.func 81) #[] #[])), (.i 11, .val (.func (.func 82) #[] #[])), (.i 12, .val (.func (.func 84) #[] #[])), (.i 13, .val (.func (.func 86) #[] #[])), (.i 14, .val (.func (.func 88) #[] #[])), (.i 15, .val (.func (.func 90) #[] #[]))]) (fd := some (4, .val (.func (.func 74) #[] #[]))) (by rw [hk]; rfl) <| .r 5 <| .r 2 <| .run 3 [b1 = b1, b2 = b2] rt2 <|
 .call (dcut_o f c okf okc hp) <|
 .r 3 <| .new fun b5 => .new fun b6 => .run 2 [b5 = b5, b6 = b6] rt2 <|
 .run 3 [b6 = b6] rt1 <|
 .br 30 (((cutO f c).2.e) != 0) (fun q1 => have p1 := bneT q1; .pick [0, 1] <| .run 2 [b1 = b1] rt1 <|
 .fork <| .alt (.run 1 [b6 = b6] rt1 <|
 .pick [3, 4, 5] <| .run 3 [b3 = b3, b4 = b4] rt2 <|
 .fin (x := .tup [.agg (fsyA f), .agg [aI ((cutO f c).2.e), aI 0, aI 0, aI 0, aS ([]), aN]]) (r := .tup [.agg (fsyA (doF f c).1), .agg (repA (doF f c).2)]) [b3 = b3, b4 = b4] rt2 (by
  rw [do_no (deed_5 hk) (bneT q1)]
  exact Sub.tups ⟨sR, (rep_sub _ _ _ _ _), trivial⟩))
 <| .run 1 [b3 = b3] rt1 <|
 .pick [2, 3, 5] <| .run 3 [b6 = b6, b4 = b4] rt2 <|
 .fin (x := .tup [.agg (fsyA f), .agg [aI ((cutO f c).2.e), aI 0, aI 0, aI 0, aS ([]), aN]]) (r := .tup [.agg (fsyA (doF f c).1), .agg (repA (doF f c).2)]) [b3 = b3, b4 = b4] rt2 (by
  rw [do_no (deed_5 hk) (bneT q1)]
  exact Sub.tups ⟨sR, (rep_sub _ _ _ _ _), trivial⟩))
 <| fun q1 => have p1 := bneF q1; .pick [0] <| .run 1 [b5 = b5] rt1 <|
 .fork <| .alt (.run 1 [b6 = b6] rt1 <|
 .pick [2, 3] <| .run 2 [b3 = b3, b4 = b4] rt2 <|
 .fin (x := .tup [.agg [.sl 5 false ((cutO f c).1.l.map nodA), aI ((cutO f c).1.next)], .agg [aI ((cutO f c).2.e), aI ((cutO f c).2.a), aI ((cutO f c).2.b), aI ((cutO f c).2.n), aS ((cutO f c).2.text), .sl 1 false ((cutO f c).2.names.map txA)]]) (r := .tup [.agg (fsyA (doF f c).1), .agg (repA (doF f c).2)]) [b3 = b3, b4 = b4] rt2 (by
  rw [do_yes (deed_5 hk) (bneF q1)]
  exact sR))
 <| .run 1 [b3 = b3] rt1 <|
 .pick [1, 3] <| .run 2 [b6 = b6, b4 = b4] rt2 <|
 .fin (x := .tup [.agg [.sl 5 false ((cutO f c).1.l.map nodA), aI ((cutO f c).1.next)], .agg [aI ((cutO f c).2.e), aI ((cutO f c).2.a), aI ((cutO f c).2.b), aI ((cutO f c).2.n), aS ((cutO f c).2.text), .sl 1 false ((cutO f c).2.names.map txA)]]) (r := .tup [.agg (fsyA (doF f c).1), .agg (repA (doF f c).2)]) [b3 = b3, b4 = b4] rt2 (by
  rw [do_yes (deed_5 hk) (bneF q1)]
  exact sR)) Tryz.func14 rfl (by kernel_rfl) (by kernel_rfl)
theorem do6_spec (f : Fsy) (c : Cal) (okf : OkF f) (okc : OkCal c) (hp : rowsP f) (hx : f.next < 9223372036854775807) (hk : c.kind = 6) : FSpec Tryz.prog 14 [.agg (fsyA f), .agg (calA c)] (.tup [.agg (fsyA (doF f c).1), .agg (repA (doF f c).2)]) := by
 exact spec_vc (F := Tryz.f14) 400 (
 .new fun b1 => .new fun b2 => .new fun b3 => .new fun b4 => .ord [1, 2, 0, 3, 4, 5, 6, 7, 8] <| .run 2 [b2 = b2] rt1 <|
 .call (deeds_spec) <|
 .look (kk := .i c.kind) (es := [(.i 1, .val (.func (.func 70) #[] #[])), (.i 2, .val (.func (.func 71) #[] #[])), (.i 3, .val (.func (.func 72) #[] #[])), (.i 4, .val (.func (.func 73) #[] #[])), (.i 5, .val (.func (.func 74) #[] #[])), (.i 6, .val (.func (.func 75) #[] #[])), (.i 7, .val (.func (.func 77) #[] #[])), (.i 8, .val (.func (.func 78) #[] #[])), (.i 9, .val (.func (.func 79) #[] #[])), (.i 10, .val (.func (.func 81) #[] #[])), (.i 11, .val (.func (.func 82) #[] #[])), (.i 12, .val (.func (.func 84) #[] #[])), (.i 13, .val (.func (.func 86) #[] #[])), (.i 14, .val (.func (.func 88) #[] #[])), (.i 15, .val (.func (.func 90) #[] #[]))]) (fd := some (5, .val (.func (.func 75) #[] #[]))) (by rw [hk]; rfl) <| .r 5 <| .r 2 <| .run 3 [b1 = b1, b2 = b2] rt2 <|
 .call (deed6_o f c okf okc hp hx) <|
 .r 3 <| .new fun b5 => .new fun b6 => .run 2 [b5 = b5, b6 = b6] rt2 <|
 .run 3 [b6 = b6] rt1 <|
 .br 30 (((addO f c ⟨0, 1, 0, [], []⟩).2.e) != 0) (fun q1 => have p1 := bneT q1; .pick [0, 1] <| .run 2 [b1 = b1] rt1 <|
 .fork <| .alt (.run 1 [b6 = b6] rt1 <|
 .pick [3, 4, 5] <| .run 3 [b3 = b3, b4 = b4] rt2 <|
 .fin (x := .tup [.agg (fsyA f), .agg [aI ((addO f c ⟨0, 1, 0, [], []⟩).2.e), aI 0, aI 0, aI 0, aS ([]), aN]]) (r := .tup [.agg (fsyA (doF f c).1), .agg (repA (doF f c).2)]) [b3 = b3, b4 = b4] rt2 (by
  rw [do_no (deed_6 hk) (bneT q1)]
  exact Sub.tups ⟨sR, (rep_sub _ _ _ _ _), trivial⟩))
 <| .run 1 [b3 = b3] rt1 <|
 .pick [2, 3, 5] <| .run 3 [b6 = b6, b4 = b4] rt2 <|
 .fin (x := .tup [.agg (fsyA f), .agg [aI ((addO f c ⟨0, 1, 0, [], []⟩).2.e), aI 0, aI 0, aI 0, aS ([]), aN]]) (r := .tup [.agg (fsyA (doF f c).1), .agg (repA (doF f c).2)]) [b3 = b3, b4 = b4] rt2 (by
  rw [do_no (deed_6 hk) (bneT q1)]
  exact Sub.tups ⟨sR, (rep_sub _ _ _ _ _), trivial⟩))
 <| fun q1 => have p1 := bneF q1; .pick [0] <| .run 1 [b5 = b5] rt1 <|
 .fork <| .alt (.run 1 [b6 = b6] rt1 <|
 .pick [2, 3] <| .run 2 [b3 = b3, b4 = b4] rt2 <|
 .fin (x := .tup [.agg [.sl 5 false ((addO f c ⟨0, 1, 0, [], []⟩).1.l.map nodA), aI ((addO f c ⟨0, 1, 0, [], []⟩).1.next)], .agg [aI ((addO f c ⟨0, 1, 0, [], []⟩).2.e), aI ((addO f c ⟨0, 1, 0, [], []⟩).2.a), aI ((addO f c ⟨0, 1, 0, [], []⟩).2.b), aI ((addO f c ⟨0, 1, 0, [], []⟩).2.n), aS ((addO f c ⟨0, 1, 0, [], []⟩).2.text), .sl 1 false ((addO f c ⟨0, 1, 0, [], []⟩).2.names.map txA)]]) (r := .tup [.agg (fsyA (doF f c).1), .agg (repA (doF f c).2)]) [b3 = b3, b4 = b4] rt2 (by
  rw [do_yes (deed_6 hk) (bneF q1)]
  exact sR))
 <| .run 1 [b3 = b3] rt1 <|
 .pick [1, 3] <| .run 2 [b6 = b6, b4 = b4] rt2 <|
 .fin (x := .tup [.agg [.sl 5 false ((addO f c ⟨0, 1, 0, [], []⟩).1.l.map nodA), aI ((addO f c ⟨0, 1, 0, [], []⟩).1.next)], .agg [aI ((addO f c ⟨0, 1, 0, [], []⟩).2.e), aI ((addO f c ⟨0, 1, 0, [], []⟩).2.a), aI ((addO f c ⟨0, 1, 0, [], []⟩).2.b), aI ((addO f c ⟨0, 1, 0, [], []⟩).2.n), aS ((addO f c ⟨0, 1, 0, [], []⟩).2.text), .sl 1 false ((addO f c ⟨0, 1, 0, [], []⟩).2.names.map txA)]]) (r := .tup [.agg (fsyA (doF f c).1), .agg (repA (doF f c).2)]) [b3 = b3, b4 = b4] rt2 (by
  rw [do_yes (deed_6 hk) (bneF q1)]
  exact sR)) Tryz.func14 rfl (by kernel_rfl) (by kernel_rfl)
theorem do7_spec (f : Fsy) (c : Cal) (okf : OkF f) (okc : OkCal c) (hp : rowsP f) (hx : f.next < 9223372036854775807) (hk : c.kind = 7) : FSpec Tryz.prog 14 [.agg (fsyA f), .agg (calA c)] (.tup [.agg (fsyA (doF f c).1), .agg (repA (doF f c).2)]) := by
 exact spec_vc (F := Tryz.f14) 400 (
 .new fun b1 => .new fun b2 => .new fun b3 => .new fun b4 => .ord [1, 2, 0, 3, 4, 5, 6, 7, 8] <| .run 2 [b2 = b2] rt1 <|
 .call (deeds_spec) <|
 .look (kk := .i c.kind) (es := [(.i 1, .val (.func (.func 70) #[] #[])), (.i 2, .val (.func (.func 71) #[] #[])), (.i 3, .val (.func (.func 72) #[] #[])), (.i 4, .val (.func (.func 73) #[] #[])), (.i 5, .val (.func (.func 74) #[] #[])), (.i 6, .val (.func (.func 75) #[] #[])), (.i 7, .val (.func (.func 77) #[] #[])), (.i 8, .val (.func (.func 78) #[] #[])), (.i 9, .val (.func (.func 79) #[] #[])), (.i 10, .val (.func (.func 81) #[] #[])), (.i 11, .val (.func (.func 82) #[] #[])), (.i 12, .val (.func (.func 84) #[] #[])), (.i 13, .val (.func (.func 86) #[] #[])), (.i 14, .val (.func (.func 88) #[] #[])), (.i 15, .val (.func (.func 90) #[] #[]))]) (fd := some (6, .val (.func (.func 77) #[] #[]))) (by rw [hk]; rfl) <| .r 5 <| .r 2 <| .run 3 [b1 = b1, b2 = b2] rt2 <|
 .call (deed7_o f c okf okc hp hx) <|
 .r 3 <| .new fun b5 => .new fun b6 => .run 2 [b5 = b5, b6 = b6] rt2 <|
 .run 3 [b6 = b6] rt1 <|
 .br 30 (((addO f c ⟨0, 2, 0, [], []⟩).2.e) != 0) (fun q1 => have p1 := bneT q1; .pick [0, 1] <| .run 2 [b1 = b1] rt1 <|
 .fork <| .alt (.run 1 [b6 = b6] rt1 <|
 .pick [3, 4, 5] <| .run 3 [b3 = b3, b4 = b4] rt2 <|
 .fin (x := .tup [.agg (fsyA f), .agg [aI ((addO f c ⟨0, 2, 0, [], []⟩).2.e), aI 0, aI 0, aI 0, aS ([]), aN]]) (r := .tup [.agg (fsyA (doF f c).1), .agg (repA (doF f c).2)]) [b3 = b3, b4 = b4] rt2 (by
  rw [do_no (deed_7 hk) (bneT q1)]
  exact Sub.tups ⟨sR, (rep_sub _ _ _ _ _), trivial⟩))
 <| .run 1 [b3 = b3] rt1 <|
 .pick [2, 3, 5] <| .run 3 [b6 = b6, b4 = b4] rt2 <|
 .fin (x := .tup [.agg (fsyA f), .agg [aI ((addO f c ⟨0, 2, 0, [], []⟩).2.e), aI 0, aI 0, aI 0, aS ([]), aN]]) (r := .tup [.agg (fsyA (doF f c).1), .agg (repA (doF f c).2)]) [b3 = b3, b4 = b4] rt2 (by
  rw [do_no (deed_7 hk) (bneT q1)]
  exact Sub.tups ⟨sR, (rep_sub _ _ _ _ _), trivial⟩))
 <| fun q1 => have p1 := bneF q1; .pick [0] <| .run 1 [b5 = b5] rt1 <|
 .fork <| .alt (.run 1 [b6 = b6] rt1 <|
 .pick [2, 3] <| .run 2 [b3 = b3, b4 = b4] rt2 <|
 .fin (x := .tup [.agg [.sl 5 false ((addO f c ⟨0, 2, 0, [], []⟩).1.l.map nodA), aI ((addO f c ⟨0, 2, 0, [], []⟩).1.next)], .agg [aI ((addO f c ⟨0, 2, 0, [], []⟩).2.e), aI ((addO f c ⟨0, 2, 0, [], []⟩).2.a), aI ((addO f c ⟨0, 2, 0, [], []⟩).2.b), aI ((addO f c ⟨0, 2, 0, [], []⟩).2.n), aS ((addO f c ⟨0, 2, 0, [], []⟩).2.text), .sl 1 false ((addO f c ⟨0, 2, 0, [], []⟩).2.names.map txA)]]) (r := .tup [.agg (fsyA (doF f c).1), .agg (repA (doF f c).2)]) [b3 = b3, b4 = b4] rt2 (by
  rw [do_yes (deed_7 hk) (bneF q1)]
  exact sR))
 <| .run 1 [b3 = b3] rt1 <|
 .pick [1, 3] <| .run 2 [b6 = b6, b4 = b4] rt2 <|
 .fin (x := .tup [.agg [.sl 5 false ((addO f c ⟨0, 2, 0, [], []⟩).1.l.map nodA), aI ((addO f c ⟨0, 2, 0, [], []⟩).1.next)], .agg [aI ((addO f c ⟨0, 2, 0, [], []⟩).2.e), aI ((addO f c ⟨0, 2, 0, [], []⟩).2.a), aI ((addO f c ⟨0, 2, 0, [], []⟩).2.b), aI ((addO f c ⟨0, 2, 0, [], []⟩).2.n), aS ((addO f c ⟨0, 2, 0, [], []⟩).2.text), .sl 1 false ((addO f c ⟨0, 2, 0, [], []⟩).2.names.map txA)]]) (r := .tup [.agg (fsyA (doF f c).1), .agg (repA (doF f c).2)]) [b3 = b3, b4 = b4] rt2 (by
  rw [do_yes (deed_7 hk) (bneF q1)]
  exact sR)) Tryz.func14 rfl (by kernel_rfl) (by kernel_rfl)
theorem do8_spec (f : Fsy) (c : Cal) (okf : OkF f) (okc : OkCal c) (hp : rowsP f) (hx : f.next < 9223372036854775807) (hk : c.kind = 8) : FSpec Tryz.prog 14 [.agg (fsyA f), .agg (calA c)] (.tup [.agg (fsyA (doF f c).1), .agg (repA (doF f c).2)]) := by
 exact spec_vc (F := Tryz.f14) 400 (
 .new fun b1 => .new fun b2 => .new fun b3 => .new fun b4 => .ord [1, 2, 0, 3, 4, 5, 6, 7, 8] <| .run 2 [b2 = b2] rt1 <|
 .call (deeds_spec) <|
 .look (kk := .i c.kind) (es := [(.i 1, .val (.func (.func 70) #[] #[])), (.i 2, .val (.func (.func 71) #[] #[])), (.i 3, .val (.func (.func 72) #[] #[])), (.i 4, .val (.func (.func 73) #[] #[])), (.i 5, .val (.func (.func 74) #[] #[])), (.i 6, .val (.func (.func 75) #[] #[])), (.i 7, .val (.func (.func 77) #[] #[])), (.i 8, .val (.func (.func 78) #[] #[])), (.i 9, .val (.func (.func 79) #[] #[])), (.i 10, .val (.func (.func 81) #[] #[])), (.i 11, .val (.func (.func 82) #[] #[])), (.i 12, .val (.func (.func 84) #[] #[])), (.i 13, .val (.func (.func 86) #[] #[])), (.i 14, .val (.func (.func 88) #[] #[])), (.i 15, .val (.func (.func 90) #[] #[]))]) (fd := some (7, .val (.func (.func 78) #[] #[]))) (by rw [hk]; rfl) <| .r 5 <| .r 2 <| .run 3 [b1 = b1, b2 = b2] rt2 <|
 .call (deed8_o f c okf okc hp hx) <|
 .r 3 <| .new fun b5 => .new fun b6 => .run 2 [b5 = b5, b6 = b6] rt2 <|
 .run 3 [b6 = b6] rt1 <|
 .br 30 (((symO f c).2.e) != 0) (fun q1 => have p1 := bneT q1; .pick [0, 1] <| .run 2 [b1 = b1] rt1 <|
 .fork <| .alt (.run 1 [b6 = b6] rt1 <|
 .pick [3, 4, 5] <| .run 3 [b3 = b3, b4 = b4] rt2 <|
 .fin (x := .tup [.agg (fsyA f), .agg [aI ((symO f c).2.e), aI 0, aI 0, aI 0, aS ([]), aN]]) (r := .tup [.agg (fsyA (doF f c).1), .agg (repA (doF f c).2)]) [b3 = b3, b4 = b4] rt2 (by
  rw [do_no (deed_8 hk) (bneT q1)]
  exact Sub.tups ⟨sR, (rep_sub _ _ _ _ _), trivial⟩))
 <| .run 1 [b3 = b3] rt1 <|
 .pick [2, 3, 5] <| .run 3 [b6 = b6, b4 = b4] rt2 <|
 .fin (x := .tup [.agg (fsyA f), .agg [aI ((symO f c).2.e), aI 0, aI 0, aI 0, aS ([]), aN]]) (r := .tup [.agg (fsyA (doF f c).1), .agg (repA (doF f c).2)]) [b3 = b3, b4 = b4] rt2 (by
  rw [do_no (deed_8 hk) (bneT q1)]
  exact Sub.tups ⟨sR, (rep_sub _ _ _ _ _), trivial⟩))
 <| fun q1 => have p1 := bneF q1; .pick [0] <| .run 1 [b5 = b5] rt1 <|
 .fork <| .alt (.run 1 [b6 = b6] rt1 <|
 .pick [2, 3] <| .run 2 [b3 = b3, b4 = b4] rt2 <|
 .fin (x := .tup [.agg [.sl 5 false ((symO f c).1.l.map nodA), aI ((symO f c).1.next)], .agg [aI ((symO f c).2.e), aI ((symO f c).2.a), aI ((symO f c).2.b), aI ((symO f c).2.n), aS ((symO f c).2.text), .sl 1 false ((symO f c).2.names.map txA)]]) (r := .tup [.agg (fsyA (doF f c).1), .agg (repA (doF f c).2)]) [b3 = b3, b4 = b4] rt2 (by
  rw [do_yes (deed_8 hk) (bneF q1)]
  exact sR))
 <| .run 1 [b3 = b3] rt1 <|
 .pick [1, 3] <| .run 2 [b6 = b6, b4 = b4] rt2 <|
 .fin (x := .tup [.agg [.sl 5 false ((symO f c).1.l.map nodA), aI ((symO f c).1.next)], .agg [aI ((symO f c).2.e), aI ((symO f c).2.a), aI ((symO f c).2.b), aI ((symO f c).2.n), aS ((symO f c).2.text), .sl 1 false ((symO f c).2.names.map txA)]]) (r := .tup [.agg (fsyA (doF f c).1), .agg (repA (doF f c).2)]) [b3 = b3, b4 = b4] rt2 (by
  rw [do_yes (deed_8 hk) (bneF q1)]
  exact sR)) Tryz.func14 rfl (by kernel_rfl) (by kernel_rfl)
theorem do9_spec (f : Fsy) (c : Cal) (okf : OkF f) (okc : OkCal c) (hp : rowsP f) (hx : f.next < 9223372036854775807) (hk : c.kind = 9) : FSpec Tryz.prog 14 [.agg (fsyA f), .agg (calA c)] (.tup [.agg (fsyA (doF f c).1), .agg (repA (doF f c).2)]) := by
 exact spec_vc (F := Tryz.f14) 400 (
 .new fun b1 => .new fun b2 => .new fun b3 => .new fun b4 => .ord [1, 2, 0, 3, 4, 5, 6, 7, 8] <| .run 2 [b2 = b2] rt1 <|
 .call (deeds_spec) <|
 .look (kk := .i c.kind) (es := [(.i 1, .val (.func (.func 70) #[] #[])), (.i 2, .val (.func (.func 71) #[] #[])), (.i 3, .val (.func (.func 72) #[] #[])), (.i 4, .val (.func (.func 73) #[] #[])), (.i 5, .val (.func (.func 74) #[] #[])), (.i 6, .val (.func (.func 75) #[] #[])), (.i 7, .val (.func (.func 77) #[] #[])), (.i 8, .val (.func (.func 78) #[] #[])), (.i 9, .val (.func (.func 79) #[] #[])), (.i 10, .val (.func (.func 81) #[] #[])), (.i 11, .val (.func (.func 82) #[] #[])), (.i 12, .val (.func (.func 84) #[] #[])), (.i 13, .val (.func (.func 86) #[] #[])), (.i 14, .val (.func (.func 88) #[] #[])), (.i 15, .val (.func (.func 90) #[] #[]))]) (fd := some (8, .val (.func (.func 79) #[] #[]))) (by rw [hk]; rfl) <| .r 5 <| .r 2 <| .run 3 [b1 = b1, b2 = b2] rt2 <|
 .call (deed9_o f c okf okc hp) <|
 .r 3 <| .new fun b5 => .new fun b6 => .run 2 [b5 = b5, b6 = b6] rt2 <|
 .run 3 [b6 = b6] rt1 <|
 .br 30 (((takeO f c false 9).2.e) != 0) (fun q1 => have p1 := bneT q1; .pick [0, 1] <| .run 2 [b1 = b1] rt1 <|
 .fork <| .alt (.run 1 [b6 = b6] rt1 <|
 .pick [3, 4, 5] <| .run 3 [b3 = b3, b4 = b4] rt2 <|
 .fin (x := .tup [.agg (fsyA f), .agg [aI ((takeO f c false 9).2.e), aI 0, aI 0, aI 0, aS ([]), aN]]) (r := .tup [.agg (fsyA (doF f c).1), .agg (repA (doF f c).2)]) [b3 = b3, b4 = b4] rt2 (by
  rw [do_no (deed_9 hk) (bneT q1)]
  exact Sub.tups ⟨sR, (rep_sub _ _ _ _ _), trivial⟩))
 <| .run 1 [b3 = b3] rt1 <|
 .pick [2, 3, 5] <| .run 3 [b6 = b6, b4 = b4] rt2 <|
 .fin (x := .tup [.agg (fsyA f), .agg [aI ((takeO f c false 9).2.e), aI 0, aI 0, aI 0, aS ([]), aN]]) (r := .tup [.agg (fsyA (doF f c).1), .agg (repA (doF f c).2)]) [b3 = b3, b4 = b4] rt2 (by
  rw [do_no (deed_9 hk) (bneT q1)]
  exact Sub.tups ⟨sR, (rep_sub _ _ _ _ _), trivial⟩))
 <| fun q1 => have p1 := bneF q1; .pick [0] <| .run 1 [b5 = b5] rt1 <|
 .fork <| .alt (.run 1 [b6 = b6] rt1 <|
 .pick [2, 3] <| .run 2 [b3 = b3, b4 = b4] rt2 <|
 .fin (x := .tup [.agg [.sl 5 false ((takeO f c false 9).1.l.map nodA), aI ((takeO f c false 9).1.next)], .agg [aI ((takeO f c false 9).2.e), aI ((takeO f c false 9).2.a), aI ((takeO f c false 9).2.b), aI ((takeO f c false 9).2.n), aS ((takeO f c false 9).2.text), .sl 1 false ((takeO f c false 9).2.names.map txA)]]) (r := .tup [.agg (fsyA (doF f c).1), .agg (repA (doF f c).2)]) [b3 = b3, b4 = b4] rt2 (by
  rw [do_yes (deed_9 hk) (bneF q1)]
  exact sR))
 <| .run 1 [b3 = b3] rt1 <|
 .pick [1, 3] <| .run 2 [b6 = b6, b4 = b4] rt2 <|
 .fin (x := .tup [.agg [.sl 5 false ((takeO f c false 9).1.l.map nodA), aI ((takeO f c false 9).1.next)], .agg [aI ((takeO f c false 9).2.e), aI ((takeO f c false 9).2.a), aI ((takeO f c false 9).2.b), aI ((takeO f c false 9).2.n), aS ((takeO f c false 9).2.text), .sl 1 false ((takeO f c false 9).2.names.map txA)]]) (r := .tup [.agg (fsyA (doF f c).1), .agg (repA (doF f c).2)]) [b3 = b3, b4 = b4] rt2 (by
  rw [do_yes (deed_9 hk) (bneF q1)]
  exact sR)) Tryz.func14 rfl (by kernel_rfl) (by kernel_rfl)
theorem do10_spec (f : Fsy) (c : Cal) (okf : OkF f) (okc : OkCal c) (hp : rowsP f) (hx : f.next < 9223372036854775807) (hk : c.kind = 10) : FSpec Tryz.prog 14 [.agg (fsyA f), .agg (calA c)] (.tup [.agg (fsyA (doF f c).1), .agg (repA (doF f c).2)]) := by
 exact spec_vc (F := Tryz.f14) 400 (
 .new fun b1 => .new fun b2 => .new fun b3 => .new fun b4 => .ord [1, 2, 0, 3, 4, 5, 6, 7, 8] <| .run 2 [b2 = b2] rt1 <|
 .call (deeds_spec) <|
 .look (kk := .i c.kind) (es := [(.i 1, .val (.func (.func 70) #[] #[])), (.i 2, .val (.func (.func 71) #[] #[])), (.i 3, .val (.func (.func 72) #[] #[])), (.i 4, .val (.func (.func 73) #[] #[])), (.i 5, .val (.func (.func 74) #[] #[])), (.i 6, .val (.func (.func 75) #[] #[])), (.i 7, .val (.func (.func 77) #[] #[])), (.i 8, .val (.func (.func 78) #[] #[])), (.i 9, .val (.func (.func 79) #[] #[])), (.i 10, .val (.func (.func 81) #[] #[])), (.i 11, .val (.func (.func 82) #[] #[])), (.i 12, .val (.func (.func 84) #[] #[])), (.i 13, .val (.func (.func 86) #[] #[])), (.i 14, .val (.func (.func 88) #[] #[])), (.i 15, .val (.func (.func 90) #[] #[]))]) (fd := some (9, .val (.func (.func 81) #[] #[]))) (by rw [hk]; rfl) <| .r 5 <| .r 2 <| .run 3 [b1 = b1, b2 = b2] rt2 <|
 .call (deed10_o f c okf okc hp) <|
 .r 3 <| .new fun b5 => .new fun b6 => .run 2 [b5 = b5, b6 = b6] rt2 <|
 .run 3 [b6 = b6] rt1 <|
 .br 30 (((takeO f c true 8).2.e) != 0) (fun q1 => have p1 := bneT q1; .pick [0, 1] <| .run 2 [b1 = b1] rt1 <|
 .fork <| .alt (.run 1 [b6 = b6] rt1 <|
 .pick [3, 4, 5] <| .run 3 [b3 = b3, b4 = b4] rt2 <|
 .fin (x := .tup [.agg (fsyA f), .agg [aI ((takeO f c true 8).2.e), aI 0, aI 0, aI 0, aS ([]), aN]]) (r := .tup [.agg (fsyA (doF f c).1), .agg (repA (doF f c).2)]) [b3 = b3, b4 = b4] rt2 (by
  rw [do_no (deed_10 hk) (bneT q1)]
  exact Sub.tups ⟨sR, (rep_sub _ _ _ _ _), trivial⟩))
 <| .run 1 [b3 = b3] rt1 <|
 .pick [2, 3, 5] <| .run 3 [b6 = b6, b4 = b4] rt2 <|
 .fin (x := .tup [.agg (fsyA f), .agg [aI ((takeO f c true 8).2.e), aI 0, aI 0, aI 0, aS ([]), aN]]) (r := .tup [.agg (fsyA (doF f c).1), .agg (repA (doF f c).2)]) [b3 = b3, b4 = b4] rt2 (by
  rw [do_no (deed_10 hk) (bneT q1)]
  exact Sub.tups ⟨sR, (rep_sub _ _ _ _ _), trivial⟩))
 <| fun q1 => have p1 := bneF q1; .pick [0] <| .run 1 [b5 = b5] rt1 <|
 .fork <| .alt (.run 1 [b6 = b6] rt1 <|
 .pick [2, 3] <| .run 2 [b3 = b3, b4 = b4] rt2 <|
 .fin (x := .tup [.agg [.sl 5 false ((takeO f c true 8).1.l.map nodA), aI ((takeO f c true 8).1.next)], .agg [aI ((takeO f c true 8).2.e), aI ((takeO f c true 8).2.a), aI ((takeO f c true 8).2.b), aI ((takeO f c true 8).2.n), aS ((takeO f c true 8).2.text), .sl 1 false ((takeO f c true 8).2.names.map txA)]]) (r := .tup [.agg (fsyA (doF f c).1), .agg (repA (doF f c).2)]) [b3 = b3, b4 = b4] rt2 (by
  rw [do_yes (deed_10 hk) (bneF q1)]
  exact sR))
 <| .run 1 [b3 = b3] rt1 <|
 .pick [1, 3] <| .run 2 [b6 = b6, b4 = b4] rt2 <|
 .fin (x := .tup [.agg [.sl 5 false ((takeO f c true 8).1.l.map nodA), aI ((takeO f c true 8).1.next)], .agg [aI ((takeO f c true 8).2.e), aI ((takeO f c true 8).2.a), aI ((takeO f c true 8).2.b), aI ((takeO f c true 8).2.n), aS ((takeO f c true 8).2.text), .sl 1 false ((takeO f c true 8).2.names.map txA)]]) (r := .tup [.agg (fsyA (doF f c).1), .agg (repA (doF f c).2)]) [b3 = b3, b4 = b4] rt2 (by
  rw [do_yes (deed_10 hk) (bneF q1)]
  exact sR)) Tryz.func14 rfl (by kernel_rfl) (by kernel_rfl)
theorem do11_spec (f : Fsy) (c : Cal) (okf : OkF f) (okc : OkCal c) (hp : rowsP f) (hx : f.next < 9223372036854775807) (hk : c.kind = 11) : FSpec Tryz.prog 14 [.agg (fsyA f), .agg (calA c)] (.tup [.agg (fsyA (doF f c).1), .agg (repA (doF f c).2)]) := by
 exact spec_vc (F := Tryz.f14) 400 (
 .new fun b1 => .new fun b2 => .new fun b3 => .new fun b4 => .ord [1, 2, 0, 3, 4, 5, 6, 7, 8] <| .run 2 [b2 = b2] rt1 <|
 .call (deeds_spec) <|
 .look (kk := .i c.kind) (es := [(.i 1, .val (.func (.func 70) #[] #[])), (.i 2, .val (.func (.func 71) #[] #[])), (.i 3, .val (.func (.func 72) #[] #[])), (.i 4, .val (.func (.func 73) #[] #[])), (.i 5, .val (.func (.func 74) #[] #[])), (.i 6, .val (.func (.func 75) #[] #[])), (.i 7, .val (.func (.func 77) #[] #[])), (.i 8, .val (.func (.func 78) #[] #[])), (.i 9, .val (.func (.func 79) #[] #[])), (.i 10, .val (.func (.func 81) #[] #[])), (.i 11, .val (.func (.func 82) #[] #[])), (.i 12, .val (.func (.func 84) #[] #[])), (.i 13, .val (.func (.func 86) #[] #[])), (.i 14, .val (.func (.func 88) #[] #[])), (.i 15, .val (.func (.func 90) #[] #[]))]) (fd := some (10, .val (.func (.func 82) #[] #[]))) (by rw [hk]; rfl) <| .r 5 <| .r 2 <| .run 3 [b1 = b1, b2 = b2] rt2 <|
 .call (deed11_o f c okf okc hp) <|
 .r 3 <| .new fun b5 => .new fun b6 => .run 2 [b5 = b5, b6 = b6] rt2 <|
 .run 3 [b6 = b6] rt1 <|
 .br 30 (((linkO f c).2.e) != 0) (fun q1 => have p1 := bneT q1; .pick [0, 1] <| .run 2 [b1 = b1] rt1 <|
 .fork <| .alt (.run 1 [b6 = b6] rt1 <|
 .pick [3, 4, 5] <| .run 3 [b3 = b3, b4 = b4] rt2 <|
 .fin (x := .tup [.agg (fsyA f), .agg [aI ((linkO f c).2.e), aI 0, aI 0, aI 0, aS ([]), aN]]) (r := .tup [.agg (fsyA (doF f c).1), .agg (repA (doF f c).2)]) [b3 = b3, b4 = b4] rt2 (by
  rw [do_no (deed_11 hk) (bneT q1)]
  exact Sub.tups ⟨sR, (rep_sub _ _ _ _ _), trivial⟩))
 <| .run 1 [b3 = b3] rt1 <|
 .pick [2, 3, 5] <| .run 3 [b6 = b6, b4 = b4] rt2 <|
 .fin (x := .tup [.agg (fsyA f), .agg [aI ((linkO f c).2.e), aI 0, aI 0, aI 0, aS ([]), aN]]) (r := .tup [.agg (fsyA (doF f c).1), .agg (repA (doF f c).2)]) [b3 = b3, b4 = b4] rt2 (by
  rw [do_no (deed_11 hk) (bneT q1)]
  exact Sub.tups ⟨sR, (rep_sub _ _ _ _ _), trivial⟩))
 <| fun q1 => have p1 := bneF q1; .pick [0] <| .run 1 [b5 = b5] rt1 <|
 .fork <| .alt (.run 1 [b6 = b6] rt1 <|
 .pick [2, 3] <| .run 2 [b3 = b3, b4 = b4] rt2 <|
 .fin (x := .tup [.agg [.sl 5 false ((linkO f c).1.l.map nodA), aI ((linkO f c).1.next)], .agg [aI ((linkO f c).2.e), aI ((linkO f c).2.a), aI ((linkO f c).2.b), aI ((linkO f c).2.n), aS ((linkO f c).2.text), .sl 1 false ((linkO f c).2.names.map txA)]]) (r := .tup [.agg (fsyA (doF f c).1), .agg (repA (doF f c).2)]) [b3 = b3, b4 = b4] rt2 (by
  rw [do_yes (deed_11 hk) (bneF q1)]
  exact sR))
 <| .run 1 [b3 = b3] rt1 <|
 .pick [1, 3] <| .run 2 [b6 = b6, b4 = b4] rt2 <|
 .fin (x := .tup [.agg [.sl 5 false ((linkO f c).1.l.map nodA), aI ((linkO f c).1.next)], .agg [aI ((linkO f c).2.e), aI ((linkO f c).2.a), aI ((linkO f c).2.b), aI ((linkO f c).2.n), aS ((linkO f c).2.text), .sl 1 false ((linkO f c).2.names.map txA)]]) (r := .tup [.agg (fsyA (doF f c).1), .agg (repA (doF f c).2)]) [b3 = b3, b4 = b4] rt2 (by
  rw [do_yes (deed_11 hk) (bneF q1)]
  exact sR)) Tryz.func14 rfl (by kernel_rfl) (by kernel_rfl)
theorem do12_spec (f : Fsy) (c : Cal) (okf : OkF f) (okc : OkCal c) (hp : rowsP f) (hx : f.next < 9223372036854775807) (hk : c.kind = 12) : FSpec Tryz.prog 14 [.agg (fsyA f), .agg (calA c)] (.tup [.agg (fsyA (doF f c).1), .agg (repA (doF f c).2)]) := by
 exact spec_vc (F := Tryz.f14) 400 (
 .new fun b1 => .new fun b2 => .new fun b3 => .new fun b4 => .ord [1, 2, 0, 3, 4, 5, 6, 7, 8] <| .run 2 [b2 = b2] rt1 <|
 .call (deeds_spec) <|
 .look (kk := .i c.kind) (es := [(.i 1, .val (.func (.func 70) #[] #[])), (.i 2, .val (.func (.func 71) #[] #[])), (.i 3, .val (.func (.func 72) #[] #[])), (.i 4, .val (.func (.func 73) #[] #[])), (.i 5, .val (.func (.func 74) #[] #[])), (.i 6, .val (.func (.func 75) #[] #[])), (.i 7, .val (.func (.func 77) #[] #[])), (.i 8, .val (.func (.func 78) #[] #[])), (.i 9, .val (.func (.func 79) #[] #[])), (.i 10, .val (.func (.func 81) #[] #[])), (.i 11, .val (.func (.func 82) #[] #[])), (.i 12, .val (.func (.func 84) #[] #[])), (.i 13, .val (.func (.func 86) #[] #[])), (.i 14, .val (.func (.func 88) #[] #[])), (.i 15, .val (.func (.func 90) #[] #[]))]) (fd := some (11, .val (.func (.func 84) #[] #[]))) (by rw [hk]; rfl) <| .r 5 <| .r 2 <| .run 3 [b1 = b1, b2 = b2] rt2 <|
 .call (deed12_o f c okf okc hp) <|
 .r 3 <| .new fun b5 => .new fun b6 => .run 2 [b5 = b5, b6 = b6] rt2 <|
 .run 3 [b6 = b6] rt1 <|
 .br 30 (((renO f c).2.e) != 0) (fun q1 => have p1 := bneT q1; .pick [0, 1] <| .run 2 [b1 = b1] rt1 <|
 .fork <| .alt (.run 1 [b6 = b6] rt1 <|
 .pick [3, 4, 5] <| .run 3 [b3 = b3, b4 = b4] rt2 <|
 .fin (x := .tup [.agg (fsyA f), .agg [aI ((renO f c).2.e), aI 0, aI 0, aI 0, aS ([]), aN]]) (r := .tup [.agg (fsyA (doF f c).1), .agg (repA (doF f c).2)]) [b3 = b3, b4 = b4] rt2 (by
  rw [do_no (deed_12 hk) (bneT q1)]
  exact Sub.tups ⟨sR, (rep_sub _ _ _ _ _), trivial⟩))
 <| .run 1 [b3 = b3] rt1 <|
 .pick [2, 3, 5] <| .run 3 [b6 = b6, b4 = b4] rt2 <|
 .fin (x := .tup [.agg (fsyA f), .agg [aI ((renO f c).2.e), aI 0, aI 0, aI 0, aS ([]), aN]]) (r := .tup [.agg (fsyA (doF f c).1), .agg (repA (doF f c).2)]) [b3 = b3, b4 = b4] rt2 (by
  rw [do_no (deed_12 hk) (bneT q1)]
  exact Sub.tups ⟨sR, (rep_sub _ _ _ _ _), trivial⟩))
 <| fun q1 => have p1 := bneF q1; .pick [0] <| .run 1 [b5 = b5] rt1 <|
 .fork <| .alt (.run 1 [b6 = b6] rt1 <|
 .pick [2, 3] <| .run 2 [b3 = b3, b4 = b4] rt2 <|
 .fin (x := .tup [.agg [.sl 5 false ((renO f c).1.l.map nodA), aI ((renO f c).1.next)], .agg [aI ((renO f c).2.e), aI ((renO f c).2.a), aI ((renO f c).2.b), aI ((renO f c).2.n), aS ((renO f c).2.text), .sl 1 false ((renO f c).2.names.map txA)]]) (r := .tup [.agg (fsyA (doF f c).1), .agg (repA (doF f c).2)]) [b3 = b3, b4 = b4] rt2 (by
  rw [do_yes (deed_12 hk) (bneF q1)]
  exact sR))
 <| .run 1 [b3 = b3] rt1 <|
 .pick [1, 3] <| .run 2 [b6 = b6, b4 = b4] rt2 <|
 .fin (x := .tup [.agg [.sl 5 false ((renO f c).1.l.map nodA), aI ((renO f c).1.next)], .agg [aI ((renO f c).2.e), aI ((renO f c).2.a), aI ((renO f c).2.b), aI ((renO f c).2.n), aS ((renO f c).2.text), .sl 1 false ((renO f c).2.names.map txA)]]) (r := .tup [.agg (fsyA (doF f c).1), .agg (repA (doF f c).2)]) [b3 = b3, b4 = b4] rt2 (by
  rw [do_yes (deed_12 hk) (bneF q1)]
  exact sR)) Tryz.func14 rfl (by kernel_rfl) (by kernel_rfl)
theorem do13_spec (f : Fsy) (c : Cal) (okf : OkF f) (okc : OkCal c) (hp : rowsP f) (hx : f.next < 9223372036854775807) (hk : c.kind = 13) : FSpec Tryz.prog 14 [.agg (fsyA f), .agg (calA c)] (.tup [.agg (fsyA (doF f c).1), .agg (repA (doF f c).2)]) := by
 exact spec_vc (F := Tryz.f14) 400 (
 .new fun b1 => .new fun b2 => .new fun b3 => .new fun b4 => .ord [1, 2, 0, 3, 4, 5, 6, 7, 8] <| .run 2 [b2 = b2] rt1 <|
 .call (deeds_spec) <|
 .look (kk := .i c.kind) (es := [(.i 1, .val (.func (.func 70) #[] #[])), (.i 2, .val (.func (.func 71) #[] #[])), (.i 3, .val (.func (.func 72) #[] #[])), (.i 4, .val (.func (.func 73) #[] #[])), (.i 5, .val (.func (.func 74) #[] #[])), (.i 6, .val (.func (.func 75) #[] #[])), (.i 7, .val (.func (.func 77) #[] #[])), (.i 8, .val (.func (.func 78) #[] #[])), (.i 9, .val (.func (.func 79) #[] #[])), (.i 10, .val (.func (.func 81) #[] #[])), (.i 11, .val (.func (.func 82) #[] #[])), (.i 12, .val (.func (.func 84) #[] #[])), (.i 13, .val (.func (.func 86) #[] #[])), (.i 14, .val (.func (.func 88) #[] #[])), (.i 15, .val (.func (.func 90) #[] #[]))]) (fd := some (12, .val (.func (.func 86) #[] #[]))) (by rw [hk]; rfl) <| .r 5 <| .r 2 <| .run 3 [b1 = b1, b2 = b2] rt2 <|
 .call (deed13_o f c okf okc hp) <|
 .r 3 <| .new fun b5 => .new fun b6 => .run 2 [b5 = b5, b6 = b6] rt2 <|
 .run 3 [b6 = b6] rt1 <|
 .br 30 (((rlnkO f c).2.e) != 0) (fun q1 => have p1 := bneT q1; .pick [0, 1] <| .run 2 [b1 = b1] rt1 <|
 .fork <| .alt (.run 1 [b6 = b6] rt1 <|
 .pick [3, 4, 5] <| .run 3 [b3 = b3, b4 = b4] rt2 <|
 .fin (x := .tup [.agg (fsyA f), .agg [aI ((rlnkO f c).2.e), aI 0, aI 0, aI 0, aS ([]), aN]]) (r := .tup [.agg (fsyA (doF f c).1), .agg (repA (doF f c).2)]) [b3 = b3, b4 = b4] rt2 (by
  rw [do_no (deed_13 hk) (bneT q1)]
  exact Sub.tups ⟨sR, (rep_sub _ _ _ _ _), trivial⟩))
 <| .run 1 [b3 = b3] rt1 <|
 .pick [2, 3, 5] <| .run 3 [b6 = b6, b4 = b4] rt2 <|
 .fin (x := .tup [.agg (fsyA f), .agg [aI ((rlnkO f c).2.e), aI 0, aI 0, aI 0, aS ([]), aN]]) (r := .tup [.agg (fsyA (doF f c).1), .agg (repA (doF f c).2)]) [b3 = b3, b4 = b4] rt2 (by
  rw [do_no (deed_13 hk) (bneT q1)]
  exact Sub.tups ⟨sR, (rep_sub _ _ _ _ _), trivial⟩))
 <| fun q1 => have p1 := bneF q1; .pick [0] <| .run 1 [b5 = b5] rt1 <|
 .fork <| .alt (.run 1 [b6 = b6] rt1 <|
 .pick [2, 3] <| .run 2 [b3 = b3, b4 = b4] rt2 <|
 .fin (x := .tup [.agg [.sl 5 false ((rlnkO f c).1.l.map nodA), aI ((rlnkO f c).1.next)], .agg [aI ((rlnkO f c).2.e), aI ((rlnkO f c).2.a), aI ((rlnkO f c).2.b), aI ((rlnkO f c).2.n), aS ((rlnkO f c).2.text), .sl 1 false ((rlnkO f c).2.names.map txA)]]) (r := .tup [.agg (fsyA (doF f c).1), .agg (repA (doF f c).2)]) [b3 = b3, b4 = b4] rt2 (by
  rw [do_yes (deed_13 hk) (bneF q1)]
  exact sR))
 <| .run 1 [b3 = b3] rt1 <|
 .pick [1, 3] <| .run 2 [b6 = b6, b4 = b4] rt2 <|
 .fin (x := .tup [.agg [.sl 5 false ((rlnkO f c).1.l.map nodA), aI ((rlnkO f c).1.next)], .agg [aI ((rlnkO f c).2.e), aI ((rlnkO f c).2.a), aI ((rlnkO f c).2.b), aI ((rlnkO f c).2.n), aS ((rlnkO f c).2.text), .sl 1 false ((rlnkO f c).2.names.map txA)]]) (r := .tup [.agg (fsyA (doF f c).1), .agg (repA (doF f c).2)]) [b3 = b3, b4 = b4] rt2 (by
  rw [do_yes (deed_13 hk) (bneF q1)]
  exact sR)) Tryz.func14 rfl (by kernel_rfl) (by kernel_rfl)
theorem do14_spec (f : Fsy) (c : Cal) (okf : OkF f) (okc : OkCal c) (hp : rowsP f) (hx : f.next < 9223372036854775807) (hk : c.kind = 14) : FSpec Tryz.prog 14 [.agg (fsyA f), .agg (calA c)] (.tup [.agg (fsyA (doF f c).1), .agg (repA (doF f c).2)]) := by
 exact spec_vc (F := Tryz.f14) 400 (
 .new fun b1 => .new fun b2 => .new fun b3 => .new fun b4 => .ord [1, 2, 0, 3, 4, 5, 6, 7, 8] <| .run 2 [b2 = b2] rt1 <|
 .call (deeds_spec) <|
 .look (kk := .i c.kind) (es := [(.i 1, .val (.func (.func 70) #[] #[])), (.i 2, .val (.func (.func 71) #[] #[])), (.i 3, .val (.func (.func 72) #[] #[])), (.i 4, .val (.func (.func 73) #[] #[])), (.i 5, .val (.func (.func 74) #[] #[])), (.i 6, .val (.func (.func 75) #[] #[])), (.i 7, .val (.func (.func 77) #[] #[])), (.i 8, .val (.func (.func 78) #[] #[])), (.i 9, .val (.func (.func 79) #[] #[])), (.i 10, .val (.func (.func 81) #[] #[])), (.i 11, .val (.func (.func 82) #[] #[])), (.i 12, .val (.func (.func 84) #[] #[])), (.i 13, .val (.func (.func 86) #[] #[])), (.i 14, .val (.func (.func 88) #[] #[])), (.i 15, .val (.func (.func 90) #[] #[]))]) (fd := some (13, .val (.func (.func 88) #[] #[]))) (by rw [hk]; rfl) <| .r 5 <| .r 2 <| .run 3 [b1 = b1, b2 = b2] rt2 <|
 .call (deed14_o f c okf okc hp) <|
 .r 3 <| .new fun b5 => .new fun b6 => .run 2 [b5 = b5, b6 = b6] rt2 <|
 .run 3 [b6 = b6] rt1 <|
 .br 30 (((rdirO f c).2.e) != 0) (fun q1 => have p1 := bneT q1; .pick [0, 1] <| .run 2 [b1 = b1] rt1 <|
 .fork <| .alt (.run 1 [b6 = b6] rt1 <|
 .pick [3, 4, 5] <| .run 3 [b3 = b3, b4 = b4] rt2 <|
 .fin (x := .tup [.agg (fsyA f), .agg [aI ((rdirO f c).2.e), aI 0, aI 0, aI 0, aS ([]), aN]]) (r := .tup [.agg (fsyA (doF f c).1), .agg (repA (doF f c).2)]) [b3 = b3, b4 = b4] rt2 (by
  rw [do_no (deed_14 hk) (bneT q1)]
  exact Sub.tups ⟨sR, (rep_sub _ _ _ _ _), trivial⟩))
 <| .run 1 [b3 = b3] rt1 <|
 .pick [2, 3, 5] <| .run 3 [b6 = b6, b4 = b4] rt2 <|
 .fin (x := .tup [.agg (fsyA f), .agg [aI ((rdirO f c).2.e), aI 0, aI 0, aI 0, aS ([]), aN]]) (r := .tup [.agg (fsyA (doF f c).1), .agg (repA (doF f c).2)]) [b3 = b3, b4 = b4] rt2 (by
  rw [do_no (deed_14 hk) (bneT q1)]
  exact Sub.tups ⟨sR, (rep_sub _ _ _ _ _), trivial⟩))
 <| fun q1 => have p1 := bneF q1; .pick [0] <| .run 1 [b5 = b5] rt1 <|
 .fork <| .alt (.run 1 [b6 = b6] rt1 <|
 .pick [2, 3] <| .run 2 [b3 = b3, b4 = b4] rt2 <|
 .fin (x := .tup [.agg [.sl 5 false ((rdirO f c).1.l.map nodA), aI ((rdirO f c).1.next)], .agg [aI ((rdirO f c).2.e), aI ((rdirO f c).2.a), aI ((rdirO f c).2.b), aI ((rdirO f c).2.n), aS ((rdirO f c).2.text), .sl 1 false ((rdirO f c).2.names.map txA)]]) (r := .tup [.agg (fsyA (doF f c).1), .agg (repA (doF f c).2)]) [b3 = b3, b4 = b4] rt2 (by
  rw [do_yes (deed_14 hk) (bneF q1)]
  exact sR))
 <| .run 1 [b3 = b3] rt1 <|
 .pick [1, 3] <| .run 2 [b6 = b6, b4 = b4] rt2 <|
 .fin (x := .tup [.agg [.sl 5 false ((rdirO f c).1.l.map nodA), aI ((rdirO f c).1.next)], .agg [aI ((rdirO f c).2.e), aI ((rdirO f c).2.a), aI ((rdirO f c).2.b), aI ((rdirO f c).2.n), aS ((rdirO f c).2.text), .sl 1 false ((rdirO f c).2.names.map txA)]]) (r := .tup [.agg (fsyA (doF f c).1), .agg (repA (doF f c).2)]) [b3 = b3, b4 = b4] rt2 (by
  rw [do_yes (deed_14 hk) (bneF q1)]
  exact sR)) Tryz.func14 rfl (by kernel_rfl) (by kernel_rfl)
theorem do15_spec (f : Fsy) (c : Cal) (okf : OkF f) (okc : OkCal c) (hp : rowsP f) (hx : f.next < 9223372036854775807) (hk : c.kind = 15) : FSpec Tryz.prog 14 [.agg (fsyA f), .agg (calA c)] (.tup [.agg (fsyA (doF f c).1), .agg (repA (doF f c).2)]) := by
 exact spec_vc (F := Tryz.f14) 400 (
 .new fun b1 => .new fun b2 => .new fun b3 => .new fun b4 => .ord [1, 2, 0, 3, 4, 5, 6, 7, 8] <| .run 2 [b2 = b2] rt1 <|
 .call (deeds_spec) <|
 .look (kk := .i c.kind) (es := [(.i 1, .val (.func (.func 70) #[] #[])), (.i 2, .val (.func (.func 71) #[] #[])), (.i 3, .val (.func (.func 72) #[] #[])), (.i 4, .val (.func (.func 73) #[] #[])), (.i 5, .val (.func (.func 74) #[] #[])), (.i 6, .val (.func (.func 75) #[] #[])), (.i 7, .val (.func (.func 77) #[] #[])), (.i 8, .val (.func (.func 78) #[] #[])), (.i 9, .val (.func (.func 79) #[] #[])), (.i 10, .val (.func (.func 81) #[] #[])), (.i 11, .val (.func (.func 82) #[] #[])), (.i 12, .val (.func (.func 84) #[] #[])), (.i 13, .val (.func (.func 86) #[] #[])), (.i 14, .val (.func (.func 88) #[] #[])), (.i 15, .val (.func (.func 90) #[] #[]))]) (fd := some (14, .val (.func (.func 90) #[] #[]))) (by rw [hk]; rfl) <| .r 5 <| .r 2 <| .run 3 [b1 = b1, b2 = b2] rt2 <|
 .call (deed15_o f c okf okc hp) <|
 .r 3 <| .new fun b5 => .new fun b6 => .run 2 [b5 = b5, b6 = b6] rt2 <|
 .run 3 [b6 = b6] rt1 <|
 .br 30 (((sfsO f).2.e) != 0) (fun q1 => have p1 := bneT q1; .pick [0, 1] <| .run 2 [b1 = b1] rt1 <|
 .fork <| .alt (.run 1 [b6 = b6] rt1 <|
 .pick [3, 4, 5] <| .run 3 [b3 = b3, b4 = b4] rt2 <|
 .fin (x := .tup [.agg (fsyA f), .agg [aI ((sfsO f).2.e), aI 0, aI 0, aI 0, aS ([]), aN]]) (r := .tup [.agg (fsyA (doF f c).1), .agg (repA (doF f c).2)]) [b3 = b3, b4 = b4] rt2 (by
  rw [do_no (deed_15 hk) (bneT q1)]
  exact Sub.tups ⟨sR, (rep_sub _ _ _ _ _), trivial⟩))
 <| .run 1 [b3 = b3] rt1 <|
 .pick [2, 3, 5] <| .run 3 [b6 = b6, b4 = b4] rt2 <|
 .fin (x := .tup [.agg (fsyA f), .agg [aI ((sfsO f).2.e), aI 0, aI 0, aI 0, aS ([]), aN]]) (r := .tup [.agg (fsyA (doF f c).1), .agg (repA (doF f c).2)]) [b3 = b3, b4 = b4] rt2 (by
  rw [do_no (deed_15 hk) (bneT q1)]
  exact Sub.tups ⟨sR, (rep_sub _ _ _ _ _), trivial⟩))
 <| fun q1 => have p1 := bneF q1; .pick [0] <| .run 1 [b5 = b5] rt1 <|
 .fork <| .alt (.run 1 [b6 = b6] rt1 <|
 .pick [2, 3] <| .run 2 [b3 = b3, b4 = b4] rt2 <|
 .fin (x := .tup [.agg [.sl 5 false ((sfsO f).1.l.map nodA), aI ((sfsO f).1.next)], .agg [aI ((sfsO f).2.e), aI ((sfsO f).2.a), aI ((sfsO f).2.b), aI ((sfsO f).2.n), aS ((sfsO f).2.text), .sl 1 false ((sfsO f).2.names.map txA)]]) (r := .tup [.agg (fsyA (doF f c).1), .agg (repA (doF f c).2)]) [b3 = b3, b4 = b4] rt2 (by
  rw [do_yes (deed_15 hk) (bneF q1)]
  exact sR))
 <| .run 1 [b3 = b3] rt1 <|
 .pick [1, 3] <| .run 2 [b6 = b6, b4 = b4] rt2 <|
 .fin (x := .tup [.agg [.sl 5 false ((sfsO f).1.l.map nodA), aI ((sfsO f).1.next)], .agg [aI ((sfsO f).2.e), aI ((sfsO f).2.a), aI ((sfsO f).2.b), aI ((sfsO f).2.n), aS ((sfsO f).2.text), .sl 1 false ((sfsO f).2.names.map txA)]]) (r := .tup [.agg (fsyA (doF f c).1), .agg (repA (doF f c).2)]) [b3 = b3, b4 = b4] rt2 (by
  rw [do_yes (deed_15 hk) (bneF q1)]
  exact sR)) Tryz.func14 rfl (by kernel_rfl) (by kernel_rfl)
theorem do16_spec (f : Fsy) (c : Cal) (okf : OkF f) (okc : OkCal c) (hp : rowsP f) (hx : f.next < 9223372036854775807) (hk : c.kind < 1 ∨ c.kind > 15) : FSpec Tryz.prog 14 [.agg (fsyA f), .agg (calA c)] (.tup [.agg (fsyA (doF f c).1), .agg (repA (doF f c).2)]) := by
 exact spec_vc (F := Tryz.f14) 400 (
 .new fun b1 => .new fun b2 => .new fun b3 => .new fun b4 => .ord [1, 2, 0, 3, 4, 5, 6, 7, 8] <| .run 2 [b2 = b2] rt1 <|
 .call (deeds_spec) <|
 .look (kk := .i c.kind) (es := [(.i 1, .val (.func (.func 70) #[] #[])), (.i 2, .val (.func (.func 71) #[] #[])), (.i 3, .val (.func (.func 72) #[] #[])), (.i 4, .val (.func (.func 73) #[] #[])), (.i 5, .val (.func (.func 74) #[] #[])), (.i 6, .val (.func (.func 75) #[] #[])), (.i 7, .val (.func (.func 77) #[] #[])), (.i 8, .val (.func (.func 78) #[] #[])), (.i 9, .val (.func (.func 79) #[] #[])), (.i 10, .val (.func (.func 81) #[] #[])), (.i 11, .val (.func (.func 82) #[] #[])), (.i 12, .val (.func (.func 84) #[] #[])), (.i 13, .val (.func (.func 86) #[] #[])), (.i 14, .val (.func (.func 88) #[] #[])), (.i 15, .val (.func (.func 90) #[] #[]))]) (fd := none) (by simp only [mfind]; repeat rw [if_neg (fun h => by injection h with h; omega)]) <| .r 5 <| .r 2 <| .run 4 [b1 = b1, b3 = b3, b4 = b4] rt3 <|
 .fin (x := .tup [.agg (fsyA f), .agg [aI 1, aI 0, aI 0, aI 0, aS ([]), aN]]) (r := .tup [.agg (fsyA (doF f c).1), .agg (repA (doF f c).2)]) [b3 = b3, b4 = b4] rt2 (by
  rw [do_no (deed_no hk) (by show ¬ (1 : Int) = 0; omega)]
  exact Sub.tups ⟨sR, (rep_sub _ _ _ _ _), trivial⟩)) Tryz.func14 rfl (by kernel_rfl) (by kernel_rfl)
theorem do_spec (f : Fsy) (c : Cal) (okf : OkF f) (okc : OkCal c) (hp : rowsP f) (hx : f.next < 9223372036854775807) : FSpec Tryz.prog 14 [.agg (fsyA f), .agg (calA c)] (.tup [.agg (fsyA (doF f c).1), .agg (repA (doF f c).2)]) := by
 rcases (show c.kind = 1 ∨ c.kind = 2 ∨ c.kind = 3 ∨ c.kind = 4 ∨ c.kind = 5 ∨ c.kind = 6 ∨ c.kind = 7 ∨ c.kind = 8 ∨ c.kind = 9 ∨ c.kind = 10 ∨ c.kind = 11 ∨ c.kind = 12 ∨ c.kind = 13 ∨ c.kind = 14 ∨ c.kind = 15 ∨ (c.kind < 1 ∨ c.kind > 15) from by omega) with h | h | h | h | h | h | h | h | h | h | h | h | h | h | h | h
 ·exact do1_spec f c okf okc hp hx h
 ·exact do2_spec f c okf okc hp hx h
 ·exact do3_spec f c okf okc hp hx h
 ·exact do4_spec f c okf okc hp hx h
 ·exact do5_spec f c okf okc hp hx h
 ·exact do6_spec f c okf okc hp hx h
 ·exact do7_spec f c okf okc hp hx h
 ·exact do8_spec f c okf okc hp hx h
 ·exact do9_spec f c okf okc hp hx h
 ·exact do10_spec f c okf okc hp hx h
 ·exact do11_spec f c okf okc hp hx h
 ·exact do12_spec f c okf okc hp hx h
 ·exact do13_spec f c okf okc hp hx h
 ·exact do14_spec f c okf okc hp hx h
 ·exact do15_spec f c okf okc hp hx h
 ·exact do16_spec f c okf okc hp hx h
end Go.Proofs.YtkhnialfkndiiaaGreat
