import Derived.Test.YtkhnialfkndiiaaGreatMrgV
import Derived.Test.YtkhnialfkndiiaaGreatMrgR
set_option maxRecDepth 100000
set_option maxHeartbeats 8000000
set_option linter.unusedVariables false
set_option linter.unusedSimpArgs false
namespace Go.Proofs.YtkhnialfkndiiaaGreat
open Go Go.RowKit Copyhold
theorem right_specM (f : Fsy) (okf : OkF f) (hf : midF f) : FSpec Tryz.prog 32 [.agg (fsyA f)] (aB (dP (rightP f))) := by
 have hfl := okf.2.1
 have hul := under_leM hf 1
 exact spec_vc (F := Tryz.f32) 400 (
 .new fun b1 => .r 1 <| .run 1 [b1 = b1] rt1 <|
 .call (rrows_spec f okf) <|
 .r 1 <| .r 3 <| .br 15 (!(dP (rowsP f))) (fun q1 => have q1 := notT q1; have p1 := booF q1; .r 29 <| .r 1 <| .fin (x := aB false) (r := aB (dP (rightP f))) [] trivial (by
  refine sF (fun h => ?_)
  obtain ⟨g, ⟨n, hn, a, b, c⟩, _⟩ := h
  first | exact dP_false.1 (by assumption) g | (have := lt_of_some hn; omega)))
 <| fun q1 => have q1 := notF q1; have p1 := booT q1; .run 3 [b1 = b1] rt1 <|
 .val 18 (show (aI ((f.l.map nodA).length : Int) : AV) = aI (f.l.length : Int) from by rw [List.length_map]) <| .r 3 <| .br 21 (decide ((f.l.length : Int) < 1)) (fun q2 => have p2 := decT q2; .r 23 <| .r 1 <| .fin (x := aB false) (r := aB (dP (rightP f))) [] trivial (by
  refine sF (fun h => ?_)
  obtain ⟨g, ⟨n, hn, a, b, c⟩, _⟩ := h
  first | exact dP_false.1 (by assumption) g | (have := lt_of_some hn; omega)))
 <| fun q2 => have p2 := decF q2; .run 2 [b1 = b1] rt1 <|
 .idxM f.l nodA 0 (m := 0) rfl (by omega) fun x1 hx1 =>
 have okx1 := okf.2.2 x1 (List.mem_of_getElem? hx1); have blx1 := okx1.2.2.2.2.1; .r 5 <| .br 29 (x1.ino != 1) (fun q3 => have p3 := bneT q3; .r 15 <| .r 1 <| .fin (x := aB false) (r := aB (dP (rightP f))) [] trivial (by
  refine sF (fun h => ?_)
  obtain ⟨g, ⟨n, hn, a, b, c⟩, _⟩ := h
  first | exact dP_false.1 (by assumption) g | (have := lt_of_some hn; omega)| (rw [hx1] at hn; obtain rfl := Option.some.inj hn; omega)))
 <| fun q3 => have p3 := bneF q3; .run 2 [b1 = b1] rt1 <|
 .idx 0 (m := 0) (xs := f.l.map nodA) (e := nodA x1) rfl (map_some hx1) <|
 .r 5 <| .br 37 (x1.kind != 2) (fun q4 => have p4 := bneT q4; .r 7 <| .r 1 <| .fin (x := aB false) (r := aB (dP (rightP f))) [] trivial (by
  refine sF (fun h => ?_)
  obtain ⟨g, ⟨n, hn, a, b, c⟩, _⟩ := h
  first | exact dP_false.1 (by assumption) g | (have := lt_of_some hn; omega)| (rw [hx1] at hn; obtain rfl := Option.some.inj hn; omega)))
 <| fun q4 => have p4 := bneF q4; .run 2 [b1 = b1] rt1 <|
 .idx 0 (m := 0) (xs := f.l.map nodA) (e := nodA x1) rfl (map_some hx1) <|
 .r 4 <| .br 44 (x1.links != 0) (fun q5 => have p5 := bneT q5; .r 1 <| .fin (x := aB false) (r := aB (dP (rightP f))) [] trivial (by
  refine sF (fun h => ?_)
  obtain ⟨g, ⟨n, hn, a, b, c⟩, _⟩ := h
  first | exact dP_false.1 (by assumption) g | (have := lt_of_some hn; omega)| (rw [hx1] at hn; obtain rfl := Option.some.inj hn; omega)))
 <| fun q5 => have p5 := bneF q5; .run 1 [b1 = b1] rt1 <|
 .call (under_specM f 1 okf hf) <|
 .r 1 <| .r 1 <| let L1 : Lp (Nat) := ⟨fun a1 => ⟨[(1, .ptr 1 b1 0), (4, .sl 1 false ((underF f 1).map intA)), (5, aI (a1 : Int))], [(1, .box b1 24 (fsyA f))]⟩, fun a1 => f.l.length - a1, fun a1 => AllTo (nodeR f) f.l a1⟩
 .loop L1 0 (show AllTo (nodeR f) f.l 0 from (AllTo.zero _ _)) ⟨[(1, .ptr 1 b1 0), (4, .sl 1 false ((underF f 1).map intA)), (5, aI 0)], [(1, .box b1 24 (fsyA f))]⟩ ⟨sR, sR, Sub.of_eq (congrArg aI (by first | omega | rfl)), trivial⟩ ⟨⟨_, rfl, SubB.refl _⟩, trivial⟩ fun a1 ha1 =>
 (fun (k : Nat) (hH1 : AllTo (nodeR f) f.l k) => .run 4 [b1 = b1] rt1 <|
 .val 50 (show (aI ((f.l.map nodA).length : Int) : AV) = aI (f.l.length : Int) from by rw [List.length_map]) <| .r 1 <| .br 51 (decide ((k : Int) < (f.l.length : Int))) (fun q6 => have p6 := decT q6; .run 3 [b1 = b1] rt1 <|
 .idxM f.l nodA k (m := (k : Int)) rfl (by omega) fun x2 hx2 =>
 have okx2 := okf.2.2 x2 (List.mem_of_getElem? hx2); have blx2 := okx2.2.2.2.2.1; .r 1 <| .new fun b2 => .run 1 [b2 = b2] rt1 <|
 .ord [0, 1, 2, 3, 4, 5, 6] <| .run 5 [b2 = b2, b1 = b1, b2 = b2] rt3 <|
 .call (names_specM f x2.ino okf hf) <|
 .r 1 <| .br 65 (x2.links != (namesF f x2.ino : Int)) (fun q7 => have p7 := bneT q7; .r 1 <| .fin (x := aB false) (r := aB (dP (rightP f))) [] trivial (by
  refine sF (fun h => ?_)
  have g := (h.2.2.at hx2).1
  omega))
 <| fun q7 => have p7 := bneF q7; .run 3 [b2 = b2] rt1 <|
 .call (has_spec (underF f 1) x2.ino (by omega)) <|
 .r 1 <| .r 3 <| .br 72 (decide ((k : Int) > 0)) (fun q8 => have p8 := decT q8; .run 4 [b2 = b2] rt1 <|
 .br 76 (decide (x2.links < 1)) (fun q9 => have p9 := decT q9; .r 14 <| .r 1 <| .fin (x := aB false) (r := aB (dP (rightP f))) [] trivial (by
  refine sF (fun h => ?_)
  have g := (h.2.2.at hx2).2.1
  rw [show lateR f k x2 = false from by unfold lateR; simp only [q8, q9, Bool.and_false, Bool.false_and, Bool.true_and, Bool.and_true, Bool.or_false, Bool.false_or, Bool.or_true, Bool.true_or, Bool.not_true, Bool.not_false]] at g
  cases g))
 <| fun q9 => have p9 := decF q9; .run 4 [b2 = b2] rt1 <|
 .br 80 (x2.kind == 2) (fun q10 => have p10 := beqT q10; .run 4 [b2 = b2] rt1 <|
 .br 84 (decide (x2.links > 1)) (fun q11 => have p11 := decT q11; .r 6 <| .r 1 <| .fin (x := aB false) (r := aB (dP (rightP f))) [] trivial (by
  refine sF (fun h => ?_)
  have g := (h.2.2.at hx2).2.1
  rw [show lateR f k x2 = false from by unfold lateR; simp only [q8, q9, q10, q11, Bool.and_false, Bool.false_and, Bool.true_and, Bool.and_true, Bool.or_false, Bool.false_or, Bool.or_true, Bool.true_or, Bool.not_true, Bool.not_false]] at g
  cases g))
 <| fun q11 => have p11 := decF q11; .r 6 <| .br 90 (!(hasB (underF f 1) x2.ino)) (fun q12 => have q12 := notT q12; have p12 := booF q12; .r 1 <| .fin (x := aB false) (r := aB (dP (rightP f))) [] trivial (by
  refine sF (fun h => ?_)
  have g := (h.2.2.at hx2).2.1
  rw [show lateR f k x2 = false from by unfold lateR; simp only [q8, q9, q10, q11, q12, Bool.and_false, Bool.false_and, Bool.true_and, Bool.and_true, Bool.or_false, Bool.false_or, Bool.or_true, Bool.true_or, Bool.not_true, Bool.not_false]] at g
  cases g))
 <| fun q12 => have q12 := notF q12; have p12 := booT q12; .r 1 <| let L2 : Lp (Nat) := ⟨fun a2 => ⟨[(1, .ptr 1 b1 0), (4, .sl 1 false ((underF f 1).map intA)), (5, aI (k : Int)), (6, .ptr 6 b2 0), (8, aI (a2 : Int))], [(1, .box b1 24 (fsyA f)), (6, .box b2 59 (nodA x2))]⟩, fun a2 => x2.l.length - a2, fun a2 => AllTo (fun _ e => findB f e.ino = true) x2.l a2⟩
 .loop L2 0 (show AllTo (fun _ e => findB f e.ino = true) x2.l 0 from AllTo.zero _ _) ⟨[(1, .ptr 1 b1 0), (4, .sl 1 false ((underF f 1).map intA)), (5, aI (k : Int)), (6, .ptr 6 b2 0), (8, aI 0)], [(1, .box b1 24 (fsyA f)), (6, .box b2 59 (nodA x2))]⟩ ⟨sR, sR, sR, sR, Sub.of_eq (congrArg aI (by first | omega | rfl)), trivial⟩ ⟨⟨_, rfl, SubB.refl _⟩, ⟨_, rfl, SubB.refl _⟩, trivial⟩ fun a2 ha2 =>
 (fun (j : Nat) (hH2 : AllTo (fun _ e => findB f e.ino = true) x2.l j) => .run 4 [b2 = b2] rt1 <|
 .val 94 (show (aI ((x2.l.map entA).length : Int) : AV) = aI (x2.l.length : Int) from by rw [List.length_map]) <| .r 1 <| .br 95 (decide ((j : Int) < (x2.l.length : Int))) (fun q13 => have p13 := decT q13; .pick [0, 1, 2, 3, 4, 5, 6] <| .run 4 [b1 = b1, b2 = b2] rt2 <|
 .idxM x2.l entA j (m := (j : Int)) rfl (by omega) fun x3 hx3 =>
 .r 2 <| .fork <| .alt (.call (rfind_spec f x3.ino (by omega)) <|
 .pick [8, 9, 10, 11, 12, 13] <| .r 3 <| .new fun b3 => .run 2 [b3 = b3] rt1 <|
 .r 2 <| .br 110 (!(findB f x3.ino)) (fun q14 => have q14 := notT q14; have p14 := booF q14; .r 1 <| .fin (x := aB false) (r := aB (dP (rightP f))) [] trivial (by
  refine sF (fun h => ?_)
  have g := (h.2.2.at hx2).2.2.at hx3
  simp_all))
 <| fun q14 => have q14 := notF q14; have p14 := booT q14; .run 3 [rng .i64 ((j : Int) + 1)] ⟨rng64 (by omega) (by omega), trivial⟩ <|
 .back L2 j (j + 1) (show AllTo (fun _ e => findB f e.ino = true) x2.l (j + 1) from (hH2.step hx3 (by assumption))) (show x2.l.length - (j + 1) < x2.l.length - j from (by omega)) ⟨[(1, .ptr 1 b1 0), (4, .sl 1 false ((underF f 1).map intA)), (5, aI (k : Int)), (6, .ptr 6 b2 0), (8, aI ((j : Int) + 1))], [(1, .box b1 24 (fsyA f)), (6, .box b2 59 (nodA x2))]⟩ ⟨sR, sR, sR, sR, Sub.of_eq (congrArg aI (by first | omega | rfl)), trivial⟩ ⟨⟨_, rfl, SubB.refl _⟩, ⟨_, rfl, SubB.refl _⟩, trivial⟩)
 <| .new fun b4 => .pick [7, 8, 9, 10, 12, 13] <| .call (rfind_spec f x3.ino (by omega)) <|
 .run 5 [b4 = b4] rt1 <|
 .r 2 <| .br 110 (!(findB f x3.ino)) (fun q15 => have q15 := notT q15; have p15 := booF q15; .r 1 <| .fin (x := aB false) (r := aB (dP (rightP f))) [] trivial (by
  refine sF (fun h => ?_)
  have g := (h.2.2.at hx2).2.2.at hx3
  simp_all))
 <| fun q15 => have q15 := notF q15; have p15 := booT q15; .run 3 [rng .i64 ((j : Int) + 1)] ⟨rng64 (by omega) (by omega), trivial⟩ <|
 .back L2 j (j + 1) (show AllTo (fun _ e => findB f e.ino = true) x2.l (j + 1) from (hH2.step hx3 (by assumption))) (show x2.l.length - (j + 1) < x2.l.length - j from (by omega)) ⟨[(1, .ptr 1 b1 0), (4, .sl 1 false ((underF f 1).map intA)), (5, aI (k : Int)), (6, .ptr 6 b2 0), (8, aI ((j : Int) + 1))], [(1, .box b1 24 (fsyA f)), (6, .box b2 59 (nodA x2))]⟩ ⟨sR, sR, sR, sR, Sub.of_eq (congrArg aI (by first | omega | rfl)), trivial⟩ ⟨⟨_, rfl, SubB.refl _⟩, ⟨_, rfl, SubB.refl _⟩, trivial⟩)
 <| fun q13 => have p13 := decF q13; .run 3 [rng .i64 ((k : Int) + 1)] ⟨rng64 (by omega) (by omega), trivial⟩ <|
 .back L1 k (k + 1) (show AllTo (nodeR f) f.l (k + 1) from (hH1.step hx2 ⟨by omega, (by unfold lateR; simp only [q8, q9, q10, q11, q12, Bool.and_false, Bool.false_and, Bool.true_and, Bool.and_true, Bool.or_false, Bool.false_or, Bool.or_true, Bool.true_or, Bool.not_true, Bool.not_false]), hH2.full (by omega)⟩)) (show f.l.length - (k + 1) < f.l.length - k from (by omega)) ⟨[(1, .ptr 1 b1 0), (4, .sl 1 false ((underF f 1).map intA)), (5, aI ((k : Int) + 1))], [(1, .box b1 24 (fsyA f))]⟩ ⟨sR, sR, Sub.of_eq (congrArg aI (by first | omega | rfl)), trivial⟩ ⟨⟨_, rfl, SubB.refl _⟩, trivial⟩) a2 ha2)
 <| fun q10 => have p10 := beqF q10; .r 10 <| .r 1 <| let L2 : Lp (Nat) := ⟨fun a2 => ⟨[(1, .ptr 1 b1 0), (4, .sl 1 false ((underF f 1).map intA)), (5, aI (k : Int)), (6, .ptr 6 b2 0), (8, aI (a2 : Int))], [(1, .box b1 24 (fsyA f)), (6, .box b2 59 (nodA x2))]⟩, fun a2 => x2.l.length - a2, fun a2 => AllTo (fun _ e => findB f e.ino = true) x2.l a2⟩
 .loop L2 0 (show AllTo (fun _ e => findB f e.ino = true) x2.l 0 from AllTo.zero _ _) ⟨[(1, .ptr 1 b1 0), (4, .sl 1 false ((underF f 1).map intA)), (5, aI (k : Int)), (6, .ptr 6 b2 0), (8, aI 0)], [(1, .box b1 24 (fsyA f)), (6, .box b2 59 (nodA x2))]⟩ ⟨sR, sR, sR, sR, Sub.of_eq (congrArg aI (by first | omega | rfl)), trivial⟩ ⟨⟨_, rfl, SubB.refl _⟩, ⟨_, rfl, SubB.refl _⟩, trivial⟩ fun a2 ha2 =>
 (fun (j : Nat) (hH2 : AllTo (fun _ e => findB f e.ino = true) x2.l j) => .run 4 [b2 = b2] rt1 <|
 .val 94 (show (aI ((x2.l.map entA).length : Int) : AV) = aI (x2.l.length : Int) from by rw [List.length_map]) <| .r 1 <| .br 95 (decide ((j : Int) < (x2.l.length : Int))) (fun q16 => have p16 := decT q16; .pick [0, 1, 2, 3, 4, 5, 6] <| .run 4 [b1 = b1, b2 = b2] rt2 <|
 .idxM x2.l entA j (m := (j : Int)) rfl (by omega) fun x4 hx4 =>
 .r 2 <| .fork <| .alt (.call (rfind_spec f x4.ino (by omega)) <|
 .pick [8, 9, 10, 11, 12, 13] <| .r 3 <| .new fun b5 => .run 2 [b5 = b5] rt1 <|
 .r 2 <| .br 110 (!(findB f x4.ino)) (fun q17 => have q17 := notT q17; have p17 := booF q17; .r 1 <| .fin (x := aB false) (r := aB (dP (rightP f))) [] trivial (by
  refine sF (fun h => ?_)
  have g := (h.2.2.at hx2).2.2.at hx4
  simp_all))
 <| fun q17 => have q17 := notF q17; have p17 := booT q17; .run 3 [rng .i64 ((j : Int) + 1)] ⟨rng64 (by omega) (by omega), trivial⟩ <|
 .back L2 j (j + 1) (show AllTo (fun _ e => findB f e.ino = true) x2.l (j + 1) from (hH2.step hx4 (by assumption))) (show x2.l.length - (j + 1) < x2.l.length - j from (by omega)) ⟨[(1, .ptr 1 b1 0), (4, .sl 1 false ((underF f 1).map intA)), (5, aI (k : Int)), (6, .ptr 6 b2 0), (8, aI ((j : Int) + 1))], [(1, .box b1 24 (fsyA f)), (6, .box b2 59 (nodA x2))]⟩ ⟨sR, sR, sR, sR, Sub.of_eq (congrArg aI (by first | omega | rfl)), trivial⟩ ⟨⟨_, rfl, SubB.refl _⟩, ⟨_, rfl, SubB.refl _⟩, trivial⟩)
 <| .new fun b6 => .pick [7, 8, 9, 10, 12, 13] <| .call (rfind_spec f x4.ino (by omega)) <|
 .run 5 [b6 = b6] rt1 <|
 .r 2 <| .br 110 (!(findB f x4.ino)) (fun q18 => have q18 := notT q18; have p18 := booF q18; .r 1 <| .fin (x := aB false) (r := aB (dP (rightP f))) [] trivial (by
  refine sF (fun h => ?_)
  have g := (h.2.2.at hx2).2.2.at hx4
  simp_all))
 <| fun q18 => have q18 := notF q18; have p18 := booT q18; .run 3 [rng .i64 ((j : Int) + 1)] ⟨rng64 (by omega) (by omega), trivial⟩ <|
 .back L2 j (j + 1) (show AllTo (fun _ e => findB f e.ino = true) x2.l (j + 1) from (hH2.step hx4 (by assumption))) (show x2.l.length - (j + 1) < x2.l.length - j from (by omega)) ⟨[(1, .ptr 1 b1 0), (4, .sl 1 false ((underF f 1).map intA)), (5, aI (k : Int)), (6, .ptr 6 b2 0), (8, aI ((j : Int) + 1))], [(1, .box b1 24 (fsyA f)), (6, .box b2 59 (nodA x2))]⟩ ⟨sR, sR, sR, sR, Sub.of_eq (congrArg aI (by first | omega | rfl)), trivial⟩ ⟨⟨_, rfl, SubB.refl _⟩, ⟨_, rfl, SubB.refl _⟩, trivial⟩)
 <| fun q16 => have p16 := decF q16; .run 3 [rng .i64 ((k : Int) + 1)] ⟨rng64 (by omega) (by omega), trivial⟩ <|
 .back L1 k (k + 1) (show AllTo (nodeR f) f.l (k + 1) from (hH1.step hx2 ⟨by omega, (by unfold lateR; simp only [q8, q9, q10, Bool.and_false, Bool.false_and, Bool.true_and, Bool.and_true, Bool.or_false, Bool.false_or, Bool.or_true, Bool.true_or, Bool.not_true, Bool.not_false]), hH2.full (by omega)⟩)) (show f.l.length - (k + 1) < f.l.length - k from (by omega)) ⟨[(1, .ptr 1 b1 0), (4, .sl 1 false ((underF f 1).map intA)), (5, aI ((k : Int) + 1))], [(1, .box b1 24 (fsyA f))]⟩ ⟨sR, sR, Sub.of_eq (congrArg aI (by first | omega | rfl)), trivial⟩ ⟨⟨_, rfl, SubB.refl _⟩, trivial⟩) a2 ha2)
 <| fun q8 => have p8 := decF q8; .r 18 <| .r 1 <| let L2 : Lp (Nat) := ⟨fun a2 => ⟨[(1, .ptr 1 b1 0), (4, .sl 1 false ((underF f 1).map intA)), (5, aI (k : Int)), (6, .ptr 6 b2 0), (8, aI (a2 : Int))], [(1, .box b1 24 (fsyA f)), (6, .box b2 59 (nodA x2))]⟩, fun a2 => x2.l.length - a2, fun a2 => AllTo (fun _ e => findB f e.ino = true) x2.l a2⟩
 .loop L2 0 (show AllTo (fun _ e => findB f e.ino = true) x2.l 0 from AllTo.zero _ _) ⟨[(1, .ptr 1 b1 0), (4, .sl 1 false ((underF f 1).map intA)), (5, aI (k : Int)), (6, .ptr 6 b2 0), (8, aI 0)], [(1, .box b1 24 (fsyA f)), (6, .box b2 59 (nodA x2))]⟩ ⟨sR, sR, sR, sR, Sub.of_eq (congrArg aI (by first | omega | rfl)), trivial⟩ ⟨⟨_, rfl, SubB.refl _⟩, ⟨_, rfl, SubB.refl _⟩, trivial⟩ fun a2 ha2 =>
 (fun (j : Nat) (hH2 : AllTo (fun _ e => findB f e.ino = true) x2.l j) => .run 4 [b2 = b2] rt1 <|
 .val 94 (show (aI ((x2.l.map entA).length : Int) : AV) = aI (x2.l.length : Int) from by rw [List.length_map]) <| .r 1 <| .br 95 (decide ((j : Int) < (x2.l.length : Int))) (fun q19 => have p19 := decT q19; .pick [0, 1, 2, 3, 4, 5, 6] <| .run 4 [b1 = b1, b2 = b2] rt2 <|
 .idxM x2.l entA j (m := (j : Int)) rfl (by omega) fun x5 hx5 =>
 .r 2 <| .fork <| .alt (.call (rfind_spec f x5.ino (by omega)) <|
 .pick [8, 9, 10, 11, 12, 13] <| .r 3 <| .new fun b7 => .run 2 [b7 = b7] rt1 <|
 .r 2 <| .br 110 (!(findB f x5.ino)) (fun q20 => have q20 := notT q20; have p20 := booF q20; .r 1 <| .fin (x := aB false) (r := aB (dP (rightP f))) [] trivial (by
  refine sF (fun h => ?_)
  have g := (h.2.2.at hx2).2.2.at hx5
  simp_all))
 <| fun q20 => have q20 := notF q20; have p20 := booT q20; .run 3 [rng .i64 ((j : Int) + 1)] ⟨rng64 (by omega) (by omega), trivial⟩ <|
 .back L2 j (j + 1) (show AllTo (fun _ e => findB f e.ino = true) x2.l (j + 1) from (hH2.step hx5 (by assumption))) (show x2.l.length - (j + 1) < x2.l.length - j from (by omega)) ⟨[(1, .ptr 1 b1 0), (4, .sl 1 false ((underF f 1).map intA)), (5, aI (k : Int)), (6, .ptr 6 b2 0), (8, aI ((j : Int) + 1))], [(1, .box b1 24 (fsyA f)), (6, .box b2 59 (nodA x2))]⟩ ⟨sR, sR, sR, sR, Sub.of_eq (congrArg aI (by first | omega | rfl)), trivial⟩ ⟨⟨_, rfl, SubB.refl _⟩, ⟨_, rfl, SubB.refl _⟩, trivial⟩)
 <| .new fun b8 => .pick [7, 8, 9, 10, 12, 13] <| .call (rfind_spec f x5.ino (by omega)) <|
 .run 5 [b8 = b8] rt1 <|
 .r 2 <| .br 110 (!(findB f x5.ino)) (fun q21 => have q21 := notT q21; have p21 := booF q21; .r 1 <| .fin (x := aB false) (r := aB (dP (rightP f))) [] trivial (by
  refine sF (fun h => ?_)
  have g := (h.2.2.at hx2).2.2.at hx5
  simp_all))
 <| fun q21 => have q21 := notF q21; have p21 := booT q21; .run 3 [rng .i64 ((j : Int) + 1)] ⟨rng64 (by omega) (by omega), trivial⟩ <|
 .back L2 j (j + 1) (show AllTo (fun _ e => findB f e.ino = true) x2.l (j + 1) from (hH2.step hx5 (by assumption))) (show x2.l.length - (j + 1) < x2.l.length - j from (by omega)) ⟨[(1, .ptr 1 b1 0), (4, .sl 1 false ((underF f 1).map intA)), (5, aI (k : Int)), (6, .ptr 6 b2 0), (8, aI ((j : Int) + 1))], [(1, .box b1 24 (fsyA f)), (6, .box b2 59 (nodA x2))]⟩ ⟨sR, sR, sR, sR, Sub.of_eq (congrArg aI (by first | omega | rfl)), trivial⟩ ⟨⟨_, rfl, SubB.refl _⟩, ⟨_, rfl, SubB.refl _⟩, trivial⟩)
 <| fun q19 => have p19 := decF q19; .run 3 [rng .i64 ((k : Int) + 1)] ⟨rng64 (by omega) (by omega), trivial⟩ <|
 .back L1 k (k + 1) (show AllTo (nodeR f) f.l (k + 1) from (hH1.step hx2 ⟨by omega, (by unfold lateR; simp only [q8, Bool.and_false, Bool.false_and, Bool.true_and, Bool.and_true, Bool.or_false, Bool.false_or, Bool.or_true, Bool.true_or, Bool.not_true, Bool.not_false]), hH2.full (by omega)⟩)) (show f.l.length - (k + 1) < f.l.length - k from (by omega)) ⟨[(1, .ptr 1 b1 0), (4, .sl 1 false ((underF f 1).map intA)), (5, aI ((k : Int) + 1))], [(1, .box b1 24 (fsyA f))]⟩ ⟨sR, sR, Sub.of_eq (congrArg aI (by first | omega | rfl)), trivial⟩ ⟨⟨_, rfl, SubB.refl _⟩, trivial⟩) a2 ha2)
 <| fun q6 => have p6 := decF q6; .r 1 <| .fin (x := aB true) (r := aB (dP (rightP f))) [] trivial (by exact sT ⟨dP_true.1 (by assumption), ⟨x1, hx1, by omega, by omega, by omega⟩, hH1.full (by omega)⟩)) a1 ha1) Tryz.func32 rfl (by kernel_rfl) (by kernel_rfl)
theorem goU_fullM {f : Fsy} {i : Int} (hp : rowsP f) (hf : midF f) : ∀ (n : Nat) {U : List Int} (p : Nat), Dst f U → 260 ≤ n + p → (∀ y ∈ kidsF f i, hasB U y = true) → (∀ k z, k < p → U[k]? = some z → ∀ y ∈ kidsF f z, hasB U y = true) →
  (∀ y ∈ kidsF f i, hasB (goU f n U p) y = true) ∧ ∀ z, hasB (goU f n U p) z = true → ∀ y ∈ kidsF f z, hasB (goU f n U p) y = true
 | 0, U, p, hd, hn, hi, h => by
  have hl := hd.leM hf
  refine ⟨hi, fun z hz => ?_⟩
  obtain ⟨k, hk⟩ := List.getElem?_of_mem (hasB_mem.1 hz)
  have hk' : U[k]? = some z := hk
  exact h k z (by have := lt_of_some hk'; omega) hk'
 | n + 1, U, p, hd, hn, hi, h => by
  simp only [goU]
  split
  ·rename_i y hy
   have mono : ∀ z, hasB U z = true → hasB (addE U (findN f y).l) z = true := fun z hz => addE_B.2 (.inl hz)
   refine goU_fullM hp hf n (p + 1) (addE_dst hd fun e he => find_ent he) (by omega) (fun z hz => mono z (hi z hz)) fun k z hk hz w hw => ?_
   by_cases hkp : k < p
   ·have hk2 : k < U.length := by have := lt_of_some hy; omega
    have e : U[k]? = some z := by
     have := addE_pre (l := (findN f y).l) (List.getElem?_eq_getElem hk2)
     rw [this] at hz
     rw [List.getElem?_eq_getElem hk2]; exact hz
    exact mono w (h k z hkp e w hw)
   ·have e : k = p := by omega
    subst e
    rw [addE_pre hy] at hz
    obtain rfl := Option.some.inj hz
    exact addE_B.2 (.inr (by rw [find_kids hp]; exact hw))
  ·rename_i hnone
   refine ⟨hi, fun z hz => ?_⟩
   obtain ⟨k, hk⟩ := List.getElem?_of_mem (hasB_mem.1 hz)
   have : U.length ≤ p := by
    cases Nat.lt_or_ge p U.length with
    | inl hlt => rw [List.getElem?_eq_getElem hlt] at hnone; cases hnone
    | inr hge => exact hge
   exact h k z (by have := lt_of_some hk; omega) hk
theorem under_iffM {f : Fsy} {i z : Int} (hp : rowsP f) (hf : midF f) : hasB (underF f i) z = true ↔ Reach f i z := by
 have h0 : ∀ y, hasB (addE [] (findN f i).l) y = true ↔ y ∈ kidsF f i := fun y => by
  rw [addE_B, find_kids hp]
  simp [hasB]
 refine ⟨goU_sound hp 300 0 (fun y hy => .one ((h0 y).1 hy)) z, fun h => ?_⟩
 obtain ⟨g1, g2⟩ := goU_fullM (i := i) hp hf 300 0 (addE_dst (Dst.nil f) fun e he => find_ent he) (by omega) (fun y hy => (h0 y).2 hy) (fun k z hk => absurd hk (Nat.not_lt_zero k))
 have main : ∀ a b, Reach f a b → (∀ y ∈ kidsF f a, hasB (underF f i) y = true) → hasB (underF f i) b = true := by
  intro a b hab
  induction hab with
  | one h => exact fun hk => hk _ h
  | more h _ ih => exact fun hk => ih (g2 _ (hk _ h))
 exact main i z h g1
end Go.Proofs.YtkhnialfkndiiaaGreat
