/- ref12.Right; what is seen; views; how many. -/
import Derived.Test.YtibcmgmlklehdaaStoR
set_option linter.unusedVariables false
set_option linter.unusedSimpArgs false
namespace Go.Proofs.Ytibcmgmlklehdaa
open Go Go.RowKit Copyhold
set_option maxRecDepth 100000 in
set_option maxHeartbeats 4000000 in
theorem rright_spec (s : Sto) (oks : OkS s) : FSpec Try.prog 10 [.agg [.sl 2 false (s.l.map chnA), .sl 2 false (s.nexts.map cntA), aI s.stamp]] (aB (dP (storeP s))) := by
  have hb1 := oks.2.1
  have hb2 := oks.2.2.1
  exact spec_vc (F := Try.f10) 400 (
 .new fun b1 => .r 1 <| .run 4 [b1 = b1] ⟨rfl, trivial⟩ <|
 .br 10 (decide (s.stamp < 1)) (fun q1 => have p1 := decT q1; .r 5 <| .r 1 <| .fin (x := aB false) (r := aB (dP (storeP s))) [] trivial (by
    refine sF (fun h => ?_)
    obtain ⟨g1, ⟨g2, _⟩, g3⟩ := h
    omega))
 <| fun q1 => have p1 := decF q1; .run 3 [b1 = b1] ⟨rfl, trivial⟩ <|
 .val 13 (show (aI ((s.nexts.map cntA).length : Int) : AV) = aI (s.nexts.length : Int) from by rw [List.length_map]) <| .r 2 <| .br 15 (decide ((s.nexts.length : Int) < 1)) (fun q2 => have p2 := decT q2; .r 1 <| .fin (x := aB false) (r := aB (dP (storeP s))) [] trivial (by
    refine sF (fun h => ?_)
    obtain ⟨g1, ⟨g2, _⟩, g3⟩ := h
    omega))
 <| fun q2 => have p2 := decF q2; .r 1 <| let L1 : Lp (Nat) := ⟨fun a1 => ⟨[(1, .ptr 1 b1 0), (3, aI (a1 : Int))], [(1, .box b1 25 [.sl 2 false (s.l.map chnA), .sl 2 false (s.nexts.map cntA), aI s.stamp])]⟩, fun a1 => s.l.length - a1, fun a1 => a1 ≤ s.l.length ∧ AllTo (chnAt s) s.l a1⟩
 .loop L1 0 (show 0 ≤ s.l.length ∧ AllTo (chnAt s) s.l 0 from ⟨Nat.zero_le _, AllTo.zero _ _⟩) ⟨[(1, .ptr 1 b1 0), (3, aI 0)], [(1, .box b1 25 [.sl 2 false (s.l.map chnA), .sl 2 false (s.nexts.map cntA), aI s.stamp])]⟩ ⟨Sub.refl _, Sub.of_eq (congrArg aI (by first | omega | rfl)), trivial⟩ ⟨⟨_, rfl, SubB.refl _⟩, trivial⟩ fun a1 ha1 =>
 (fun (k : Nat) (hH1 : k ≤ s.l.length ∧ AllTo (chnAt s) s.l k) => .run 4 [b1 = b1] ⟨rfl, trivial⟩ <|
 .val 19 (show (aI ((s.l.map chnA).length : Int) : AV) = aI (s.l.length : Int) from by rw [List.length_map]) <| .r 1 <| .br 20 (decide ((k : Int) < (s.l.length : Int))) (fun q3 => have p3 := decT q3; .ord [0, 1, 2, 3, 4, 5, 6, 7, 8] <| .run 3 [b1 = b1] ⟨rfl, trivial⟩ <|
 .idxM s.l chnA k (m := (k : Int)) rfl (by omega) fun x1 hx1 =>
 have okx1 := oks.2.2.2.1 x1 (List.mem_of_getElem? hx1); have blx1 := okx1.2.1; .run 3 [b1 = b1] ⟨rfl, trivial⟩ <|
 .call (chain_spec x1 s.stamp okx1) <|
 .r 1 <| .ord [0, 1, 2, 3, 4, 5, 6, 7, 8, 9, 10, 11, 12, 13, 14, 15, 16, 17, 18, 19, 20, 21] <| .r 3 <| .br 33 (!(dP (chainP s.stamp x1))) (fun q4 => have q4 := notT q4; have p4 := booF q4; .r 19 <| .r 1 <| .fin (x := aB false) (r := aB (dP (storeP s))) [] trivial (by
    refine sF (fun h => ?_)
    obtain ⟨g1, g2⟩ := h.2.2.2.at hx1
    first | exact dP_false.1 (by assumption) g1 ))
 <| fun q4 => have q4 := notF q4; have p4 := booT q4; .r 3 <| .br 36 (decide ((k : Int) > 0)) (fun q5 => have p5 := decT q5; .run 4 [b1 = b1, rng .i64 ((k : Int) - 1)] ⟨rfl, rng64 (by omega) (by omega), trivial⟩ <|
 .idxM s.l chnA (k - 1) (m := (k : Int) - 1) (by omega) (by omega) fun x2 hx2 =>
 have okx2 := oks.2.2.2.1 x2 (List.mem_of_getElem? hx2); have blx2 := okx2.2.1; .run 5 [b1 = b1] ⟨rfl, trivial⟩ <|
 .idx k (m := (k : Int)) (xs := s.l.map chnA) (e := chnA x1) rfl (map_some hx1) <|
 .r 5 <| .br 52 (decide (x2.ino ≥ x1.ino)) (fun q6 => have p6 := decT q6; .r 1 <| .fin (x := aB false) (r := aB (dP (storeP s))) [] trivial (by
    refine sF (fun h => ?_)
    obtain ⟨g1, g2⟩ := h.2.2.2.at hx1
    first | exact dP_false.1 (by assumption) g1 | (have := g2 _ (by omega) hx2; omega)))
 <| fun q6 => have p6 := decF q6; .run 3 [rng .i64 ((k : Int) + 1)] ⟨rng64 (by omega) (by omega), trivial⟩ <|
 .back L1 k (k + 1) (show (k + 1) ≤ s.l.length ∧ AllTo (chnAt s) s.l (k + 1) from ⟨by omega, hH1.2.step hx1 ⟨dP_true.1 (by assumption), by intro d h0 hd; first | omega | (rw [hd] at hx2; obtain rfl := Option.some.inj hx2; omega)⟩⟩) (show s.l.length - (k + 1) < s.l.length - k from (by omega)) ⟨[(1, .ptr 1 b1 0), (3, aI ((k : Int) + 1))], [(1, .box b1 25 [.sl 2 false (s.l.map chnA), .sl 2 false (s.nexts.map cntA), aI s.stamp])]⟩ ⟨Sub.refl _, Sub.of_eq (congrArg aI (by first | omega | rfl)), trivial⟩ ⟨⟨_, rfl, SubB.refl _⟩, trivial⟩)
 <| fun q5 => have p5 := decF q5; .r 16 <| .run 3 [rng .i64 ((k : Int) + 1)] ⟨rng64 (by omega) (by omega), trivial⟩ <|
 .back L1 k (k + 1) (show (k + 1) ≤ s.l.length ∧ AllTo (chnAt s) s.l (k + 1) from ⟨by omega, hH1.2.step hx1 ⟨dP_true.1 (by assumption), by intro d h0 hd; omega⟩⟩) (show s.l.length - (k + 1) < s.l.length - k from (by omega)) ⟨[(1, .ptr 1 b1 0), (3, aI ((k : Int) + 1))], [(1, .box b1 25 [.sl 2 false (s.l.map chnA), .sl 2 false (s.nexts.map cntA), aI s.stamp])]⟩ ⟨Sub.refl _, Sub.of_eq (congrArg aI (by first | omega | rfl)), trivial⟩ ⟨⟨_, rfl, SubB.refl _⟩, trivial⟩)
 <| fun q3 => have p3 := decF q3; .r 1 <| let L2 : Lp (Nat) := ⟨fun a2 => ⟨[(1, .ptr 1 b1 0), (5, aI (a2 : Int))], [(1, .box b1 25 [.sl 2 false (s.l.map chnA), .sl 2 false (s.nexts.map cntA), aI s.stamp])]⟩, fun a2 => s.nexts.length - a2, fun a2 => a2 ≤ s.nexts.length ∧ AllTo (stepP Cnt.stamp s.stamp s.nexts) s.nexts a2 ∧ AllTo (fun _ (c : Cnt) => 1 ≤ c.next) s.nexts a2⟩
 .loop L2 0 (show 0 ≤ s.nexts.length ∧ AllTo (stepP Cnt.stamp s.stamp s.nexts) s.nexts 0 ∧ AllTo (fun _ (c : Cnt) => 1 ≤ c.next) s.nexts 0 from ⟨Nat.zero_le _, AllTo.zero _ _, AllTo.zero _ _⟩) ⟨[(1, .ptr 1 b1 0), (5, aI 0)], [(1, .box b1 25 [.sl 2 false (s.l.map chnA), .sl 2 false (s.nexts.map cntA), aI s.stamp])]⟩ ⟨Sub.refl _, Sub.of_eq (congrArg aI (by first | omega | rfl)), trivial⟩ ⟨⟨_, rfl, SubB.refl _⟩, trivial⟩ fun a2 ha2 =>
 (fun (k : Nat) (hH2 : k ≤ s.nexts.length ∧ AllTo (stepP Cnt.stamp s.stamp s.nexts) s.nexts k ∧ AllTo (fun _ (c : Cnt) => 1 ≤ c.next) s.nexts k) => .run 4 [b1 = b1] ⟨rfl, trivial⟩ <|
 .val 56 (show (aI ((s.nexts.map cntA).length : Int) : AV) = aI (s.nexts.length : Int) from by rw [List.length_map]) <| .r 1 <| .br 57 (decide ((k : Int) < (s.nexts.length : Int))) (fun q7 => have p7 := decT q7; .run 3 [b1 = b1] ⟨rfl, trivial⟩ <|
 .idxM s.nexts cntA k (m := (k : Int)) rfl (by omega) fun x3 hx3 =>
 have okx3 := oks.2.2.2.2 x3 (List.mem_of_getElem? hx3); .r 1 <| .new fun b2 => .run 1 [b2 = b2] ⟨rfl, trivial⟩ <|
 .ord [0, 1, 2, 3, 4, 5, 6, 7, 8, 9, 10, 11, 12, 13, 14, 15, 16, 17, 18, 19, 20, 21, 22, 23, 24, 25, 26, 27, 28, 29, 30] <| .run 4 [b2 = b2] ⟨rfl, trivial⟩ <|
 .br 68 (decide (x3.stamp < 1)) (fun q8 => have p8 := decT q8; .r 27 <| .r 1 <| .fin (x := aB false) (r := aB (dP (storeP s))) [] trivial (by
    refine sF (fun h => ?_)
    obtain ⟨g1, g2, g3⟩ := h.2.1.2.at hx3
    have g4 := h.2.2.1.at hx3
    first | omega ))
 <| fun q8 => have p8 := decF q8; .run 7 [b2 = b2, b1 = b1] ⟨rfl, rfl, trivial⟩ <|
 .br 75 (decide (x3.stamp > s.stamp)) (fun q9 => have p9 := decT q9; .r 20 <| .r 1 <| .fin (x := aB false) (r := aB (dP (storeP s))) [] trivial (by
    refine sF (fun h => ?_)
    obtain ⟨g1, g2, g3⟩ := h.2.1.2.at hx3
    have g4 := h.2.2.1.at hx3
    first | omega ))
 <| fun q9 => have p9 := decF q9; .run 5 [b2 = b2] ⟨rfl, trivial⟩ <|
 .br 80 (decide (x3.next < 1)) (fun q10 => have p10 := decT q10; .r 15 <| .r 1 <| .fin (x := aB false) (r := aB (dP (storeP s))) [] trivial (by
    refine sF (fun h => ?_)
    obtain ⟨g1, g2, g3⟩ := h.2.1.2.at hx3
    have g4 := h.2.2.1.at hx3
    first | omega ))
 <| fun q10 => have p10 := decF q10; .r 3 <| .br 83 (decide ((k : Int) > 0)) (fun q11 => have p11 := decT q11; .run 4 [b1 = b1, rng .i64 ((k : Int) - 1)] ⟨rfl, rng64 (by omega) (by omega), trivial⟩ <|
 .idxM s.nexts cntA (k - 1) (m := (k : Int) - 1) (by omega) (by omega) fun x4 hx4 =>
 have okx4 := oks.2.2.2.2 x4 (List.mem_of_getElem? hx4); .run 7 [b2 = b2] ⟨rfl, trivial⟩ <|
 .br 95 (decide (x4.stamp ≥ x3.stamp)) (fun q12 => have p12 := decT q12; .r 1 <| .fin (x := aB false) (r := aB (dP (storeP s))) [] trivial (by
    refine sF (fun h => ?_)
    obtain ⟨g1, g2, g3⟩ := h.2.1.2.at hx3
    have g4 := h.2.2.1.at hx3
    first | omega | (have := g3 _ (by omega) hx4; omega)))
 <| fun q12 => have p12 := decF q12; .run 3 [rng .i64 ((k : Int) + 1)] ⟨rng64 (by omega) (by omega), trivial⟩ <|
 .back L2 k (k + 1) (show (k + 1) ≤ s.nexts.length ∧ AllTo (stepP Cnt.stamp s.stamp s.nexts) s.nexts (k + 1) ∧ AllTo (fun _ (c : Cnt) => 1 ≤ c.next) s.nexts (k + 1) from ⟨by omega, hH2.2.1.step hx3 ⟨by omega, by omega, by intro d h0 hd; first | omega | (rw [hd] at hx4; obtain rfl := Option.some.inj hx4; omega)⟩, hH2.2.2.step hx3 (by show 1 ≤ x3.next; omega)⟩) (show s.nexts.length - (k + 1) < s.nexts.length - k from (by omega)) ⟨[(1, .ptr 1 b1 0), (5, aI ((k : Int) + 1))], [(1, .box b1 25 [.sl 2 false (s.l.map chnA), .sl 2 false (s.nexts.map cntA), aI s.stamp])]⟩ ⟨Sub.refl _, Sub.of_eq (congrArg aI (by first | omega | rfl)), trivial⟩ ⟨⟨_, rfl, SubB.refl _⟩, trivial⟩)
 <| fun q11 => have p11 := decF q11; .r 12 <| .run 3 [rng .i64 ((k : Int) + 1)] ⟨rng64 (by omega) (by omega), trivial⟩ <|
 .back L2 k (k + 1) (show (k + 1) ≤ s.nexts.length ∧ AllTo (stepP Cnt.stamp s.stamp s.nexts) s.nexts (k + 1) ∧ AllTo (fun _ (c : Cnt) => 1 ≤ c.next) s.nexts (k + 1) from ⟨by omega, hH2.2.1.step hx3 ⟨by omega, by omega, by intro d h0 hd; omega⟩, hH2.2.2.step hx3 (by show 1 ≤ x3.next; omega)⟩) (show s.nexts.length - (k + 1) < s.nexts.length - k from (by omega)) ⟨[(1, .ptr 1 b1 0), (5, aI ((k : Int) + 1))], [(1, .box b1 25 [.sl 2 false (s.l.map chnA), .sl 2 false (s.nexts.map cntA), aI s.stamp])]⟩ ⟨Sub.refl _, Sub.of_eq (congrArg aI (by first | omega | rfl)), trivial⟩ ⟨⟨_, rfl, SubB.refl _⟩, trivial⟩)
 <| fun q7 => have p7 := decF q7; .r 1 <| .fin (x := aB true) (r := aB (dP (storeP s))) [] trivial (by exact sT ⟨by omega, ⟨by omega, hH2.2.1.full (by omega)⟩, hH2.2.2.full (by omega), hH1.2.full (by omega)⟩)) a2 ha2) a1 ha1) Try.func10 rfl (by kernel_rfl) (by kernel_rfl)
set_option maxRecDepth 100000 in
set_option maxHeartbeats 4000000 in
theorem seenVer_spec (l : List Ver) (st : Int) (hl : l.length ≤ 8796093022207) : FSpec Try.prog 34 [.sl 7 false (l.map verA), .val (.func (.func 60) #[] #[]), aI st] (aI ((cutD Ver.stamp st l : Int) - 1)) := by
  exact spec_vc (F := Try.f34) 400 (
 .r 1 <| .r 2 <| .val 9 (show (aI ((l.map verA).length : Int) : AV) = aI (l.length : Int) from by rw [List.length_map]) <| .run 2 [rng .i64 ((l.length : Int) - 1)] ⟨rng64 (by omega) (by omega), trivial⟩ <|
 let L1 : Lp (Nat) := ⟨fun a1 => ⟨[(0, .sl 7 false (l.map verA)), (1, .val (.func (.func 60) #[] #[])), (2, aI st), (7, aI ((a1 : Int) - 1))], []⟩, fun a1 => a1, fun a1 => a1 ≤ l.length ∧ ∀ j y, a1 ≤ j → l[j]? = some y → st < Ver.stamp y⟩
 .loop L1 l.length (show l.length ≤ l.length ∧ ∀ j y, l.length ≤ j → l[j]? = some y → st < Ver.stamp y from (seen0 _ _ _)) ⟨[(0, .sl 7 false (l.map verA)), (1, .val (.func (.func 60) #[] #[])), (2, aI st), (7, aI ((l.length : Int) - 1))], []⟩ ⟨Sub.refl _, Sub.refl _, Sub.refl _, Sub.refl _, trivial⟩ trivial fun a1 ha1 =>
 (fun (k : Nat) (hH1 : k ≤ l.length ∧ ∀ j y, k ≤ j → l[j]? = some y → st < Ver.stamp y) => .r 3 <| .br 13 (decide (((k : Int) - 1) ≥ 0)) (fun q1 => have p1 := decT q1; .r 3 <| .idxM l verA (k - 1) (m := (k : Int) - 1) (by omega) (by omega) fun x1 hx1 =>
 .r 1 <| .call (st1_spec x1) <|
 .r 3 <| .br 22 (decide (x1.stamp > st)) (fun q2 => have p2 := decT q2; .run 3 [rng .i64 (((k : Int) - 1) - 1)] ⟨rng64 (by omega) (by omega), trivial⟩ <|
 .back L1 k (k - 1) (show (k - 1) ≤ l.length ∧ ∀ j y, (k - 1) ≤ j → l[j]? = some y → st < Ver.stamp y from (seenS hx1 hH1.1 hH1.2 (by omega))) (show (k - 1) < k from (by omega)) ⟨[(0, .sl 7 false (l.map verA)), (1, .val (.func (.func 60) #[] #[])), (2, aI st), (7, aI (((k : Int) - 1) - 1))], []⟩ ⟨Sub.refl _, Sub.refl _, Sub.refl _, Sub.of_eq (congrArg aI (by first | omega | rfl)), trivial⟩ trivial)
 <| fun q2 => have p2 := decF q2; .r 2 <| .fin (x := aI ((k : Int) - 1)) (r := aI ((cutD Ver.stamp st l : Int) - 1)) [] trivial (by exact Sub.of_eq (by rw [cut_eq Ver.stamp st l k hH1.1 hH1.2 (.inr ⟨x1, hx1, by omega⟩)])))
 <| fun q1 => have p1 := decF q1; .r 9 <| .r 2 <| .fin (x := aI ((k : Int) - 1)) (r := aI ((cutD Ver.stamp st l : Int) - 1)) [] trivial (by exact Sub.of_eq (by rw [cut_eq Ver.stamp st l k hH1.1 hH1.2 (.inl (by omega))]))) a1 ha1) Try.func34 rfl (by kernel_rfl) (by kernel_rfl)
set_option maxRecDepth 100000 in
set_option maxHeartbeats 4000000 in
theorem seenCount_spec (l : List Cnt) (st : Int) (hl : l.length ≤ 8796093022207) : FSpec Try.prog 35 [.sl 2 false (l.map cntA), .val (.func (.func 61) #[] #[]), aI st] (aI ((cutD Cnt.stamp st l : Int) - 1)) := by
  exact spec_vc (F := Try.f35) 400 (
 .r 1 <| .r 2 <| .val 9 (show (aI ((l.map cntA).length : Int) : AV) = aI (l.length : Int) from by rw [List.length_map]) <| .run 2 [rng .i64 ((l.length : Int) - 1)] ⟨rng64 (by omega) (by omega), trivial⟩ <|
 let L1 : Lp (Nat) := ⟨fun a1 => ⟨[(0, .sl 2 false (l.map cntA)), (1, .val (.func (.func 61) #[] #[])), (2, aI st), (7, aI ((a1 : Int) - 1))], []⟩, fun a1 => a1, fun a1 => a1 ≤ l.length ∧ ∀ j y, a1 ≤ j → l[j]? = some y → st < Cnt.stamp y⟩
 .loop L1 l.length (show l.length ≤ l.length ∧ ∀ j y, l.length ≤ j → l[j]? = some y → st < Cnt.stamp y from (seen0 _ _ _)) ⟨[(0, .sl 2 false (l.map cntA)), (1, .val (.func (.func 61) #[] #[])), (2, aI st), (7, aI ((l.length : Int) - 1))], []⟩ ⟨Sub.refl _, Sub.refl _, Sub.refl _, Sub.refl _, trivial⟩ trivial fun a1 ha1 =>
 (fun (k : Nat) (hH1 : k ≤ l.length ∧ ∀ j y, k ≤ j → l[j]? = some y → st < Cnt.stamp y) => .r 3 <| .br 13 (decide (((k : Int) - 1) ≥ 0)) (fun q1 => have p1 := decT q1; .r 3 <| .idxM l cntA (k - 1) (m := (k : Int) - 1) (by omega) (by omega) fun x1 hx1 =>
 .r 1 <| .call (st2_spec x1) <|
 .r 3 <| .br 22 (decide (x1.stamp > st)) (fun q2 => have p2 := decT q2; .run 3 [rng .i64 (((k : Int) - 1) - 1)] ⟨rng64 (by omega) (by omega), trivial⟩ <|
 .back L1 k (k - 1) (show (k - 1) ≤ l.length ∧ ∀ j y, (k - 1) ≤ j → l[j]? = some y → st < Cnt.stamp y from (seenS hx1 hH1.1 hH1.2 (by omega))) (show (k - 1) < k from (by omega)) ⟨[(0, .sl 2 false (l.map cntA)), (1, .val (.func (.func 61) #[] #[])), (2, aI st), (7, aI (((k : Int) - 1) - 1))], []⟩ ⟨Sub.refl _, Sub.refl _, Sub.refl _, Sub.of_eq (congrArg aI (by first | omega | rfl)), trivial⟩ trivial)
 <| fun q2 => have p2 := decF q2; .r 2 <| .fin (x := aI ((k : Int) - 1)) (r := aI ((cutD Cnt.stamp st l : Int) - 1)) [] trivial (by exact Sub.of_eq (by rw [cut_eq Cnt.stamp st l k hH1.1 hH1.2 (.inr ⟨x1, hx1, by omega⟩)])))
 <| fun q1 => have p1 := decF q1; .r 9 <| .r 2 <| .fin (x := aI ((k : Int) - 1)) (r := aI ((cutD Cnt.stamp st l : Int) - 1)) [] trivial (by exact Sub.of_eq (by rw [cut_eq Cnt.stamp st l k hH1.1 hH1.2 (.inl (by omega))]))) a1 ha1) Try.func35 rfl (by kernel_rfl) (by kernel_rfl)
end Go.Proofs.Ytibcmgmlklehdaa
