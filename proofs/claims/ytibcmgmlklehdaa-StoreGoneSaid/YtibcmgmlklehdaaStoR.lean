/- Right stores: stamps, rise, versions, Right; ref12.chain, Right. -/
import Derived.Test.YtibcmgmlklehdaaStoP
set_option linter.unusedVariables false
set_option linter.unusedSimpArgs false
namespace Go.Proofs.Ytibcmgmlklehdaa
open Go Go.RowKit Copyhold
set_option maxRecDepth 100000 in
set_option maxHeartbeats 4000000 in
theorem st1_spec (v : Ver) : FSpec Try.prog 60 [.agg [aI v.stamp, aB v.gone, aI v.n.ino, aI v.n.kind, aI v.n.links, aS v.n.text, .sl 2 false (v.n.l.map entA)]] (aI v.stamp) := by
  exact spec_vc (F := Try.f60) 400 (
 .new fun b1 => .r 1 <| .run 3 [b1 = b1] ⟨rfl, trivial⟩ <|
 .fin (x := aI v.stamp) (r := aI v.stamp) [] trivial (by exact Sub.refl _)) Try.func60 rfl (by kernel_rfl) (by kernel_rfl)
set_option maxRecDepth 100000 in
set_option maxHeartbeats 4000000 in
theorem st2_spec (c : Cnt) : FSpec Try.prog 61 [.agg [aI c.stamp, aI c.next]] (aI c.stamp) := by
  exact spec_vc (F := Try.f61) 400 (
 .new fun b1 => .r 1 <| .run 3 [b1 = b1] ⟨rfl, trivial⟩ <|
 .fin (x := aI c.stamp) (r := aI c.stamp) [] trivial (by exact Sub.refl _)) Try.func61 rfl (by kernel_rfl) (by kernel_rfl)
set_option maxRecDepth 100000 in
set_option maxHeartbeats 4000000 in
theorem stamps_spec  : FSpec Try.prog 29 [] (.tup [.val (.func (.func 60) #[] #[]), .val (.func (.func 61) #[] #[])]) := by
  exact spec_vc (F := Try.f29) 400 (
 .r 2 <| .r 2 <| .fin (x := .tup [.val (.func (.func 60) #[] #[]), .val (.func (.func 61) #[] #[])]) (r := .tup [.val (.func (.func 60) #[] #[]), .val (.func (.func 61) #[] #[])]) [] trivial (by exact Sub.refl _)) Try.func29 rfl (by kernel_rfl) (by kernel_rfl)
set_option maxRecDepth 100000 in
set_option maxHeartbeats 4000000 in
theorem riseVer_spec (l : List Ver) (most : Int) (hl : l.length ≤ 8796093022207) : FSpec Try.prog 31 [.sl 7 false (l.map verA), .val (.func (.func 60) #[] #[]), aI most] (aB (dP (riseP Ver.stamp most l))) := by
  exact spec_vc (F := Try.f31) 400 (
 .r 1 <| .r 1 <| .r 2 <| .val 11 (show (aI ((l.map verA).length : Int) : AV) = aI (l.length : Int) from by rw [List.length_map]) <| .r 1 <| let L1 : Lp (Nat × Int) := ⟨fun a1 => ⟨[(0, .sl 7 false (l.map verA)), (1, .val (.func (.func 60) #[] #[])), (2, aI most), (10, .sl 7 false (l.map verA)), (11, aI (l.length : Int)), (7, aI a1.2), (12, aI (a1.1 : Int))], []⟩, fun a1 => l.length - a1.1, fun a1 => a1.1 ≤ l.length ∧ AllTo (stepP Ver.stamp most l) l a1.1 ∧ LastI Ver.stamp l a1.1 a1.2⟩
 .loop L1 (0, 0) (show 0 ≤ l.length ∧ AllTo (stepP Ver.stamp most l) l 0 ∧ LastI Ver.stamp l 0 0 from ⟨Nat.zero_le _, AllTo.zero _ _, .inl ⟨rfl, rfl⟩⟩) ⟨[(0, .sl 7 false (l.map verA)), (1, .val (.func (.func 60) #[] #[])), (2, aI most), (10, .sl 7 false (l.map verA)), (11, aI (l.length : Int)), (7, aI 0), (12, aI 0)], []⟩ ⟨Sub.refl _, Sub.refl _, Sub.refl _, Sub.refl _, Sub.refl _, Sub.refl _, Sub.of_eq (congrArg aI (by first | omega | rfl)), trivial⟩ trivial fun a1 ha1 =>
 (fun (k : Nat) (la : Int) (hH1 : k ≤ l.length ∧ AllTo (stepP Ver.stamp most l) l k ∧ LastI Ver.stamp l k la) => .r 1 <| .br 13 (decide ((k : Int) < (l.length : Int))) (fun q1 => have p1 := decT q1; .idxM l verA k (m := (k : Int)) rfl (by omega) fun x1 hx1 =>
 .r 1 <| .new fun b1 => .run 1 [b1 = b1] ⟨rfl, trivial⟩ <|
 .run 2 [b1 = b1] ⟨rfl, trivial⟩ <|
 .call (st1_spec x1) <|
 .r 3 <| .br 21 (decide (x1.stamp ≤ la)) (fun q2 => have p2 := decT q2; .r 6 <| .r 1 <| .fin (x := aB false) (r := aB (dP (riseP Ver.stamp most l))) [] trivial (by
    refine sF (fun h => ?_)
    obtain ⟨g1, g2, g3⟩ := h.2.at hx1
    first | exact hH1.2.2.not (v := x1.stamp) (by omega) ⟨g1, g3⟩ | omega))
 <| fun q2 => have p2 := decF q2; .run 2 [b1 = b1] ⟨rfl, trivial⟩ <|
 .call (st1_spec x1) <|
 .r 3 <| .br 27 (decide (x1.stamp > most)) (fun q3 => have p3 := decT q3; .r 1 <| .fin (x := aB false) (r := aB (dP (riseP Ver.stamp most l))) [] trivial (by
    refine sF (fun h => ?_)
    obtain ⟨g1, g2, g3⟩ := h.2.at hx1
    first | exact hH1.2.2.not (v := x1.stamp) (by omega) ⟨g1, g3⟩ | omega))
 <| fun q3 => have p3 := decF q3; .run 2 [b1 = b1] ⟨rfl, trivial⟩ <|
 .call (st1_spec x1) <|
 .r 1 <| .run 2 [rng .i64 ((k : Int) + 1)] ⟨rng64 (by omega) (by omega), trivial⟩ <|
 .back L1 (k, la) ((k + 1), x1.stamp) (show (k + 1) ≤ l.length ∧ AllTo (stepP Ver.stamp most l) l (k + 1) ∧ LastI Ver.stamp l (k + 1) x1.stamp from ⟨by omega, hH1.2.1.step hx1 (by have := hH1.2.2.lt (v := x1.stamp) (by omega); exact ⟨this.1, by omega, this.2⟩), hH1.2.2.step hx1 (by omega)⟩) (show l.length - (k + 1) < l.length - k from (by omega)) ⟨[(0, .sl 7 false (l.map verA)), (1, .val (.func (.func 60) #[] #[])), (2, aI most), (10, .sl 7 false (l.map verA)), (11, aI (l.length : Int)), (7, aI x1.stamp), (12, aI ((k : Int) + 1))], []⟩ ⟨Sub.refl _, Sub.refl _, Sub.refl _, Sub.refl _, Sub.refl _, Sub.refl _, Sub.of_eq (congrArg aI (by first | omega | rfl)), trivial⟩ trivial)
 <| fun q1 => have p1 := decF q1; .r 2 <| .val 33 (show (aI ((l.map verA).length : Int) : AV) = aI (l.length : Int) from by rw [List.length_map]) <| .r 2 <| .fin (x := aB (decide ((l.length : Int) > 0))) (r := aB (dP (riseP Ver.stamp most l))) [] trivial (by refine sE ⟨fun h => ⟨by have := of_decide_eq_true h; omega, hH1.2.1.full (by omega)⟩, fun h => decide_eq_true (by have := h.1; omega)⟩)) a1.1 a1.2 ha1) Try.func31 rfl (by kernel_rfl) (by kernel_rfl)
set_option maxRecDepth 100000 in
set_option maxHeartbeats 4000000 in
theorem riseCount_spec (l : List Cnt) (most : Int) (hl : l.length ≤ 8796093022207) : FSpec Try.prog 30 [.sl 2 false (l.map cntA), .val (.func (.func 61) #[] #[]), aI most] (aB (dP (riseP Cnt.stamp most l))) := by
  exact spec_vc (F := Try.f30) 400 (
 .r 1 <| .r 1 <| .r 2 <| .val 11 (show (aI ((l.map cntA).length : Int) : AV) = aI (l.length : Int) from by rw [List.length_map]) <| .r 1 <| let L1 : Lp (Nat × Int) := ⟨fun a1 => ⟨[(0, .sl 2 false (l.map cntA)), (1, .val (.func (.func 61) #[] #[])), (2, aI most), (10, .sl 2 false (l.map cntA)), (11, aI (l.length : Int)), (7, aI a1.2), (12, aI (a1.1 : Int))], []⟩, fun a1 => l.length - a1.1, fun a1 => a1.1 ≤ l.length ∧ AllTo (stepP Cnt.stamp most l) l a1.1 ∧ LastI Cnt.stamp l a1.1 a1.2⟩
 .loop L1 (0, 0) (show 0 ≤ l.length ∧ AllTo (stepP Cnt.stamp most l) l 0 ∧ LastI Cnt.stamp l 0 0 from ⟨Nat.zero_le _, AllTo.zero _ _, .inl ⟨rfl, rfl⟩⟩) ⟨[(0, .sl 2 false (l.map cntA)), (1, .val (.func (.func 61) #[] #[])), (2, aI most), (10, .sl 2 false (l.map cntA)), (11, aI (l.length : Int)), (7, aI 0), (12, aI 0)], []⟩ ⟨Sub.refl _, Sub.refl _, Sub.refl _, Sub.refl _, Sub.refl _, Sub.refl _, Sub.of_eq (congrArg aI (by first | omega | rfl)), trivial⟩ trivial fun a1 ha1 =>
 (fun (k : Nat) (la : Int) (hH1 : k ≤ l.length ∧ AllTo (stepP Cnt.stamp most l) l k ∧ LastI Cnt.stamp l k la) => .r 1 <| .br 13 (decide ((k : Int) < (l.length : Int))) (fun q1 => have p1 := decT q1; .idxM l cntA k (m := (k : Int)) rfl (by omega) fun x1 hx1 =>
 .r 1 <| .new fun b1 => .run 1 [b1 = b1] ⟨rfl, trivial⟩ <|
 .run 2 [b1 = b1] ⟨rfl, trivial⟩ <|
 .call (st2_spec x1) <|
 .r 3 <| .br 21 (decide (x1.stamp ≤ la)) (fun q2 => have p2 := decT q2; .r 6 <| .r 1 <| .fin (x := aB false) (r := aB (dP (riseP Cnt.stamp most l))) [] trivial (by
    refine sF (fun h => ?_)
    obtain ⟨g1, g2, g3⟩ := h.2.at hx1
    first | exact hH1.2.2.not (v := x1.stamp) (by omega) ⟨g1, g3⟩ | omega))
 <| fun q2 => have p2 := decF q2; .run 2 [b1 = b1] ⟨rfl, trivial⟩ <|
 .call (st2_spec x1) <|
 .r 3 <| .br 27 (decide (x1.stamp > most)) (fun q3 => have p3 := decT q3; .r 1 <| .fin (x := aB false) (r := aB (dP (riseP Cnt.stamp most l))) [] trivial (by
    refine sF (fun h => ?_)
    obtain ⟨g1, g2, g3⟩ := h.2.at hx1
    first | exact hH1.2.2.not (v := x1.stamp) (by omega) ⟨g1, g3⟩ | omega))
 <| fun q3 => have p3 := decF q3; .run 2 [b1 = b1] ⟨rfl, trivial⟩ <|
 .call (st2_spec x1) <|
 .r 1 <| .run 2 [rng .i64 ((k : Int) + 1)] ⟨rng64 (by omega) (by omega), trivial⟩ <|
 .back L1 (k, la) ((k + 1), x1.stamp) (show (k + 1) ≤ l.length ∧ AllTo (stepP Cnt.stamp most l) l (k + 1) ∧ LastI Cnt.stamp l (k + 1) x1.stamp from ⟨by omega, hH1.2.1.step hx1 (by have := hH1.2.2.lt (v := x1.stamp) (by omega); exact ⟨this.1, by omega, this.2⟩), hH1.2.2.step hx1 (by omega)⟩) (show l.length - (k + 1) < l.length - k from (by omega)) ⟨[(0, .sl 2 false (l.map cntA)), (1, .val (.func (.func 61) #[] #[])), (2, aI most), (10, .sl 2 false (l.map cntA)), (11, aI (l.length : Int)), (7, aI x1.stamp), (12, aI ((k : Int) + 1))], []⟩ ⟨Sub.refl _, Sub.refl _, Sub.refl _, Sub.refl _, Sub.refl _, Sub.refl _, Sub.of_eq (congrArg aI (by first | omega | rfl)), trivial⟩ trivial)
 <| fun q1 => have p1 := decF q1; .r 2 <| .val 33 (show (aI ((l.map cntA).length : Int) : AV) = aI (l.length : Int) from by rw [List.length_map]) <| .r 2 <| .fin (x := aB (decide ((l.length : Int) > 0))) (r := aB (dP (riseP Cnt.stamp most l))) [] trivial (by refine sE ⟨fun h => ⟨by have := of_decide_eq_true h; omega, hH1.2.1.full (by omega)⟩, fun h => decide_eq_true (by have := h.1; omega)⟩)) a1.1 a1.2 ha1) Try.func30 rfl (by kernel_rfl) (by kernel_rfl)
set_option maxRecDepth 100000 in
set_option maxHeartbeats 4000000 in
theorem versions_spec (c : Chn) (okc : OkC c) : FSpec Try.prog 32 [.agg [aI c.ino, .sl 7 false (c.l.map verA)]] (aB (dP (AllQ (fun _ v => verP c.ino v) c.l))) := by
  have hcl := okc.2.1
  exact spec_vc (F := Try.f32) 400 (
 .new fun b1 => .r 1 <| .run 3 [b1 = b1] ⟨rfl, trivial⟩ <|
 .val 7 (show (aI ((c.l.map verA).length : Int) : AV) = aI (c.l.length : Int) from by rw [List.length_map]) <| .r 1 <| let L1 : Lp (Nat) := ⟨fun a1 => ⟨[(1, .ptr 1 b1 0), (6, .sl 7 false (c.l.map verA)), (7, aI (c.l.length : Int)), (8, aI (a1 : Int))], [(1, .box b1 53 [aI c.ino, .sl 7 false (c.l.map verA)])]⟩, fun a1 => c.l.length - a1, fun a1 => a1 ≤ c.l.length ∧ AllTo (fun _ v => verP c.ino v) c.l a1⟩
 .loop L1 0 (show 0 ≤ c.l.length ∧ AllTo (fun _ v => verP c.ino v) c.l 0 from ⟨Nat.zero_le _, AllTo.zero _ _⟩) ⟨[(1, .ptr 1 b1 0), (6, .sl 7 false (c.l.map verA)), (7, aI (c.l.length : Int)), (8, aI 0)], [(1, .box b1 53 [aI c.ino, .sl 7 false (c.l.map verA)])]⟩ ⟨Sub.refl _, Sub.refl _, Sub.refl _, Sub.of_eq (congrArg aI (by first | omega | rfl)), trivial⟩ ⟨⟨_, rfl, SubB.refl _⟩, trivial⟩ fun a1 ha1 =>
 (fun (k : Nat) (hH1 : k ≤ c.l.length ∧ AllTo (fun _ v => verP c.ino v) c.l k) => .r 1 <| .br 9 (decide ((k : Int) < (c.l.length : Int))) (fun q1 => have p1 := decT q1; .idxM c.l verA k (m := (k : Int)) rfl (by omega) fun x1 hx1 =>
 have okx1 := okc.2.2 x1 (List.mem_of_getElem? hx1); .r 1 <| .new fun b2 => .run 1 [b2 = b2] ⟨rfl, trivial⟩ <|
 .run 3 [b2 = b2] ⟨rfl, trivial⟩ <|
 .br 14 (x1.gone) (fun q2 => have p2 := booT q2; .run 3 [b2 = b2] ⟨rfl, trivial⟩ <|
 .callS (args0 := [.agg [aI x1.n.ino, aI x1.n.kind, aI x1.n.links, aS x1.n.text, .sl 2 false (x1.n.l.map entA)], .agg [aI 0, aI 0, aI 0, aS ([]), aN]]) (args := [.agg [aI x1.n.ino, aI x1.n.kind, aI x1.n.links, aS x1.n.text, .sl 2 false (x1.n.l.map entA)], .agg (nodA nod0)]) ⟨Sub.refl _, Sub.aggs ⟨Sub.refl _, Sub.refl _, Sub.refl _, Sub.refl _, Sub.nil _ _, trivial⟩, trivial⟩ (nsame_spec x1.n nod0 (okx1).2 nod0_ok) <|
 .r 2 <| .br 20 (!(dP (x1.n = nod0))) (fun q3 => have q3 := notT q3; have p3 := booF q3; .r 1 <| .fin (x := aB false) (r := aB (dP (AllQ (fun _ v => verP c.ino v) c.l))) [] trivial (by
    refine sF (fun h => ?_)
    have g := h.at hx1
    obtain ⟨g1, g2⟩ := g
    simp_all [dP_false]))
 <| fun q3 => have q3 := notF q3; have p3 := booT q3; .run 4 [b2 = b2] ⟨rfl, trivial⟩ <|
 .is 24 (show (!x1.gone) = false from by rw [q2]; rfl) <| .r 13 <| .run 2 [rng .i64 ((k : Int) + 1)] ⟨rng64 (by omega) (by omega), trivial⟩ <|
 .back L1 k (k + 1) (show (k + 1) ≤ c.l.length ∧ AllTo (fun _ v => verP c.ino v) c.l (k + 1) from ⟨by omega, hH1.2.step hx1 ⟨fun hg => by simp_all [dP_true, dP_false], fun hg => by simp_all [dP_true, dP_false]⟩⟩) (show c.l.length - (k + 1) < c.l.length - k from (by omega)) ⟨[(1, .ptr 1 b1 0), (6, .sl 7 false (c.l.map verA)), (7, aI (c.l.length : Int)), (8, aI ((k : Int) + 1))], [(1, .box b1 53 [aI c.ino, .sl 7 false (c.l.map verA)])]⟩ ⟨Sub.refl _, Sub.refl _, Sub.refl _, Sub.of_eq (congrArg aI (by first | omega | rfl)), trivial⟩ ⟨⟨_, rfl, SubB.refl _⟩, trivial⟩)
 <| fun q2 => have p2 := booF q2; .r 6 <| .run 4 [b2 = b2] ⟨rfl, trivial⟩ <|
 .is 24 (show (!x1.gone) = true from by rw [q2]; rfl) <| .run 7 [b2 = b2, b1 = b1] ⟨rfl, rfl, trivial⟩ <|
 .br 31 (x1.n.ino != c.ino) (fun q4 => have p4 := bneT q4; .r 6 <| .r 1 <| .fin (x := aB false) (r := aB (dP (AllQ (fun _ v => verP c.ino v) c.l))) [] trivial (by
    refine sF (fun h => ?_)
    have g := h.at hx1
    obtain ⟨g1, g2⟩ := g
    simp_all [dP_false]))
 <| fun q4 => have p4 := bneF q4; .run 2 [b2 = b2] ⟨rfl, trivial⟩ <|
 .call (nright_spec x1.n (okx1).2) <|
 .r 3 <| .br 37 (!(dP (nodP x1.n))) (fun q5 => have q5 := notT q5; have p5 := booF q5; .r 1 <| .fin (x := aB false) (r := aB (dP (AllQ (fun _ v => verP c.ino v) c.l))) [] trivial (by
    refine sF (fun h => ?_)
    have g := h.at hx1
    obtain ⟨g1, g2⟩ := g
    simp_all [dP_false]))
 <| fun q5 => have q5 := notF q5; have p5 := booT q5; .run 2 [rng .i64 ((k : Int) + 1)] ⟨rng64 (by omega) (by omega), trivial⟩ <|
 .back L1 k (k + 1) (show (k + 1) ≤ c.l.length ∧ AllTo (fun _ v => verP c.ino v) c.l (k + 1) from ⟨by omega, hH1.2.step hx1 ⟨fun hg => by simp_all [dP_true, dP_false], fun hg => by simp_all [dP_true, dP_false]⟩⟩) (show c.l.length - (k + 1) < c.l.length - k from (by omega)) ⟨[(1, .ptr 1 b1 0), (6, .sl 7 false (c.l.map verA)), (7, aI (c.l.length : Int)), (8, aI ((k : Int) + 1))], [(1, .box b1 53 [aI c.ino, .sl 7 false (c.l.map verA)])]⟩ ⟨Sub.refl _, Sub.refl _, Sub.refl _, Sub.of_eq (congrArg aI (by first | omega | rfl)), trivial⟩ ⟨⟨_, rfl, SubB.refl _⟩, trivial⟩)
 <| fun q1 => have p1 := decF q1; .r 1 <| .fin (x := aB true) (r := aB (dP (AllQ (fun _ v => verP c.ino v) c.l))) [] trivial (by exact sT (hH1.2.full (by omega)))) a1 ha1) Try.func32 rfl (by kernel_rfl) (by kernel_rfl)
set_option maxRecDepth 100000 in
set_option maxHeartbeats 4000000 in
theorem right_spec (s : Sto) (oks : OkS s) : FSpec Try.prog 11 [.agg [.sl 2 false (s.l.map chnA), .sl 2 false (s.nexts.map cntA), aI s.stamp]] (aB (dP (storeP s))) := by
  have hb1 := oks.2.1
  have hb2 := oks.2.2.1
  exact spec_vc (F := Try.f11) 400 (
 .new fun b1 => .r 1 <| .call (stamps_spec) <|
 .r 5 <| .run 4 [b1 = b1] ⟨rfl, trivial⟩ <|
 .br 17 (decide (s.stamp < 1)) (fun q1 => have p1 := decT q1; .r 8 <| .r 1 <| .fin (x := aB false) (r := aB (dP (storeP s))) [] trivial (by
    refine sF (fun h => ?_)
    obtain ⟨g1, g2, g3, g4⟩ := h
    first | omega | exact dP_false.1 (by assumption) g2))
 <| fun q1 => have p1 := decF q1; .run 5 [b1 = b1, b1 = b1] ⟨rfl, rfl, trivial⟩ <|
 .call (riseCount_spec s.nexts s.stamp (by omega)) <|
 .r 2 <| .br 25 (!(dP (riseP Cnt.stamp s.stamp s.nexts))) (fun q2 => have q2 := notT q2; have p2 := booF q2; .r 1 <| .fin (x := aB false) (r := aB (dP (storeP s))) [] trivial (by
    refine sF (fun h => ?_)
    obtain ⟨g1, g2, g3, g4⟩ := h
    first | omega | exact dP_false.1 (by assumption) g2))
 <| fun q2 => have q2 := notF q2; have p2 := booT q2; .run 3 [b1 = b1] ⟨rfl, trivial⟩ <|
 .val 28 (show (aI ((s.nexts.map cntA).length : Int) : AV) = aI (s.nexts.length : Int) from by rw [List.length_map]) <| .r 1 <| let L1 : Lp (Nat) := ⟨fun a1 => ⟨[(1, .ptr 1 b1 0), (3, .val (.func (.func 60) #[] #[])), (27, .sl 2 false (s.nexts.map cntA)), (28, aI (s.nexts.length : Int)), (29, aI (a1 : Int))], [(1, .box b1 25 [.sl 2 false (s.l.map chnA), .sl 2 false (s.nexts.map cntA), aI s.stamp])]⟩, fun a1 => s.nexts.length - a1, fun a1 => a1 ≤ s.nexts.length ∧ AllTo (fun _ (c : Cnt) => 1 ≤ c.next) s.nexts a1⟩
 .loop L1 0 (show 0 ≤ s.nexts.length ∧ AllTo (fun _ (c : Cnt) => 1 ≤ c.next) s.nexts 0 from ⟨Nat.zero_le _, AllTo.zero _ _⟩) ⟨[(1, .ptr 1 b1 0), (3, .val (.func (.func 60) #[] #[])), (27, .sl 2 false (s.nexts.map cntA)), (28, aI (s.nexts.length : Int)), (29, aI 0)], [(1, .box b1 25 [.sl 2 false (s.l.map chnA), .sl 2 false (s.nexts.map cntA), aI s.stamp])]⟩ ⟨Sub.refl _, Sub.refl _, Sub.refl _, Sub.refl _, Sub.of_eq (congrArg aI (by first | omega | rfl)), trivial⟩ ⟨⟨_, rfl, SubB.refl _⟩, trivial⟩ fun a1 ha1 =>
 (fun (k : Nat) (hH1 : k ≤ s.nexts.length ∧ AllTo (fun _ (c : Cnt) => 1 ≤ c.next) s.nexts k) => .r 1 <| .br 30 (decide ((k : Int) < (s.nexts.length : Int))) (fun q3 => have p3 := decT q3; .idxM s.nexts cntA k (m := (k : Int)) rfl (by omega) fun x1 hx1 =>
 have okx1 := oks.2.2.2.2 x1 (List.mem_of_getElem? hx1); .r 1 <| .new fun b2 => .run 1 [b2 = b2] ⟨rfl, trivial⟩ <|
 .run 3 [b2 = b2] ⟨rfl, trivial⟩ <|
 .br 35 (decide (x1.next < 1)) (fun q4 => have p4 := decT q4; .r 1 <| .fin (x := aB false) (r := aB (dP (storeP s))) [] trivial (by
    refine sF (fun h => ?_)
    have g := h.2.2.1.at hx1
    omega))
 <| fun q4 => have p4 := decF q4; .run 2 [rng .i64 ((k : Int) + 1)] ⟨rng64 (by omega) (by omega), trivial⟩ <|
 .back L1 k (k + 1) (show (k + 1) ≤ s.nexts.length ∧ AllTo (fun _ (c : Cnt) => 1 ≤ c.next) s.nexts (k + 1) from ⟨by omega, hH1.2.step hx1 (by show 1 ≤ x1.next; omega)⟩) (show s.nexts.length - (k + 1) < s.nexts.length - k from (by omega)) ⟨[(1, .ptr 1 b1 0), (3, .val (.func (.func 60) #[] #[])), (27, .sl 2 false (s.nexts.map cntA)), (28, aI (s.nexts.length : Int)), (29, aI ((k : Int) + 1))], [(1, .box b1 25 [.sl 2 false (s.l.map chnA), .sl 2 false (s.nexts.map cntA), aI s.stamp])]⟩ ⟨Sub.refl _, Sub.refl _, Sub.refl _, Sub.refl _, Sub.of_eq (congrArg aI (by first | omega | rfl)), trivial⟩ ⟨⟨_, rfl, SubB.refl _⟩, trivial⟩)
 <| fun q3 => have p3 := decF q3; .r 1 <| .run 3 [b1 = b1] ⟨rfl, trivial⟩ <|
 .val 39 (show (aI ((s.l.map chnA).length : Int) : AV) = aI (s.l.length : Int) from by rw [List.length_map]) <| .r 1 <| let L2 : Lp (Nat × Int) := ⟨fun a2 => ⟨[(1, .ptr 1 b1 0), (3, .val (.func (.func 60) #[] #[])), (38, .sl 2 false (s.l.map chnA)), (39, aI (s.l.length : Int)), (7, aI a2.2), (40, aI (a2.1 : Int))], [(1, .box b1 25 [.sl 2 false (s.l.map chnA), .sl 2 false (s.nexts.map cntA), aI s.stamp])]⟩, fun a2 => s.l.length - a2.1, fun a2 => a2.1 ≤ s.l.length ∧ AllTo (chnAt s) s.l a2.1 ∧ LastI Chn.ino s.l a2.1 a2.2⟩
 .loop L2 (0, 0) (show 0 ≤ s.l.length ∧ AllTo (chnAt s) s.l 0 ∧ LastI Chn.ino s.l 0 0 from ⟨Nat.zero_le _, AllTo.zero _ _, .inl ⟨rfl, rfl⟩⟩) ⟨[(1, .ptr 1 b1 0), (3, .val (.func (.func 60) #[] #[])), (38, .sl 2 false (s.l.map chnA)), (39, aI (s.l.length : Int)), (7, aI 0), (40, aI 0)], [(1, .box b1 25 [.sl 2 false (s.l.map chnA), .sl 2 false (s.nexts.map cntA), aI s.stamp])]⟩ ⟨Sub.refl _, Sub.refl _, Sub.refl _, Sub.refl _, Sub.refl _, Sub.of_eq (congrArg aI (by first | omega | rfl)), trivial⟩ ⟨⟨_, rfl, SubB.refl _⟩, trivial⟩ fun a2 ha2 =>
 (fun (k : Nat) (la : Int) (hH2 : k ≤ s.l.length ∧ AllTo (chnAt s) s.l k ∧ LastI Chn.ino s.l k la) => .r 1 <| .br 41 (decide ((k : Int) < (s.l.length : Int))) (fun q5 => have p5 := decT q5; .idxM s.l chnA k (m := (k : Int)) rfl (by omega) fun x2 hx2 =>
 have okx2 := oks.2.2.2.1 x2 (List.mem_of_getElem? hx2); have blx2 := okx2.2.1; .r 1 <| .new fun b3 => .run 1 [b3 = b3] ⟨rfl, trivial⟩ <|
 .run 5 [b3 = b3] ⟨rfl, trivial⟩ <|
 .br 48 (decide (x2.ino ≤ la)) (fun q6 => have p6 := decT q6; .r 13 <| .r 1 <| .fin (x := aB false) (r := aB (dP (storeP s))) [] trivial (by
    refine sF (fun h => ?_)
    obtain ⟨⟨g1, g2, g3⟩, g4⟩ := h.2.2.2.at hx2
    first | exact hH2.2.2.not (v := x2.ino) (by omega) ⟨g1, g4⟩ | exact dP_false.1 (by assumption) g2 | exact dP_false.1 (by assumption) g3))
 <| fun q6 => have p6 := decF q6; .run 5 [b3 = b3, b1 = b1] ⟨rfl, rfl, trivial⟩ <|
 .call (riseVer_spec x2.l s.stamp (by omega)) <|
 .r 3 <| .br 57 (!(dP (riseP Ver.stamp s.stamp x2.l))) (fun q7 => have q7 := notT q7; have p7 := booF q7; .r 4 <| .r 1 <| .fin (x := aB false) (r := aB (dP (storeP s))) [] trivial (by
    refine sF (fun h => ?_)
    obtain ⟨⟨g1, g2, g3⟩, g4⟩ := h.2.2.2.at hx2
    first | exact hH2.2.2.not (v := x2.ino) (by omega) ⟨g1, g4⟩ | exact dP_false.1 (by assumption) g2 | exact dP_false.1 (by assumption) g3))
 <| fun q7 => have q7 := notF q7; have p7 := booT q7; .run 1 [b3 = b3] ⟨rfl, trivial⟩ <|
 .call (versions_spec x2 okx2) <|
 .r 2 <| .br 61 (!(dP (AllQ (fun _ v => verP x2.ino v) x2.l))) (fun q8 => have q8 := notT q8; have p8 := booF q8; .r 1 <| .fin (x := aB false) (r := aB (dP (storeP s))) [] trivial (by
    refine sF (fun h => ?_)
    obtain ⟨⟨g1, g2, g3⟩, g4⟩ := h.2.2.2.at hx2
    first | exact hH2.2.2.not (v := x2.ino) (by omega) ⟨g1, g4⟩ | exact dP_false.1 (by assumption) g2 | exact dP_false.1 (by assumption) g3))
 <| fun q8 => have q8 := notF q8; have p8 := booT q8; .run 3 [b3 = b3] ⟨rfl, trivial⟩ <|
 .run 2 [rng .i64 ((k : Int) + 1)] ⟨rng64 (by omega) (by omega), trivial⟩ <|
 .back L2 (k, la) ((k + 1), x2.ino) (show (k + 1) ≤ s.l.length ∧ AllTo (chnAt s) s.l (k + 1) ∧ LastI Chn.ino s.l (k + 1) x2.ino from ⟨by omega, hH2.2.1.step hx2 (by have g := hH2.2.2.lt (v := x2.ino) (by omega); exact ⟨⟨g.1, dP_true.1 (by assumption), dP_true.1 (by assumption)⟩, g.2⟩), hH2.2.2.step hx2 (by omega)⟩) (show s.l.length - (k + 1) < s.l.length - k from (by omega)) ⟨[(1, .ptr 1 b1 0), (3, .val (.func (.func 60) #[] #[])), (38, .sl 2 false (s.l.map chnA)), (39, aI (s.l.length : Int)), (7, aI x2.ino), (40, aI ((k : Int) + 1))], [(1, .box b1 25 [.sl 2 false (s.l.map chnA), .sl 2 false (s.nexts.map cntA), aI s.stamp])]⟩ ⟨Sub.refl _, Sub.refl _, Sub.refl _, Sub.refl _, Sub.refl _, Sub.of_eq (congrArg aI (by first | omega | rfl)), trivial⟩ ⟨⟨_, rfl, SubB.refl _⟩, trivial⟩)
 <| fun q5 => have p5 := decF q5; .r 1 <| .fin (x := aB true) (r := aB (dP (storeP s))) [] trivial (by refine sT ⟨by omega, dP_true.1 (by assumption), hH1.2.full (by omega), hH2.2.1.full (by omega)⟩)) a2.1 a2.2 ha2) a1 ha1) Try.func11 rfl (by kernel_rfl) (by kernel_rfl)
theorem verP_of {ino : Int} {v : Ver} (h1 : v.gone = true → v.n = nod0) (h2 : v.gone = false → nodP v.n ∧ v.n.ino = ino) : verP ino v := ⟨h1, h2⟩
set_option maxRecDepth 100000 in
set_option maxHeartbeats 4000000 in
theorem chain_spec (c : Chn) (last : Int) (okc : OkC c) : FSpec Try.prog 28 [.agg [aI c.ino, .sl 7 false (c.l.map verA)], aI last] (aB (dP (chainP last c))) := by
  have hcl := okc.2.1
  exact spec_vc (F := Try.f28) 400 (
 .new fun b1 => .r 1 <| .run 4 [b1 = b1] ⟨rfl, trivial⟩ <|
 .br 12 (decide (c.ino < 1)) (fun q1 => have p1 := decT q1; .r 5 <| .r 1 <| .fin (x := aB false) (r := aB (dP (chainP last c))) [] trivial (by
    refine sF (fun h => ?_)
    obtain ⟨g1, ⟨g2, _⟩, g3⟩ := h
    omega))
 <| fun q1 => have p1 := decF q1; .run 3 [b1 = b1] ⟨rfl, trivial⟩ <|
 .val 15 (show (aI ((c.l.map verA).length : Int) : AV) = aI (c.l.length : Int) from by rw [List.length_map]) <| .r 2 <| .br 17 (decide ((c.l.length : Int) < 1)) (fun q2 => have p2 := decT q2; .r 1 <| .fin (x := aB false) (r := aB (dP (chainP last c))) [] trivial (by
    refine sF (fun h => ?_)
    obtain ⟨g1, ⟨g2, _⟩, g3⟩ := h
    omega))
 <| fun q2 => have p2 := decF q2; .r 1 <| let L1 : Lp (Nat) := ⟨fun a1 => ⟨[(1, aI last), (2, .ptr 2 b1 0), (5, aI (a1 : Int))], [(2, .box b1 53 [aI c.ino, .sl 7 false (c.l.map verA)])]⟩, fun a1 => c.l.length - a1, fun a1 => a1 ≤ c.l.length ∧ AllTo (stepP Ver.stamp last c.l) c.l a1 ∧ AllTo (fun _ v => verP c.ino v) c.l a1⟩
 .loop L1 0 (show 0 ≤ c.l.length ∧ AllTo (stepP Ver.stamp last c.l) c.l 0 ∧ AllTo (fun _ v => verP c.ino v) c.l 0 from ⟨Nat.zero_le _, AllTo.zero _ _, AllTo.zero _ _⟩) ⟨[(1, aI last), (2, .ptr 2 b1 0), (5, aI 0)], [(2, .box b1 53 [aI c.ino, .sl 7 false (c.l.map verA)])]⟩ ⟨Sub.refl _, Sub.refl _, Sub.of_eq (congrArg aI (by first | omega | rfl)), trivial⟩ ⟨⟨_, rfl, SubB.refl _⟩, trivial⟩ fun a1 ha1 =>
 (fun (k : Nat) (hH1 : k ≤ c.l.length ∧ AllTo (stepP Ver.stamp last c.l) c.l k ∧ AllTo (fun _ v => verP c.ino v) c.l k) => .run 4 [b1 = b1] ⟨rfl, trivial⟩ <|
 .val 21 (show (aI ((c.l.map verA).length : Int) : AV) = aI (c.l.length : Int) from by rw [List.length_map]) <| .r 1 <| .br 22 (decide ((k : Int) < (c.l.length : Int))) (fun q3 => have p3 := decT q3; .run 3 [b1 = b1] ⟨rfl, trivial⟩ <|
 .idxM c.l verA k (m := (k : Int)) rfl (by omega) fun x1 hx1 =>
 have okx1 := okc.2.2 x1 (List.mem_of_getElem? hx1); .r 1 <| .new fun b2 => .run 1 [b2 = b2] ⟨rfl, trivial⟩ <|
 .run 2 [b2 = b2] ⟨rfl, trivial⟩ <|
 .call (rnright_spec x1.n (okx1).2) <|
 .r 1 <| .br 33 (dP (nodP x1.n)) (fun q4 => have p4 := booT q4; .run 8 [b2 = b2, b1 = b1] ⟨rfl, rfl, trivial⟩ <|
 .run 3 [b2 = b2] ⟨rfl, trivial⟩ <|
 .callS (args0 := [.agg [aI x1.n.ino, aI x1.n.kind, aI x1.n.links, aS x1.n.text, .sl 2 false (x1.n.l.map entA)], .agg [aI 0, aI 0, aI 0, aS ([]), aN]]) (args := [.agg [aI x1.n.ino, aI x1.n.kind, aI x1.n.links, aS x1.n.text, .sl 2 false (x1.n.l.map entA)], .agg (nodA nod0)]) ⟨Sub.refl _, Sub.aggs ⟨Sub.refl _, Sub.refl _, Sub.refl _, Sub.refl _, Sub.nil _ _, trivial⟩, trivial⟩ (rnsame_spec x1.n nod0 (okx1).2 nod0_ok) <|
 .r 1 <| .ord [0, 1, 2, 3, 4, 5, 6, 7, 8, 9, 10, 11, 12, 13, 14, 15, 16, 17, 18, 19, 20, 21, 22, 23, 24, 25, 26, 27, 28, 29, 30, 31, 32, 33, 34, 35, 36, 37, 38, 39, 40, 41] <| .run 4 [b2 = b2] ⟨rfl, trivial⟩ <|
 .br 48 (decide (x1.stamp < 1)) (fun q5 => have p5 := decT q5; .r 38 <| .r 1 <| .fin (x := aB false) (r := aB (dP (chainP last c))) [] trivial (by
    refine sF (fun h => ?_)
    obtain ⟨g1, g2, g3⟩ := h.2.1.2.at hx1
    obtain ⟨g4, g5⟩ := h.2.2.at hx1
    first | omega | (simp_all [dP_false]; done) | (simp_all [dP_false]; omega)))
 <| fun q5 => have p5 := decF q5; .run 6 [b2 = b2] ⟨rfl, trivial⟩ <|
 .br 54 (decide (x1.stamp > last)) (fun q6 => have p6 := decT q6; .r 32 <| .r 1 <| .fin (x := aB false) (r := aB (dP (chainP last c))) [] trivial (by
    refine sF (fun h => ?_)
    obtain ⟨g1, g2, g3⟩ := h.2.1.2.at hx1
    obtain ⟨g4, g5⟩ := h.2.2.at hx1
    first | omega | (simp_all [dP_false]; done) | (simp_all [dP_false]; omega)))
 <| fun q6 => have p6 := decF q6; .r 3 <| .br 57 (decide ((k : Int) > 0)) (fun q7 => have p7 := decT q7; .run 4 [b1 = b1, rng .i64 ((k : Int) - 1)] ⟨rfl, rng64 (by omega) (by omega), trivial⟩ <|
 .idxM c.l verA (k - 1) (m := (k : Int) - 1) (by omega) (by omega) fun x2 hx2 =>
 have okx2 := okc.2.2 x2 (List.mem_of_getElem? hx2); .run 8 [b2 = b2] ⟨rfl, trivial⟩ <|
 .br 70 (decide (x2.stamp ≥ x1.stamp)) (fun q8 => have p8 := decT q8; .r 16 <| .r 1 <| .fin (x := aB false) (r := aB (dP (chainP last c))) [] trivial (by
    refine sF (fun h => ?_)
    obtain ⟨g1, g2, g3⟩ := h.2.1.2.at hx1
    obtain ⟨g4, g5⟩ := h.2.2.at hx1
    first | omega | (have := g3 _ (by omega) hx2; omega) | (simp_all [dP_false]; done) | (simp_all [dP_false]; omega)))
 <| fun q8 => have p8 := decF q8; .run 3 [b2 = b2] ⟨rfl, trivial⟩ <|
 .br 73 (x1.gone) (fun q9 => have p9 := booT q9; .r 5 <| .br 78 (!(dP (x1.n = nod0))) (fun q10 => have q10 := notT q10; have p10 := booF q10; .r 8 <| .r 1 <| .fin (x := aB false) (r := aB (dP (chainP last c))) [] trivial (by
    refine sF (fun h => ?_)
    obtain ⟨g1, g2, g3⟩ := h.2.1.2.at hx1
    obtain ⟨g4, g5⟩ := h.2.2.at hx1
    first | omega | (have := g3 _ (by omega) hx2; omega) | (simp_all [dP_false]; done) | (simp_all [dP_false]; omega)))
 <| fun q10 => have q10 := notF q10; have p10 := booT q10; .run 4 [b2 = b2] ⟨rfl, trivial⟩ <|
 .is 82 (show (!x1.gone) = false from by rw [q9]; rfl) <| .r 4 <| .run 3 [rng .i64 ((k : Int) + 1)] ⟨rng64 (by omega) (by omega), trivial⟩ <|
 .back L1 k (k + 1) (show (k + 1) ≤ c.l.length ∧ AllTo (stepP Ver.stamp last c.l) c.l (k + 1) ∧ AllTo (fun _ v => verP c.ino v) c.l (k + 1) from ⟨by omega, hH1.2.1.step hx1 ⟨by omega, by omega, by intro d h0 hd; first | omega | (rw [hd] at hx2; obtain rfl := Option.some.inj hx2; omega)⟩, hH1.2.2.step hx1 (by first | exact verP_of (by simp_all [dP_true, dP_false]) (by simp_all [dP_true, dP_false]) | skip)⟩) (show c.l.length - (k + 1) < c.l.length - k from (by omega)) ⟨[(1, aI last), (2, .ptr 2 b1 0), (5, aI ((k : Int) + 1))], [(2, .box b1 53 [aI c.ino, .sl 7 false (c.l.map verA)])]⟩ ⟨Sub.refl _, Sub.refl _, Sub.of_eq (congrArg aI (by first | omega | rfl)), trivial⟩ ⟨⟨_, rfl, SubB.refl _⟩, trivial⟩)
 <| fun q9 => have p9 := booF q9; .run 9 [b2 = b2] ⟨rfl, trivial⟩ <|
 .is 82 (show (!x1.gone) = true from by rw [q9]; rfl) <| .r 4 <| .br 86 (!(x1.n.ino == c.ino)) (fun q11 => have q11 := notT q11; have p11 := beqF q11; .r 1 <| .fin (x := aB false) (r := aB (dP (chainP last c))) [] trivial (by
    refine sF (fun h => ?_)
    obtain ⟨g1, g2, g3⟩ := h.2.1.2.at hx1
    obtain ⟨g4, g5⟩ := h.2.2.at hx1
    first | omega | (have := g3 _ (by omega) hx2; omega) | (simp_all [dP_false]; done) | (simp_all [dP_false]; omega)))
 <| fun q11 => have q11 := notF q11; have p11 := beqT q11; .run 3 [rng .i64 ((k : Int) + 1)] ⟨rng64 (by omega) (by omega), trivial⟩ <|
 .back L1 k (k + 1) (show (k + 1) ≤ c.l.length ∧ AllTo (stepP Ver.stamp last c.l) c.l (k + 1) ∧ AllTo (fun _ v => verP c.ino v) c.l (k + 1) from ⟨by omega, hH1.2.1.step hx1 ⟨by omega, by omega, by intro d h0 hd; first | omega | (rw [hd] at hx2; obtain rfl := Option.some.inj hx2; omega)⟩, hH1.2.2.step hx1 (by first | exact verP_of (by simp_all [dP_true, dP_false]) (by simp_all [dP_true, dP_false]) | skip)⟩) (show c.l.length - (k + 1) < c.l.length - k from (by omega)) ⟨[(1, aI last), (2, .ptr 2 b1 0), (5, aI ((k : Int) + 1))], [(2, .box b1 53 [aI c.ino, .sl 7 false (c.l.map verA)])]⟩ ⟨Sub.refl _, Sub.refl _, Sub.of_eq (congrArg aI (by first | omega | rfl)), trivial⟩ ⟨⟨_, rfl, SubB.refl _⟩, trivial⟩)
 <| fun q7 => have p7 := decF q7; .run 16 [b2 = b2] ⟨rfl, trivial⟩ <|
 .br 73 (x1.gone) (fun q12 => have p12 := booT q12; .r 5 <| .br 78 (!(dP (x1.n = nod0))) (fun q13 => have q13 := notT q13; have p13 := booF q13; .r 8 <| .r 1 <| .fin (x := aB false) (r := aB (dP (chainP last c))) [] trivial (by
    refine sF (fun h => ?_)
    obtain ⟨g1, g2, g3⟩ := h.2.1.2.at hx1
    obtain ⟨g4, g5⟩ := h.2.2.at hx1
    first | omega | (simp_all [dP_false]; done) | (simp_all [dP_false]; omega)))
 <| fun q13 => have q13 := notF q13; have p13 := booT q13; .run 4 [b2 = b2] ⟨rfl, trivial⟩ <|
 .is 82 (show (!x1.gone) = false from by rw [q12]; rfl) <| .r 4 <| .run 3 [rng .i64 ((k : Int) + 1)] ⟨rng64 (by omega) (by omega), trivial⟩ <|
 .back L1 k (k + 1) (show (k + 1) ≤ c.l.length ∧ AllTo (stepP Ver.stamp last c.l) c.l (k + 1) ∧ AllTo (fun _ v => verP c.ino v) c.l (k + 1) from ⟨by omega, hH1.2.1.step hx1 ⟨by omega, by omega, by intro d h0 hd; omega⟩, hH1.2.2.step hx1 (by first | exact verP_of (by simp_all [dP_true, dP_false]) (by simp_all [dP_true, dP_false]) | skip)⟩) (show c.l.length - (k + 1) < c.l.length - k from (by omega)) ⟨[(1, aI last), (2, .ptr 2 b1 0), (5, aI ((k : Int) + 1))], [(2, .box b1 53 [aI c.ino, .sl 7 false (c.l.map verA)])]⟩ ⟨Sub.refl _, Sub.refl _, Sub.of_eq (congrArg aI (by first | omega | rfl)), trivial⟩ ⟨⟨_, rfl, SubB.refl _⟩, trivial⟩)
 <| fun q12 => have p12 := booF q12; .run 9 [b2 = b2] ⟨rfl, trivial⟩ <|
 .is 82 (show (!x1.gone) = true from by rw [q12]; rfl) <| .r 4 <| .br 86 (!(x1.n.ino == c.ino)) (fun q14 => have q14 := notT q14; have p14 := beqF q14; .r 1 <| .fin (x := aB false) (r := aB (dP (chainP last c))) [] trivial (by
    refine sF (fun h => ?_)
    obtain ⟨g1, g2, g3⟩ := h.2.1.2.at hx1
    obtain ⟨g4, g5⟩ := h.2.2.at hx1
    first | omega | (simp_all [dP_false]; done) | (simp_all [dP_false]; omega)))
 <| fun q14 => have q14 := notF q14; have p14 := beqT q14; .run 3 [rng .i64 ((k : Int) + 1)] ⟨rng64 (by omega) (by omega), trivial⟩ <|
 .back L1 k (k + 1) (show (k + 1) ≤ c.l.length ∧ AllTo (stepP Ver.stamp last c.l) c.l (k + 1) ∧ AllTo (fun _ v => verP c.ino v) c.l (k + 1) from ⟨by omega, hH1.2.1.step hx1 ⟨by omega, by omega, by intro d h0 hd; omega⟩, hH1.2.2.step hx1 (by first | exact verP_of (by simp_all [dP_true, dP_false]) (by simp_all [dP_true, dP_false]) | skip)⟩) (show c.l.length - (k + 1) < c.l.length - k from (by omega)) ⟨[(1, aI last), (2, .ptr 2 b1 0), (5, aI ((k : Int) + 1))], [(2, .box b1 53 [aI c.ino, .sl 7 false (c.l.map verA)])]⟩ ⟨Sub.refl _, Sub.refl _, Sub.of_eq (congrArg aI (by first | omega | rfl)), trivial⟩ ⟨⟨_, rfl, SubB.refl _⟩, trivial⟩)
 <| fun q4 => have p4 := booF q4; .r 8 <| .run 3 [b2 = b2] ⟨rfl, trivial⟩ <|
 .callS (args0 := [.agg [aI x1.n.ino, aI x1.n.kind, aI x1.n.links, aS x1.n.text, .sl 2 false (x1.n.l.map entA)], .agg [aI 0, aI 0, aI 0, aS ([]), aN]]) (args := [.agg [aI x1.n.ino, aI x1.n.kind, aI x1.n.links, aS x1.n.text, .sl 2 false (x1.n.l.map entA)], .agg (nodA nod0)]) ⟨Sub.refl _, Sub.aggs ⟨Sub.refl _, Sub.refl _, Sub.refl _, Sub.refl _, Sub.nil _ _, trivial⟩, trivial⟩ (rnsame_spec x1.n nod0 (okx1).2 nod0_ok) <|
 .r 1 <| .ord [0, 1, 2, 3, 4, 5, 6, 7, 8, 9, 10, 11, 12, 13, 14, 15, 16, 17, 18, 19, 20, 21, 22, 23, 24, 25, 26, 27, 28, 29, 30, 31, 32, 33, 34, 35, 36, 37, 38, 39, 40, 41] <| .run 4 [b2 = b2] ⟨rfl, trivial⟩ <|
 .br 48 (decide (x1.stamp < 1)) (fun q15 => have p15 := decT q15; .r 38 <| .r 1 <| .fin (x := aB false) (r := aB (dP (chainP last c))) [] trivial (by
    refine sF (fun h => ?_)
    obtain ⟨g1, g2, g3⟩ := h.2.1.2.at hx1
    obtain ⟨g4, g5⟩ := h.2.2.at hx1
    first | omega | (simp_all [dP_false]; done) | (simp_all [dP_false]; omega)))
 <| fun q15 => have p15 := decF q15; .run 6 [b2 = b2] ⟨rfl, trivial⟩ <|
 .br 54 (decide (x1.stamp > last)) (fun q16 => have p16 := decT q16; .r 32 <| .r 1 <| .fin (x := aB false) (r := aB (dP (chainP last c))) [] trivial (by
    refine sF (fun h => ?_)
    obtain ⟨g1, g2, g3⟩ := h.2.1.2.at hx1
    obtain ⟨g4, g5⟩ := h.2.2.at hx1
    first | omega | (simp_all [dP_false]; done) | (simp_all [dP_false]; omega)))
 <| fun q16 => have p16 := decF q16; .r 3 <| .br 57 (decide ((k : Int) > 0)) (fun q17 => have p17 := decT q17; .run 4 [b1 = b1, rng .i64 ((k : Int) - 1)] ⟨rfl, rng64 (by omega) (by omega), trivial⟩ <|
 .idxM c.l verA (k - 1) (m := (k : Int) - 1) (by omega) (by omega) fun x3 hx3 =>
 have okx3 := okc.2.2 x3 (List.mem_of_getElem? hx3); .run 8 [b2 = b2] ⟨rfl, trivial⟩ <|
 .br 70 (decide (x3.stamp ≥ x1.stamp)) (fun q18 => have p18 := decT q18; .r 16 <| .r 1 <| .fin (x := aB false) (r := aB (dP (chainP last c))) [] trivial (by
    refine sF (fun h => ?_)
    obtain ⟨g1, g2, g3⟩ := h.2.1.2.at hx1
    obtain ⟨g4, g5⟩ := h.2.2.at hx1
    first | omega | (have := g3 _ (by omega) hx3; omega) | (simp_all [dP_false]; done) | (simp_all [dP_false]; omega)))
 <| fun q18 => have p18 := decF q18; .run 3 [b2 = b2] ⟨rfl, trivial⟩ <|
 .br 73 (x1.gone) (fun q19 => have p19 := booT q19; .r 5 <| .br 78 (!(dP (x1.n = nod0))) (fun q20 => have q20 := notT q20; have p20 := booF q20; .r 8 <| .r 1 <| .fin (x := aB false) (r := aB (dP (chainP last c))) [] trivial (by
    refine sF (fun h => ?_)
    obtain ⟨g1, g2, g3⟩ := h.2.1.2.at hx1
    obtain ⟨g4, g5⟩ := h.2.2.at hx1
    first | omega | (have := g3 _ (by omega) hx3; omega) | (simp_all [dP_false]; done) | (simp_all [dP_false]; omega)))
 <| fun q20 => have q20 := notF q20; have p20 := booT q20; .run 4 [b2 = b2] ⟨rfl, trivial⟩ <|
 .is 82 (show (!x1.gone) = false from by rw [q19]; rfl) <| .r 4 <| .run 3 [rng .i64 ((k : Int) + 1)] ⟨rng64 (by omega) (by omega), trivial⟩ <|
 .back L1 k (k + 1) (show (k + 1) ≤ c.l.length ∧ AllTo (stepP Ver.stamp last c.l) c.l (k + 1) ∧ AllTo (fun _ v => verP c.ino v) c.l (k + 1) from ⟨by omega, hH1.2.1.step hx1 ⟨by omega, by omega, by intro d h0 hd; first | omega | (rw [hd] at hx3; obtain rfl := Option.some.inj hx3; omega)⟩, hH1.2.2.step hx1 (by first | exact verP_of (by simp_all [dP_true, dP_false]) (by simp_all [dP_true, dP_false]) | skip)⟩) (show c.l.length - (k + 1) < c.l.length - k from (by omega)) ⟨[(1, aI last), (2, .ptr 2 b1 0), (5, aI ((k : Int) + 1))], [(2, .box b1 53 [aI c.ino, .sl 7 false (c.l.map verA)])]⟩ ⟨Sub.refl _, Sub.refl _, Sub.of_eq (congrArg aI (by first | omega | rfl)), trivial⟩ ⟨⟨_, rfl, SubB.refl _⟩, trivial⟩)
 <| fun q19 => have p19 := booF q19; .run 9 [b2 = b2] ⟨rfl, trivial⟩ <|
 .is 82 (show (!x1.gone) = true from by rw [q19]; rfl) <| .r 4 <| .r 1 <| .fin (x := aB false) (r := aB (dP (chainP last c))) [] trivial (by
    refine sF (fun h => ?_)
    obtain ⟨g1, g2, g3⟩ := h.2.1.2.at hx1
    obtain ⟨g4, g5⟩ := h.2.2.at hx1
    first | omega | (have := g3 _ (by omega) hx3; omega) | (simp_all [dP_false]; done) | (simp_all [dP_false]; omega)))
 <| fun q17 => have p17 := decF q17; .run 16 [b2 = b2] ⟨rfl, trivial⟩ <|
 .br 73 (x1.gone) (fun q21 => have p21 := booT q21; .r 5 <| .br 78 (!(dP (x1.n = nod0))) (fun q22 => have q22 := notT q22; have p22 := booF q22; .r 8 <| .r 1 <| .fin (x := aB false) (r := aB (dP (chainP last c))) [] trivial (by
    refine sF (fun h => ?_)
    obtain ⟨g1, g2, g3⟩ := h.2.1.2.at hx1
    obtain ⟨g4, g5⟩ := h.2.2.at hx1
    first | omega | (simp_all [dP_false]; done) | (simp_all [dP_false]; omega)))
 <| fun q22 => have q22 := notF q22; have p22 := booT q22; .run 4 [b2 = b2] ⟨rfl, trivial⟩ <|
 .is 82 (show (!x1.gone) = false from by rw [q21]; rfl) <| .r 4 <| .run 3 [rng .i64 ((k : Int) + 1)] ⟨rng64 (by omega) (by omega), trivial⟩ <|
 .back L1 k (k + 1) (show (k + 1) ≤ c.l.length ∧ AllTo (stepP Ver.stamp last c.l) c.l (k + 1) ∧ AllTo (fun _ v => verP c.ino v) c.l (k + 1) from ⟨by omega, hH1.2.1.step hx1 ⟨by omega, by omega, by intro d h0 hd; omega⟩, hH1.2.2.step hx1 (by first | exact verP_of (by simp_all [dP_true, dP_false]) (by simp_all [dP_true, dP_false]) | skip)⟩) (show c.l.length - (k + 1) < c.l.length - k from (by omega)) ⟨[(1, aI last), (2, .ptr 2 b1 0), (5, aI ((k : Int) + 1))], [(2, .box b1 53 [aI c.ino, .sl 7 false (c.l.map verA)])]⟩ ⟨Sub.refl _, Sub.refl _, Sub.of_eq (congrArg aI (by first | omega | rfl)), trivial⟩ ⟨⟨_, rfl, SubB.refl _⟩, trivial⟩)
 <| fun q21 => have p21 := booF q21; .run 9 [b2 = b2] ⟨rfl, trivial⟩ <|
 .is 82 (show (!x1.gone) = true from by rw [q21]; rfl) <| .r 4 <| .r 1 <| .fin (x := aB false) (r := aB (dP (chainP last c))) [] trivial (by
    refine sF (fun h => ?_)
    obtain ⟨g1, g2, g3⟩ := h.2.1.2.at hx1
    obtain ⟨g4, g5⟩ := h.2.2.at hx1
    first | omega | (simp_all [dP_false]; done) | (simp_all [dP_false]; omega)))
 <| fun q3 => have p3 := decF q3; .r 1 <| .fin (x := aB true) (r := aB (dP (chainP last c))) [] trivial (by refine sT ⟨by omega, ⟨by omega, hH1.2.1.full (by omega)⟩, hH1.2.2.full (by omega)⟩)) a1 ha1) Try.func28 rfl (by kernel_rfl) (by kernel_rfl)
end Go.Proofs.Ytibcmgmlklehdaa
