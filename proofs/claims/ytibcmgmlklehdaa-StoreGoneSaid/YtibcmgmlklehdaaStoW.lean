/- Views; what changed since; how many: both sides. -/
import Derived.Test.YtibcmgmlklehdaaStoV
set_option linter.unusedVariables false
set_option linter.unusedSimpArgs false
namespace Go.Proofs.Ytibcmgmlklehdaa
open Go Go.RowKit Copyhold
set_option maxRecDepth 100000 in
set_option maxHeartbeats 4000000 in
theorem view_spec (s : Sto) (st : Int) (oks : OkS s) (hf : s.l.length ≤ 100000) : FSpec Try.prog 13 [.agg [.sl 2 false (s.l.map chnA), .sl 2 false (s.nexts.map cntA), aI s.stamp], aI st] (.agg (fsyA (viewD s st))) := by
  have hb1 := oks.2.1
  have hb2 := oks.2.2.1
  exact spec_vc (F := Try.f13) 400 (
 .new fun b1 => .new fun b2 => .call (stamps_spec) <|
 .r 5 <| .r 1 <| .new fun b3 => .run 1 [b3 = b3] ⟨rfl, trivial⟩ <|
 .rowNilB 100 7 0 43 5 <| .run 3 [b1 = b1] ⟨rfl, trivial⟩ <|
 .val 19 (show (aI ((s.l.map chnA).length : Int) : AV) = aI (s.l.length : Int) from by rw [List.length_map]) <| .r 1 <| let L1 : Lp (Nat × Value) := ⟨fun a1 => ⟨[(1, aI st), (2, .ptr 2 b1 0), (4, .ptr 4 b2 0), (5, .val (.func (.func 60) #[] #[])), (6, .val (.func (.func 61) #[] #[])), (7, .ptr 7 b3 0), (18, .sl 2 false (s.l.map chnA)), (19, aI (s.l.length : Int)), (20, aI (a1.1 : Int))], [(2, .box b1 25 [.sl 2 false (s.l.map chnA), .sl 2 false (s.nexts.map cntA), aI s.stamp]), (4, .box b2 31 [aN, aI 0]), (7, .box b3 31 [.rw 100 a1.2 (((seenL s st a1.1).map nodA).length), aI 1]), (100, .row a1.2 43 5 ((seenL s st a1.1).map nodA))]⟩, fun a1 => s.l.length - a1.1, fun a1 => a1.1 ≤ s.l.length⟩
 .loop L1 (0, .slice none 0 0) (show 0 ≤ s.l.length from Nat.zero_le _) ⟨[(1, aI st), (2, .ptr 2 b1 0), (4, .ptr 4 b2 0), (5, .val (.func (.func 60) #[] #[])), (6, .val (.func (.func 61) #[] #[])), (7, .ptr 7 b3 0), (18, .sl 2 false (s.l.map chnA)), (19, aI (s.l.length : Int)), (20, aI 0)], [(2, .box b1 25 [.sl 2 false (s.l.map chnA), .sl 2 false (s.nexts.map cntA), aI s.stamp]), (4, .box b2 31 [aN, aI 0]), (7, .box b3 31 [.rw 100 (.slice none 0 0) 0, aI 1]), (100, .row (.slice none 0 0) 43 5 ([]))]⟩ ⟨Sub.refl _, Sub.refl _, Sub.refl _, Sub.refl _, Sub.refl _, Sub.refl _, Sub.refl _, Sub.refl _, Sub.of_eq (congrArg aI (by first | omega | rfl)), trivial⟩ ⟨⟨_, rfl, SubB.refl _⟩, ⟨_, rfl, SubB.refl _⟩, ⟨_, rfl, SubB.boxs ⟨Sub.refl _, Sub.refl _, trivial⟩⟩, ⟨_, rfl, SubB.refl _⟩, trivial⟩ fun a1 ha1 =>
 (fun (k : Nat) (V : Value) (hH1 : k ≤ s.l.length) => .r 1 <| .br 21 (decide ((k : Int) < (s.l.length : Int))) (fun q1 => have p1 := decT q1; .idxM s.l chnA k (m := (k : Int)) rfl (by omega) fun x1 hx1 =>
 have okx1 := oks.2.2.2.1 x1 (List.mem_of_getElem? hx1); have blx1 := okx1.2.1; .r 1 <| .new fun b4 => .run 1 [b4 = b4] ⟨rfl, trivial⟩ <|
 .run 4 [b4 = b4] ⟨rfl, trivial⟩ <|
 .call (seenVer_spec x1.l st (by omega)) <|
 .r 1 <| .r 3 <| .br 31 (decide (((cutD Ver.stamp st x1.l : Int) - 1) ≥ 0)) (fun q2 => have p2 := decT q2; .run 3 [b4 = b4] ⟨rfl, trivial⟩ <|
 .idxM x1.l verA (cutD Ver.stamp st x1.l - 1) (m := (cutD Ver.stamp st x1.l : Int) - 1) (by omega) (by have := cut_le Ver.stamp st x1.l; omega) fun x2 hx2 =>
 have okx2 := okx1.2.2 x2 (List.mem_of_getElem? hx2); .r 4 <| .br 39 (!x2.gone) (fun q3 => have q3 := notT q3; have p3 := booF q3; .ord [0, 1, 2, 3, 4, 5, 6, 7, 8, 9, 10, 11] <| .run 5 [b3 = b3, b4 = b4] ⟨rfl, rfl, trivial⟩ <|
 .idx (cutD Ver.stamp st x1.l - 1) (m := (cutD Ver.stamp st x1.l : Int) - 1) (xs := x1.l.map verA) (e := verA x2) (by omega) (map_some hx2) <|
 .r 3 <| .app 64 V ((seenL s st k).map nodA) ([[aI x2.n.ino, aI x2.n.kind, aI x2.n.links, aS x2.n.text, .sl 2 false (x2.n.l.map entA)]]) (by have := seenL_le s st k; simp only [List.length_map, List.length_cons, List.length_nil]; omega) (by have := seenL_le s st k; simp only [List.length_map, List.length_cons, List.length_nil]; omega) fun V1 =>
 .run 2 [b3 = b3] ⟨rfl, trivial⟩ <|
 .run 2 [rng .i64 ((k : Int) + 1)] ⟨rng64 (by omega) (by omega), trivial⟩ <|
 .back L1 (k, V) ((k + 1), V1) (show (k + 1) ≤ s.l.length from (by show _ ≤ _; omega)) (show s.l.length - (k + 1) < s.l.length - k from (by omega)) ⟨[(1, aI st), (2, .ptr 2 b1 0), (4, .ptr 4 b2 0), (5, .val (.func (.func 60) #[] #[])), (6, .val (.func (.func 61) #[] #[])), (7, .ptr 7 b3 0), (18, .sl 2 false (s.l.map chnA)), (19, aI (s.l.length : Int)), (20, aI ((k : Int) + 1))], [(2, .box b1 25 [.sl 2 false (s.l.map chnA), .sl 2 false (s.nexts.map cntA), aI s.stamp]), (4, .box b2 31 [aN, aI 0]), (7, .box b3 31 [.rw 100 V1 (((seenL s st k).map nodA).length + ([[aI x2.n.ino, aI x2.n.kind, aI x2.n.links, aS x2.n.text, .sl 2 false (x2.n.l.map entA)]] : List (List AV)).length), aI 1]), (100, .row V1 43 5 (((seenL s st k).map nodA) ++ ([[aI x2.n.ino, aI x2.n.kind, aI x2.n.links, aS x2.n.text, .sl 2 false (x2.n.l.map entA)]])))]⟩ ⟨Sub.refl _, Sub.refl _, Sub.refl _, Sub.refl _, Sub.refl _, Sub.refl _, Sub.refl _, Sub.refl _, Sub.of_eq (congrArg aI (by first | omega | rfl)), trivial⟩ ⟨⟨_, rfl, SubB.refl _⟩, ⟨_, rfl, SubB.refl _⟩, ⟨_, rfl, SubB.boxs ⟨Sub.of_eq (by rw [seenL_yes hx1 (show viewC st x1 = some x2.n from by rw [viewC_of (by omega) hx2, q3]; rfl)]; simp), Sub.refl _, trivial⟩⟩, ⟨_, rfl, SubB.of_eq (by rw [seenL_yes hx1 (show viewC st x1 = some x2.n from by rw [viewC_of (by omega) hx2, q3]; rfl)]; simp [nodA])⟩, trivial⟩)
 <| fun q3 => have q3 := notF q3; have p3 := booT q3; .run 2 [rng .i64 ((k : Int) + 1)] ⟨rng64 (by omega) (by omega), trivial⟩ <|
 .back L1 (k, V) ((k + 1), V) (show (k + 1) ≤ s.l.length from (by show _ ≤ _; omega)) (show s.l.length - (k + 1) < s.l.length - k from (by omega)) ⟨[(1, aI st), (2, .ptr 2 b1 0), (4, .ptr 4 b2 0), (5, .val (.func (.func 60) #[] #[])), (6, .val (.func (.func 61) #[] #[])), (7, .ptr 7 b3 0), (18, .sl 2 false (s.l.map chnA)), (19, aI (s.l.length : Int)), (20, aI ((k : Int) + 1))], [(2, .box b1 25 [.sl 2 false (s.l.map chnA), .sl 2 false (s.nexts.map cntA), aI s.stamp]), (4, .box b2 31 [aN, aI 0]), (7, .box b3 31 [.rw 100 V (((seenL s st k).map nodA).length), aI 1]), (100, .row V 43 5 ((seenL s st k).map nodA))]⟩ ⟨Sub.refl _, Sub.refl _, Sub.refl _, Sub.refl _, Sub.refl _, Sub.refl _, Sub.refl _, Sub.refl _, Sub.of_eq (congrArg aI (by first | omega | rfl)), trivial⟩ ⟨⟨_, rfl, SubB.refl _⟩, ⟨_, rfl, SubB.refl _⟩, ⟨_, rfl, SubB.boxs ⟨Sub.of_eq (by rw [seenL_no hx1 (show viewC st x1 = none from by rw [viewC_of (by omega) hx2, q3]; rfl)]), Sub.refl _, trivial⟩⟩, ⟨_, rfl, SubB.of_eq (by rw [seenL_no hx1 (show viewC st x1 = none from by rw [viewC_of (by omega) hx2, q3]; rfl)])⟩, trivial⟩)
 <| fun q2 => have p2 := decF q2; .r 8 <| .run 2 [rng .i64 ((k : Int) + 1)] ⟨rng64 (by omega) (by omega), trivial⟩ <|
 .back L1 (k, V) ((k + 1), V) (show (k + 1) ≤ s.l.length from (by show _ ≤ _; omega)) (show s.l.length - (k + 1) < s.l.length - k from (by omega)) ⟨[(1, aI st), (2, .ptr 2 b1 0), (4, .ptr 4 b2 0), (5, .val (.func (.func 60) #[] #[])), (6, .val (.func (.func 61) #[] #[])), (7, .ptr 7 b3 0), (18, .sl 2 false (s.l.map chnA)), (19, aI (s.l.length : Int)), (20, aI ((k : Int) + 1))], [(2, .box b1 25 [.sl 2 false (s.l.map chnA), .sl 2 false (s.nexts.map cntA), aI s.stamp]), (4, .box b2 31 [aN, aI 0]), (7, .box b3 31 [.rw 100 V (((seenL s st k).map nodA).length), aI 1]), (100, .row V 43 5 ((seenL s st k).map nodA))]⟩ ⟨Sub.refl _, Sub.refl _, Sub.refl _, Sub.refl _, Sub.refl _, Sub.refl _, Sub.refl _, Sub.refl _, Sub.of_eq (congrArg aI (by first | omega | rfl)), trivial⟩ ⟨⟨_, rfl, SubB.refl _⟩, ⟨_, rfl, SubB.refl _⟩, ⟨_, rfl, SubB.boxs ⟨Sub.of_eq (by rw [seenL_no hx1 (show viewC st x1 = none from viewC_zero (by have := cut_le Ver.stamp st x1.l; omega))]), Sub.refl _, trivial⟩⟩, ⟨_, rfl, SubB.of_eq (by rw [seenL_no hx1 (show viewC st x1 = none from viewC_zero (by have := cut_le Ver.stamp st x1.l; omega))])⟩, trivial⟩)
 <| fun q1 => have p1 := decF q1; .run 4 [b1 = b1] ⟨rfl, trivial⟩ <|
 .call (seenCount_spec s.nexts st (by omega)) <|
 .r 1 <| .r 2 <| .br 58 (decide (((cutD Cnt.stamp st s.nexts : Int) - 1) ≥ 0)) (fun q4 => have p4 := decT q4; .run 3 [b1 = b1] ⟨rfl, trivial⟩ <|
 .idxM s.nexts cntA (cutD Cnt.stamp st s.nexts - 1) (m := (cutD Cnt.stamp st s.nexts : Int) - 1) (by omega) (by have := cut_le Cnt.stamp st s.nexts; omega) fun x3 hx3 =>
 have okx3 := oks.2.2.2.2 x3 (List.mem_of_getElem? hx3); .run 4 [b3 = b3] ⟨rfl, trivial⟩ <|
 .run 2 [b3 = b3, b2 = b2] ⟨rfl, rfl, trivial⟩ <|
 .frz 100 [4] [4] [V = V, ((seenL s st k).map nodA).length = ((seenL s st k).map nodA).length] ⟨rfl, (by first | rfl | (simp; done) | (simp; omega)), trivial⟩ <|
 .fin (x := .agg [.sl 5 false ((seenL s st k).map nodA), aI x3.next]) (r := .agg (fsyA (viewD s st))) [b2 = b2] ⟨rfl, trivial⟩ (by exact Sub.aggs ⟨Sub.of_eq (by rw [seenL_all (by omega)]; rfl), Sub.of_eq (congrArg aI (nextD_of (by omega) hx3).symm), trivial⟩))
 <| fun q4 => have p4 := decF q4; .run 2 [b3 = b3, b2 = b2] ⟨rfl, rfl, trivial⟩ <|
 .frz 100 [4] [4] [V = V, ((seenL s st k).map nodA).length = ((seenL s st k).map nodA).length] ⟨rfl, (by first | rfl | (simp; done) | (simp; omega)), trivial⟩ <|
 .fin (x := .agg [.sl 5 false ((seenL s st k).map nodA), aI 1]) (r := .agg (fsyA (viewD s st))) [b2 = b2] ⟨rfl, trivial⟩ (by exact Sub.aggs ⟨Sub.of_eq (by rw [seenL_all (by omega)]; rfl), Sub.of_eq (congrArg aI (nextD_zero (by have := cut_le Cnt.stamp st s.nexts; omega)).symm), trivial⟩)) a1.1 a1.2 ha1) Try.func13 rfl (by kernel_rfl) (by kernel_rfl)
set_option maxRecDepth 100000 in
set_option maxHeartbeats 4000000 in
theorem snc1_spec (x : Ver) (st : Int) : FSpec Try.prog 39 [.agg [aI x.stamp, aB x.gone, aI x.n.ino, aI x.n.kind, aI x.n.links, aS x.n.text, .sl 2 false (x.n.l.map entA)], .dptr [aI st]] (aB (decide (x.stamp > st))) := by
  exact spec_vc (F := Try.f39) 400 (
 .new fun b1 => .r 1 <| .run 5 [b1 = b1] ⟨rfl, trivial⟩ <|
 .fin (x := aB (decide (x.stamp > st))) (r := aB (decide (x.stamp > st))) [] trivial (by exact Sub.refl _)) Try.func39 rfl (by kernel_rfl) (by kernel_rfl)
set_option maxRecDepth 100000 in
set_option maxHeartbeats 4000000 in
theorem ixf1_spec (l : List Ver) (st : Int) (hl : l.length ≤ 8796093022207) : FSpec Try.prog 64 [.sl 7 false (l.map verA), .clo 39 [.dptr [aI st]]] (aI (idxF (fun (x : Ver) => decide (x.stamp > st)) l)) := by
  exact spec_vc (F := Try.f64) 400 (
 .r 1 <| .r 2 <| .val 7 (show (aI ((l.map verA).length : Int) : AV) = aI (l.length : Int) from by rw [List.length_map]) <| .r 1 <| let L1 : Lp (Nat) := ⟨fun a1 => ⟨[(0, .sl 7 false (l.map verA)), (1, .clo 39 [.dptr [aI st]]), (7, aI (l.length : Int)), (8, aI (a1 : Int))], []⟩, fun a1 => l.length - a1, fun a1 => a1 ≤ l.length ∧ AllTo (fun _ x => (fun (x : Ver) => decide (x.stamp > st)) x = false) l a1⟩
 .loop L1 0 (show 0 ≤ l.length ∧ AllTo (fun _ x => (fun (x : Ver) => decide (x.stamp > st)) x = false) l 0 from ⟨Nat.zero_le _, AllTo.zero _ _⟩) ⟨[(0, .sl 7 false (l.map verA)), (1, .clo 39 [.dptr [aI st]]), (7, aI (l.length : Int)), (8, aI 0)], []⟩ ⟨Sub.refl _, Sub.refl _, Sub.refl _, Sub.of_eq (congrArg aI (by first | omega | rfl)), trivial⟩ trivial fun a1 ha1 =>
 (fun (k : Nat) (hH1 : k ≤ l.length ∧ AllTo (fun _ x => (fun (x : Ver) => decide (x.stamp > st)) x = false) l k) => .r 1 <| .br 9 (decide ((k : Int) < (l.length : Int))) (fun q1 => have p1 := decT q1; .r 2 <| .r 3 <| .idxM l verA k (m := (k : Int)) rfl (by omega) fun x1 hx1 =>
 .r 1 <| .call (snc1_spec x1 st) <|
 .br 16 (decide (x1.stamp > st)) (fun q2 => have p2 := decT q2; .r 2 <| .fin (x := aI (k : Int)) (r := aI (idxF (fun (x : Ver) => decide (x.stamp > st)) l)) [] trivial (by exact Sub.of_eq (congrArg aI (idxF_at (fun (x : Ver) => decide (x.stamp > st)) l k x1 hH1.2 hx1 (by assumption)).symm)))
 <| fun q2 => have p2 := decF q2; .run 2 [rng .i64 ((k : Int) + 1)] ⟨rng64 (by omega) (by omega), trivial⟩ <|
 .back L1 k (k + 1) (show (k + 1) ≤ l.length ∧ AllTo (fun _ x => (fun (x : Ver) => decide (x.stamp > st)) x = false) l (k + 1) from ⟨by omega, hH1.2.step hx1 (by assumption)⟩) (show l.length - (k + 1) < l.length - k from (by omega)) ⟨[(0, .sl 7 false (l.map verA)), (1, .clo 39 [.dptr [aI st]]), (7, aI (l.length : Int)), (8, aI ((k : Int) + 1))], []⟩ ⟨Sub.refl _, Sub.refl _, Sub.refl _, Sub.of_eq (congrArg aI (by first | omega | rfl)), trivial⟩ trivial)
 <| fun q1 => have p1 := decF q1; .r 1 <| .fin (x := aI (-1)) (r := aI (idxF (fun (x : Ver) => decide (x.stamp > st)) l)) [] trivial (by exact Sub.of_eq (congrArg aI (idxF_none (fun (x : Ver) => decide (x.stamp > st)) l (hH1.2.full (by omega))).symm))) a1 ha1) Try.func64 rfl (by kernel_rfl) (by kernel_rfl)
set_option maxRecDepth 100000 in
set_option maxHeartbeats 4000000 in
theorem cnf1_spec (l : List Ver) (st : Int) (hl : l.length ≤ 8796093022207) : FSpec Try.prog 38 [.sl 7 false (l.map verA), .clo 39 [.dptr [aI st]]] (aB (l.any (fun (x : Ver) => decide (x.stamp > st)))) := by
  exact spec_vc (F := Try.f38) 400 (
 .r 1 <| .r 2 <| .call (ixf1_spec l st (by omega)) <|
 .r 2 <| .fin (x := aB (decide ((idxF (fun (x : Ver) => decide (x.stamp > st)) l) ≥ 0))) (r := aB (l.any (fun (x : Ver) => decide (x.stamp > st)))) [] trivial (by exact Sub.of_eq (congrArg aB (idxF_any (fun (x : Ver) => decide (x.stamp > st)) l)))) Try.func38 rfl (by kernel_rfl) (by kernel_rfl)
set_option maxRecDepth 100000 in
set_option maxHeartbeats 4000000 in
theorem snc2_spec (x : Cnt) (st : Int) : FSpec Try.prog 41 [.agg [aI x.stamp, aI x.next], .dptr [aI st]] (aB (decide (x.stamp > st))) := by
  exact spec_vc (F := Try.f41) 400 (
 .new fun b1 => .r 1 <| .run 5 [b1 = b1] ⟨rfl, trivial⟩ <|
 .fin (x := aB (decide (x.stamp > st))) (r := aB (decide (x.stamp > st))) [] trivial (by exact Sub.refl _)) Try.func41 rfl (by kernel_rfl) (by kernel_rfl)
set_option maxRecDepth 100000 in
set_option maxHeartbeats 4000000 in
theorem ixf2_spec (l : List Cnt) (st : Int) (hl : l.length ≤ 8796093022207) : FSpec Try.prog 65 [.sl 2 false (l.map cntA), .clo 41 [.dptr [aI st]]] (aI (idxF (fun (x : Cnt) => decide (x.stamp > st)) l)) := by
  exact spec_vc (F := Try.f65) 400 (
 .r 1 <| .r 2 <| .val 7 (show (aI ((l.map cntA).length : Int) : AV) = aI (l.length : Int) from by rw [List.length_map]) <| .r 1 <| let L1 : Lp (Nat) := ⟨fun a1 => ⟨[(0, .sl 2 false (l.map cntA)), (1, .clo 41 [.dptr [aI st]]), (7, aI (l.length : Int)), (8, aI (a1 : Int))], []⟩, fun a1 => l.length - a1, fun a1 => a1 ≤ l.length ∧ AllTo (fun _ x => (fun (x : Cnt) => decide (x.stamp > st)) x = false) l a1⟩
 .loop L1 0 (show 0 ≤ l.length ∧ AllTo (fun _ x => (fun (x : Cnt) => decide (x.stamp > st)) x = false) l 0 from ⟨Nat.zero_le _, AllTo.zero _ _⟩) ⟨[(0, .sl 2 false (l.map cntA)), (1, .clo 41 [.dptr [aI st]]), (7, aI (l.length : Int)), (8, aI 0)], []⟩ ⟨Sub.refl _, Sub.refl _, Sub.refl _, Sub.of_eq (congrArg aI (by first | omega | rfl)), trivial⟩ trivial fun a1 ha1 =>
 (fun (k : Nat) (hH1 : k ≤ l.length ∧ AllTo (fun _ x => (fun (x : Cnt) => decide (x.stamp > st)) x = false) l k) => .r 1 <| .br 9 (decide ((k : Int) < (l.length : Int))) (fun q1 => have p1 := decT q1; .r 2 <| .r 3 <| .idxM l cntA k (m := (k : Int)) rfl (by omega) fun x1 hx1 =>
 .r 1 <| .call (snc2_spec x1 st) <|
 .br 16 (decide (x1.stamp > st)) (fun q2 => have p2 := decT q2; .r 2 <| .fin (x := aI (k : Int)) (r := aI (idxF (fun (x : Cnt) => decide (x.stamp > st)) l)) [] trivial (by exact Sub.of_eq (congrArg aI (idxF_at (fun (x : Cnt) => decide (x.stamp > st)) l k x1 hH1.2 hx1 (by assumption)).symm)))
 <| fun q2 => have p2 := decF q2; .run 2 [rng .i64 ((k : Int) + 1)] ⟨rng64 (by omega) (by omega), trivial⟩ <|
 .back L1 k (k + 1) (show (k + 1) ≤ l.length ∧ AllTo (fun _ x => (fun (x : Cnt) => decide (x.stamp > st)) x = false) l (k + 1) from ⟨by omega, hH1.2.step hx1 (by assumption)⟩) (show l.length - (k + 1) < l.length - k from (by omega)) ⟨[(0, .sl 2 false (l.map cntA)), (1, .clo 41 [.dptr [aI st]]), (7, aI (l.length : Int)), (8, aI ((k : Int) + 1))], []⟩ ⟨Sub.refl _, Sub.refl _, Sub.refl _, Sub.of_eq (congrArg aI (by first | omega | rfl)), trivial⟩ trivial)
 <| fun q1 => have p1 := decF q1; .r 1 <| .fin (x := aI (-1)) (r := aI (idxF (fun (x : Cnt) => decide (x.stamp > st)) l)) [] trivial (by exact Sub.of_eq (congrArg aI (idxF_none (fun (x : Cnt) => decide (x.stamp > st)) l (hH1.2.full (by omega))).symm))) a1 ha1) Try.func65 rfl (by kernel_rfl) (by kernel_rfl)
set_option maxRecDepth 100000 in
set_option maxHeartbeats 4000000 in
theorem cnf2_spec (l : List Cnt) (st : Int) (hl : l.length ≤ 8796093022207) : FSpec Try.prog 40 [.sl 2 false (l.map cntA), .clo 41 [.dptr [aI st]]] (aB (l.any (fun (x : Cnt) => decide (x.stamp > st)))) := by
  exact spec_vc (F := Try.f40) 400 (
 .r 1 <| .r 2 <| .call (ixf2_spec l st (by omega)) <|
 .r 2 <| .fin (x := aB (decide ((idxF (fun (x : Cnt) => decide (x.stamp > st)) l) ≥ 0))) (r := aB (l.any (fun (x : Cnt) => decide (x.stamp > st)))) [] trivial (by exact Sub.of_eq (congrArg aB (idxF_any (fun (x : Cnt) => decide (x.stamp > st)) l)))) Try.func40 rfl (by kernel_rfl) (by kernel_rfl)
end Go.Proofs.Ytibcmgmlklehdaa
