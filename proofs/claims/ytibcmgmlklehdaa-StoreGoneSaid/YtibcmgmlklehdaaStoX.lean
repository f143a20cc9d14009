/- What changed since; how many: both sides. -/
import Derived.Test.YtibcmgmlklehdaaStoW
set_option linter.unusedVariables false
set_option linter.unusedSimpArgs false
namespace Go.Proofs.Ytibcmgmlklehdaa
open Go Go.RowKit Copyhold
set_option maxRecDepth 100000 in
set_option maxHeartbeats 4000000 in
theorem since_spec (s : Sto) (st : Int) (oks : OkS s) (hf : s.l.length ≤ 100000) : FSpec Try.prog 16 [.agg [.sl 2 false (s.l.map chnA), .sl 2 false (s.nexts.map cntA), aI s.stamp], aI st] (.sl 1 false ((sinceD s st).map intA)) := by
  have hb1 := oks.2.1
  have hb2 := oks.2.2.1
  exact spec_vc (F := Try.f16) 400 (
 .new fun b1 => .new fun b2 => .r 1 <| .frz 3 [2, 3, 4] [2] [b2 = b2] ⟨rfl, trivial⟩ <|
 .litN fun V1 => .r 1 <| .run 3 [b1 = b1] ⟨rfl, trivial⟩ <|
 .val 11 (show (aI ((s.l.map chnA).length : Int) : AV) = aI (s.l.length : Int) from by rw [List.length_map]) <| .r 1 <| let L1 : Lp (Nat × Value) := ⟨fun a1 => ⟨[(2, .ptr 2 b1 0), (3, .dptr [aI st]), (10, .sl 2 false (s.l.map chnA)), (11, aI (s.l.length : Int)), (5, .rw 8 a1.2 (1 + (laterL s st a1.1).length)), (12, aI (a1.1 : Int))], [(2, .box b1 25 [.sl 2 false (s.l.map chnA), .sl 2 false (s.nexts.map cntA), aI s.stamp]), (8, .row a1.2 3 1 ([aI 0] :: (laterL s st a1.1).map intA))]⟩, fun a1 => s.l.length - a1.1, fun a1 => a1.1 ≤ s.l.length⟩
 .loop L1 (0, V1) (show 0 ≤ s.l.length from Nat.zero_le _) ⟨[(2, .ptr 2 b1 0), (3, .dptr [aI st]), (10, .sl 2 false (s.l.map chnA)), (11, aI (s.l.length : Int)), (5, .rw 8 V1 1), (12, aI 0)], [(2, .box b1 25 [.sl 2 false (s.l.map chnA), .sl 2 false (s.nexts.map cntA), aI s.stamp]), (8, .row V1 3 1 ([[aI 0]]))]⟩ ⟨Sub.refl _, Sub.refl _, Sub.refl _, Sub.refl _, Sub.refl _, Sub.of_eq (congrArg aI (by first | omega | rfl)), trivial⟩ ⟨⟨_, rfl, SubB.refl _⟩, ⟨_, rfl, SubB.refl _⟩, trivial⟩ fun a1 ha1 =>
 (fun (k : Nat) (V : Value) (hH1 : k ≤ s.l.length) => .r 1 <| .br 13 (decide ((k : Int) < (s.l.length : Int))) (fun q1 => have p1 := decT q1; .idxM s.l chnA k (m := (k : Int)) rfl (by omega) fun x1 hx1 =>
 have okx1 := oks.2.2.2.1 x1 (List.mem_of_getElem? hx1); have blx1 := okx1.2.1; .r 1 <| .new fun b3 => .run 1 [b3 = b3] ⟨rfl, trivial⟩ <|
 .run 3 [b3 = b3] ⟨rfl, trivial⟩ <|
 .call (cnf1_spec x1.l st (by omega)) <|
 .br 19 (laterB st x1) (fun q2 => have p2 := booT q2; .run 4 [b3 = b3] ⟨rfl, trivial⟩ <|
 .app 8 V ([aI 0] :: (laterL s st k).map intA) ([[aI x1.ino]]) (by have := laterL_le s st k; simp only [List.length_map, List.length_cons, List.length_nil]; omega) (by have := laterL_le s st k; simp only [List.length_map, List.length_cons, List.length_nil]; omega) fun V2 =>
 .r 1 <| .run 2 [rng .i64 ((k : Int) + 1)] ⟨rng64 (by omega) (by omega), trivial⟩ <|
 .back L1 (k, V) ((k + 1), V2) (show (k + 1) ≤ s.l.length from (by show _ ≤ _; omega)) (show s.l.length - (k + 1) < s.l.length - k from (by omega)) ⟨[(2, .ptr 2 b1 0), (3, .dptr [aI st]), (10, .sl 2 false (s.l.map chnA)), (11, aI (s.l.length : Int)), (5, .rw 8 V2 (([aI 0] :: (laterL s st k).map intA).length + ([[aI x1.ino]] : List (List AV)).length)), (12, aI ((k : Int) + 1))], [(2, .box b1 25 [.sl 2 false (s.l.map chnA), .sl 2 false (s.nexts.map cntA), aI s.stamp]), (8, .row V2 3 1 (([aI 0] :: (laterL s st k).map intA) ++ ([[aI x1.ino]])))]⟩ ⟨Sub.refl _, Sub.refl _, Sub.refl _, Sub.refl _, Sub.of_eq (congrArg (AV.rw 8 V2) (by rw [laterL_yes hx1 q2]; simp; try omega)), Sub.of_eq (congrArg aI (by first | omega | rfl)), trivial⟩ ⟨⟨_, rfl, SubB.refl _⟩, ⟨_, rfl, SubB.of_eq (by rw [laterL_yes hx1 q2]; simp [intA])⟩, trivial⟩)
 <| fun q2 => have p2 := booF q2; .run 2 [rng .i64 ((k : Int) + 1)] ⟨rng64 (by omega) (by omega), trivial⟩ <|
 .back L1 (k, V) ((k + 1), V) (show (k + 1) ≤ s.l.length from (by show _ ≤ _; omega)) (show s.l.length - (k + 1) < s.l.length - k from (by omega)) ⟨[(2, .ptr 2 b1 0), (3, .dptr [aI st]), (10, .sl 2 false (s.l.map chnA)), (11, aI (s.l.length : Int)), (5, .rw 8 V (1 + (laterL s st k).length)), (12, aI ((k : Int) + 1))], [(2, .box b1 25 [.sl 2 false (s.l.map chnA), .sl 2 false (s.nexts.map cntA), aI s.stamp]), (8, .row V 3 1 ([aI 0] :: (laterL s st k).map intA))]⟩ ⟨Sub.refl _, Sub.refl _, Sub.refl _, Sub.refl _, Sub.of_eq (congrArg (AV.rw 8 V) (by rw [laterL_no hx1 q2])), Sub.of_eq (congrArg aI (by first | omega | rfl)), trivial⟩ ⟨⟨_, rfl, SubB.refl _⟩, ⟨_, rfl, SubB.of_eq (by rw [laterL_no hx1 q2])⟩, trivial⟩)
 <| fun q1 => have p1 := decF q1; .r 4 <| .br 29 (decide ((1 + (laterL s st k).length : Int) > 1)) (fun q3 => have p3 := decT q3; .r 5 <| .r 2 <| .frz 8 [4] [] [V = V, 1 + (laterL s st k).length = ([aI 0] :: (laterL s st k).map intA).length] ⟨rfl, (by first | rfl | (simp; done) | (simp; omega)), trivial⟩ <|
 .fin (x := .sl 1 false ([aI 0] :: (laterL s st k).map intA)) (r := .sl 1 false ((sinceD s st).map intA)) [] trivial (by
    refine Sub.of_eq ?_
    have e := laterL_all (s := s) (st := st) (by omega : s.l.length ≤ k)
    rw [show sinceD s st = 0 :: laterL s st k from by unfold sinceD; rw [if_pos (by rw [← e]; first | exact .inl (by omega) | exact .inr (by assumption)), e]]
    rfl))
 <| fun q3 => have p3 := decF q3; .run 3 [b1 = b1] ⟨rfl, trivial⟩ <|
 .call (cnf2_spec s.nexts st (by omega)) <|
 .r 1 <| .br 34 (moreB s st) (fun q4 => have p4 := booT q4; .r 2 <| .frz 8 [4] [] [V = V, 1 + (laterL s st k).length = ([aI 0] :: (laterL s st k).map intA).length] ⟨rfl, (by first | rfl | (simp; done) | (simp; omega)), trivial⟩ <|
 .fin (x := .sl 1 false ([aI 0] :: (laterL s st k).map intA)) (r := .sl 1 false ((sinceD s st).map intA)) [] trivial (by
    refine Sub.of_eq ?_
    have e := laterL_all (s := s) (st := st) (by omega : s.l.length ≤ k)
    rw [show sinceD s st = 0 :: laterL s st k from by unfold sinceD; rw [if_pos (by rw [← e]; first | exact .inl (by omega) | exact .inr (by assumption)), e]]
    rfl))
 <| fun q4 => have p4 := booF q4; .r 1 <| .fin (x := aN) (r := .sl 1 false ((sinceD s st).map intA)) [] trivial (by
    rw [show sinceD s st = [] from by unfold sinceD; rw [if_neg (by rw [← laterL_all (by omega : s.l.length ≤ k)]; rintro (h | h) <;> first | omega | simp_all)]]
    exact Sub.nil _ _)) a1.1 a1.2 ha1) Try.func16 rfl (by kernel_rfl) (by kernel_rfl)
end Go.Proofs.Ytibcmgmlklehdaa
