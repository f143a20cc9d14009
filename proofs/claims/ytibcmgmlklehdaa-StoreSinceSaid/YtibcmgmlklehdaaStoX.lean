/- What changed since; how many: both sides. -/
import Derived.Test.YtibcmgmlklehdaaStoW
set_option linter.unusedVariables false
set_option linter.unusedSimpArgs false
namespace Go.Proofs.Ytibcmgmlklehdaa
open Go Go.RowKit Copyhold

set_option maxRecDepth 100000 in
set_option maxHeartbeats 4000000 in
theorem since_spec (s : Sto) (st : Int) (oks : OkS s) (hf : s.l.length ≤ 100000) : FSpec Try.prog 16 [.agg [.sl 2 false (s.l.map chnA), .sl 2 false (s.nexts.map cntA), aI s.stamp], aI st] (.sl 1 false ((sinceD s st).map intA)) := by
  have hb1 := oks.2.1
  have hb2 := oks.2.2.1
  exact spec_vc (F := Try.f16) 400 (
 .new fun b1 => .new fun b2 => .r 1 <| .frz 3 [2, 3, 4] [2] [b2 = b2] ⟨rfl, trivial⟩ <|
 .litN fun V1 => .r 1 <| .run 3 [b1 = b1] ⟨rfl, trivial⟩ <|
 .val 11 (show (aI ((s.l.map chnA).length : Int) : AV) = aI (s.l.length : Int) from by rw [List.length_map]) <| .r 1 <| let L1 : Lp (Nat × Value) := ⟨fun a1 => ⟨[(2, .ptr 2 b1 0), (3, .dptr [aI st]), (10, .sl 2 false (s.l.map chnA)), (11, aI (s.l.length : Int)), (5, .rw 8 a1.2 (1 + (laterL s st a1.1).length)), (12, aI (a1.1 : Int))], [(2, .box b1 25 [.sl 2 false (s.l.map chnA), .sl 2 false (s.nexts.map cntA), aI s.stamp]), (8, .row a1.2 3 1 ([aI 0] :: (laterL s st a1.1).map intA))]⟩, fun a1 => s.l.length - a1.1, fun a1 => a1.1 ≤ s.l.length⟩
 .loop L1 (0, V1) (show 0 ≤ s.l.length from Nat.zero_le _) ⟨[(2, .ptr 2 b1 0), (3, .dptr [aI st]), (10, .sl 2 false (s.l.map chnA)), (11, aI (s.l.length : Int)), (5, .rw 8 V1 1), (12, aI 0)], [(2, .box b1 25 [.sl 2 false (s.l.map chnA), .sl 2 false (s.nexts.map cntA), aI s.stamp]), (8, .row V1 3 1 ([[aI 0]]))]⟩ ⟨Sub.refl _, Sub.refl _, Sub.refl _, Sub.refl _, Sub.refl _, Sub.of_eq (congrArg aI (by first | omega | rfl)), trivial⟩ ⟨⟨_, rfl, SubB.refl _⟩, ⟨_, rfl, SubB.refl _⟩, trivial⟩ fun a1 ha1 =>
 (fun (k : Nat) (V : Value) (hH1 : k ≤ s.l.length) => .r 1 <| .br 13 (decide ((k : Int) < (s.l.length : Int))) (fun q1 => have p1 := decT q1; .idxM s.l chnA k (m := (k : Int)) rfl (by omega) fun x1 hx1 =>
 have okx1 := oks.2.2.2.1 x1 (List.mem_of_getElem? hx1); have blx1 := okx1.2.1; .r 1 <| .new fun b3 => .run 1 [b3 = b3] ⟨rfl, trivial⟩ <|
 .run 3 [b3 = b3] ⟨rfl, trivial⟩ <|
 .call (cnf1_spec x1.l st (by omega)) <|
 .br 19 (laterB st x1) (fun q2 => have p2 := booT q2; .run 4 [b3 = b3] ⟨rfl, trivial⟩ <|
 .app 8 V ([aI 0] :: (laterL s st k).map intA) ([[aI x1.ino]]) (by have := laterL_le s st k; simp only [List.length_map, List.length_cons, List.length_nil]; omega) (by have := laterL_le s st k; simp only [List.length_map, List.length_cons, List.length_nil]; omega) fun V2 =>
 .r 1 <| .run 2 [rng .i64 ((k : Int) + 1)] ⟨rng64 (by omega) (by omega), trivial⟩ <|
 .back L1 (k, V) ((k + 1), V2) (show (k + 1) ≤ s.l.length from (by show _ ≤ _; omega)) (show s.l.length - (k + 1) < s.l.length - k from (by omega)) ⟨[(2, .ptr 2 b1 0), (3, .dptr [aI st]), (10, .sl 2 false (s.l.map chnA)), (11, aI (s.l.length : Int)), (5, .rw 8 V2 (([aI 0] :: (laterL s st k).map intA).length + ([[aI x1.ino]] : List (List AV)).length)), (12, aI ((k : Int) + 1))], [(2, .box b1 25 [.sl 2 false (s.l.map chnA), .sl 2 false (s.nexts.map cntA), aI s.stamp]), (8, .row V2 3 1 (([aI 0] :: (laterL s st k).map intA) ++ ([[aI x1.ino]])))]⟩ ⟨Sub.refl _, Sub.refl _, Sub.refl _, Sub.refl _, Sub.of_eq (congrArg (AV.rw 8 V2) (by rw [laterL_yes hx1 q2]; simp; try omega)), Sub.of_eq (congrArg aI (by first | omega | rfl)), trivial⟩ ⟨⟨_, rfl, SubB.refl _⟩, ⟨_, rfl, SubB.of_eq (by rw [laterL_yes hx1 q2]; simp [intA])⟩, trivial⟩)
 <| fun q2 => have p2 := booF q2; .run 2 [rng .i64 ((k : Int) + 1)] ⟨rng64 (by omega) (by omega), trivial⟩ <|
 .back L1 (k, V) ((k + 1), V) (show (k + 1) ≤ s.l.length from (by show _ ≤ _; omega)) (show s.l.length - (k + 1) < s.l.length - k from (by omega)) ⟨[(2, .ptr 2 b1 0), (3, .dptr [aI st]), (10, .sl 2 false (s.l.map chnA)), (11, aI (s.l.length : Int)), (5, .rw 8 V (1 + (laterL s st k).length)), (12, aI ((k : Int) + 1))], [(2, .box b1 25 [.sl 2 false (s.l.map chnA), .sl 2 false (s.nexts.map cntA), aI s.stamp]), (8, .row V 3 1 ([aI 0] :: (laterL s st k).map intA))]⟩ ⟨Sub.refl _, Sub.refl _, Sub.refl _, Sub.refl _, Sub.of_eq (congrArg (AV.rw 8 V) (by rw [laterL_no hx1 q2])), Sub.of_eq (congrArg aI (by first | omega | rfl)), trivial⟩ ⟨⟨_, rfl, SubB.refl _⟩, ⟨_, rfl, SubB.of_eq (by rw [laterL_no hx1 q2])⟩, trivial⟩)
 <| fun q1 => have p1 := decF q1; .r 4 <| .br 29 (decide ((1 + (laterL s st k).length : Int) > 1)) (fun q3 => have p3 := decT q3; .r 5 <| .r 2 <| .frz 8 [4] [] [V = V, 1 + (laterL s st k).length = ([aI 0] :: (laterL s st k).map intA).length] ⟨rfl, (by first | rfl | (simp; done) | (simp; omega)), trivial⟩ <|
 .fin (x := .sl 1 false ([aI 0] :: (laterL s st k).map intA)) (r := .sl 1 false ((sinceD s st).map intA)) [] trivial (by
    refine Sub.of_eq ?_
    have e := laterL_all (s := s) (st := st) (by omega : s.l.length ≤ k)
    rw [show sinceD s st = 0 :: laterL s st k from by unfold sinceD; rw [if_pos (by rw [← e]; first | exact .inl (by omega) | exact .inr (by assumption)), e]]
    rfl))
 <| fun q3 => have p3 := decF q3; .run 3 [b1 = b1] ⟨rfl, trivial⟩ <|
 .call (cnf2_spec s.nexts st (by omega)) <|
 .r 1 <| .br 34 (moreB s st) (fun q4 => have p4 := booT q4; .r 2 <| .frz 8 [4] [] [V = V, 1 + (laterL s st k).length = ([aI 0] :: (laterL s st k).map intA).length] ⟨rfl, (by first | rfl | (simp; done) | (simp; omega)), trivial⟩ <|
 .fin (x := .sl 1 false ([aI 0] :: (laterL s st k).map intA)) (r := .sl 1 false ((sinceD s st).map intA)) [] trivial (by
    refine Sub.of_eq ?_
    have e := laterL_all (s := s) (st := st) (by omega : s.l.length ≤ k)
    rw [show sinceD s st = 0 :: laterL s st k from by unfold sinceD; rw [if_pos (by rw [← e]; first | exact .inl (by omega) | exact .inr (by assumption)), e]]
    rfl))
 <| fun q4 => have p4 := booF q4; .r 1 <| .fin (x := aN) (r := .sl 1 false ((sinceD s st).map intA)) [] trivial (by
    rw [show sinceD s st = [] from by unfold sinceD; rw [if_neg (by rw [← laterL_all (by omega : s.l.length ≤ k)]; rintro (h | h) <;> first | omega | simp_all)]]
    exact Sub.nil _ _)) a1.1 a1.2 ha1) Try.func16 rfl (by kernel_rfl) (by kernel_rfl)
theorem later_of {st : Int} {c : Chn} {j : Nat} {la v : Bool} (h1 : j ≤ c.l.length) (h2 : la = (c.l.take j).any (fun v => decide (v.stamp > st))) (h3 : ¬ (j : Int) < c.l.length) (q : la = v) : laterB st c = v := by
  rw [take_all (by omega)] at h2
  rw [← q, h2]; rfl
theorem later_step2 {st : Int} {c : Chn} {j : Nat} {la : Bool} {x : Ver} (hx : c.l[j]? = some x) (h2 : la = (c.l.take j).any (fun v => decide (v.stamp > st))) (q : la = false) : j + 1 ≤ c.l.length ∧ decide (x.stamp > st) = (c.l.take (j + 1)).any (fun v => decide (v.stamp > st)) := by
  refine ⟨lt_of_some hx, ?_⟩
  rw [any_take hx, ← h2, q, Bool.false_or]
theorem later_stepT {st : Int} {c : Chn} {j : Nat} {la : Bool} (hj : j < c.l.length) (h2 : la = (c.l.take j).any (fun v => decide (v.stamp > st))) (q : la = true) : j + 1 ≤ c.l.length ∧ true = (c.l.take (j + 1)).any (fun v => decide (v.stamp > st)) := by
  obtain ⟨x, hx⟩ := some_of hj
  refine ⟨hj, ?_⟩
  rw [any_take hx, ← h2, q, Bool.true_or]
theorem more_step2 {s : Sto} {st : Int} {j : Nat} {mp b : Bool} {x : Cnt} (hx : s.nexts[j]? = some x) (h2 : mp = (b || (s.nexts.take j).any (fun c => decide (c.stamp > st)))) (q : mp = false) : j + 1 ≤ s.nexts.length ∧ decide (x.stamp > st) = (b || (s.nexts.take (j + 1)).any (fun c => decide (c.stamp > st))) := by
  refine ⟨lt_of_some hx, ?_⟩
  rw [any_take hx, ← Bool.or_assoc, ← h2, q, Bool.false_or]
theorem more_step {s : Sto} {st : Int} {j : Nat} {mp b : Bool} (h2 : mp = (b || (s.nexts.take j).any (fun c => decide (c.stamp > st)))) (hj : j < s.nexts.length) (q : mp = true) : j + 1 ≤ s.nexts.length ∧ true = (b || (s.nexts.take (j + 1)).any (fun c => decide (c.stamp > st))) := by
  obtain ⟨x, hx⟩ := some_of hj
  refine ⟨hj, ?_⟩
  rw [any_take hx, ← Bool.or_assoc, ← h2, q, Bool.true_or]
set_option maxRecDepth 100000 in
set_option maxHeartbeats 4000000 in
theorem rsince_spec (s : Sto) (st : Int) (oks : OkS s) (hf : s.l.length ≤ 100000) : FSpec Try.prog 17 [.agg [.sl 2 false (s.l.map chnA), .sl 2 false (s.nexts.map cntA), aI s.stamp], aI st] (.sl 1 false ((sinceD s st).map intA)) := by
  have hb1 := oks.2.1
  have hb2 := oks.2.2.1
  exact spec_vc (F := Try.f17) 400 (
 .new fun b1 => .r 1 <| .litN fun V1 => .r 1 <| .r 1 <| .r 1 <| let L1 : Lp (Nat × Value × Bool) := ⟨fun a1 => ⟨[(1, aI st), (2, .ptr 2 b1 0), (7, aI (a1.1 : Int)), (5, .rw 11 a1.2.1 (1 + (laterL s st a1.1).length)), (6, aB a1.2.2)], [(2, .box b1 25 [.sl 2 false (s.l.map chnA), .sl 2 false (s.nexts.map cntA), aI s.stamp]), (11, .row a1.2.1 3 1 ([aI 0] :: (laterL s st a1.1).map intA))]⟩, fun a1 => s.l.length - a1.1, fun a1 => a1.1 ≤ s.l.length ∧ a1.2.2 = decide (1 ≤ (laterL s st a1.1).length)⟩
 .loop L1 (0, V1, false) (show 0 ≤ s.l.length ∧ false = decide (1 ≤ (laterL s st 0).length) from ⟨Nat.zero_le _, rfl⟩) ⟨[(1, aI st), (2, .ptr 2 b1 0), (7, aI 0), (5, .rw 11 V1 1), (6, aB false)], [(2, .box b1 25 [.sl 2 false (s.l.map chnA), .sl 2 false (s.nexts.map cntA), aI s.stamp]), (11, .row V1 3 1 ([[aI 0]]))]⟩ ⟨Sub.refl _, Sub.refl _, Sub.of_eq (congrArg aI (by first | omega | rfl)), Sub.refl _, Sub.refl _, trivial⟩ ⟨⟨_, rfl, SubB.refl _⟩, ⟨_, rfl, SubB.refl _⟩, trivial⟩ fun a1 ha1 =>
 (fun (k : Nat) (V : Value) (mo : Bool) (hH1 : k ≤ s.l.length ∧ mo = decide (1 ≤ (laterL s st k).length)) => .run 4 [b1 = b1] ⟨rfl, trivial⟩ <|
 .val 15 (show (aI ((s.l.map chnA).length : Int) : AV) = aI (s.l.length : Int) from by rw [List.length_map]) <| .r 1 <| .br 16 (decide ((k : Int) < (s.l.length : Int))) (fun q1 => have p1 := decT q1; .r 1 <| .r 1 <| .ex (some_of (l := s.l) (k := k) (by omega)) fun x1 hx1 =>
 have okx1 := oks.2.2.2.1 x1 (List.mem_of_getElem? hx1); have blx1 := okx1.2.1; let L2 : Lp (Nat × Bool) := ⟨fun a2 => ⟨[(1, aI st), (2, .ptr 2 b1 0), (7, aI (k : Int)), (5, .rw 11 V (1 + (laterL s st k).length)), (6, aB mo), (9, aI (a2.1 : Int)), (8, aB a2.2)], [(2, .box b1 25 [.sl 2 false (s.l.map chnA), .sl 2 false (s.nexts.map cntA), aI s.stamp]), (11, .row V 3 1 ([aI 0] :: (laterL s st k).map intA))]⟩, fun a2 => x1.l.length - a2.1, fun a2 => a2.1 ≤ x1.l.length ∧ a2.2 = (x1.l.take a2.1).any (fun v => decide (v.stamp > st))⟩
 .loop L2 (0, false) (show 0 ≤ x1.l.length ∧ false = (x1.l.take 0).any (fun v => decide (v.stamp > st)) from ⟨Nat.zero_le _, rfl⟩) ⟨[(1, aI st), (2, .ptr 2 b1 0), (7, aI (k : Int)), (5, .rw 11 V (1 + (laterL s st k).length)), (6, aB mo), (9, aI 0), (8, aB false)], [(2, .box b1 25 [.sl 2 false (s.l.map chnA), .sl 2 false (s.nexts.map cntA), aI s.stamp]), (11, .row V 3 1 ([aI 0] :: (laterL s st k).map intA))]⟩ ⟨Sub.refl _, Sub.refl _, Sub.refl _, Sub.refl _, Sub.refl _, Sub.of_eq (congrArg aI (by first | omega | rfl)), Sub.refl _, trivial⟩ ⟨⟨_, rfl, SubB.refl _⟩, ⟨_, rfl, SubB.refl _⟩, trivial⟩ fun a2 ha2 =>
 (fun (j : Nat) (la : Bool) (hH2 : j ≤ x1.l.length ∧ la = (x1.l.take j).any (fun v => decide (v.stamp > st))) => .run 4 [b1 = b1] ⟨rfl, trivial⟩ <|
 .idx k (m := (k : Int)) (xs := s.l.map chnA) (e := chnA x1) rfl (map_some hx1) <|
 .r 3 <| .val 26 (show (aI ((x1.l.map verA).length : Int) : AV) = aI (x1.l.length : Int) from by rw [List.length_map]) <| .r 1 <| .br 27 (decide ((j : Int) < (x1.l.length : Int))) (fun q2 => have p2 := decT q2; .r 2 <| .br 31 (la) (fun q3 => have p3 := booT q3; .r 14 <| .run 3 [rng .i64 ((j : Int) + 1)] ⟨rng64 (by omega) (by omega), trivial⟩ <|
 .back L2 (j, la) ((j + 1), true) (show (j + 1) ≤ x1.l.length ∧ true = (x1.l.take (j + 1)).any (fun v => decide (v.stamp > st)) from (later_stepT (by omega) hH2.2 q3)) (show x1.l.length - (j + 1) < x1.l.length - j from (by omega)) ⟨[(1, aI st), (2, .ptr 2 b1 0), (7, aI (k : Int)), (5, .rw 11 V (1 + (laterL s st k).length)), (6, aB mo), (9, aI ((j : Int) + 1)), (8, aB true)], [(2, .box b1 25 [.sl 2 false (s.l.map chnA), .sl 2 false (s.nexts.map cntA), aI s.stamp]), (11, .row V 3 1 ([aI 0] :: (laterL s st k).map intA))]⟩ ⟨Sub.refl _, Sub.refl _, Sub.refl _, Sub.refl _, Sub.refl _, Sub.of_eq (congrArg aI (by first | omega | rfl)), Sub.refl _, trivial⟩ ⟨⟨_, rfl, SubB.refl _⟩, ⟨_, rfl, SubB.refl _⟩, trivial⟩)
 <| fun q3 => have p3 := booF q3; .run 3 [b1 = b1] ⟨rfl, trivial⟩ <|
 .idx k (m := (k : Int)) (xs := s.l.map chnA) (e := chnA x1) rfl (map_some hx1) <|
 .r 3 <| .idxM x1.l verA j (m := (j : Int)) rfl (by omega) fun x2 hx2 =>
 have okx2 := okx1.2.2 x2 (List.mem_of_getElem? hx2); .r 6 <| .run 3 [rng .i64 ((j : Int) + 1)] ⟨rng64 (by omega) (by omega), trivial⟩ <|
 .back L2 (j, la) ((j + 1), decide (x2.stamp > st)) (show (j + 1) ≤ x1.l.length ∧ (decide (x2.stamp > st)) = (x1.l.take (j + 1)).any (fun v => decide (v.stamp > st)) from (later_step2 hx2 hH2.2 q3)) (show x1.l.length - (j + 1) < x1.l.length - j from (by omega)) ⟨[(1, aI st), (2, .ptr 2 b1 0), (7, aI (k : Int)), (5, .rw 11 V (1 + (laterL s st k).length)), (6, aB mo), (9, aI ((j : Int) + 1)), (8, aB (decide (x2.stamp > st)))], [(2, .box b1 25 [.sl 2 false (s.l.map chnA), .sl 2 false (s.nexts.map cntA), aI s.stamp]), (11, .row V 3 1 ([aI 0] :: (laterL s st k).map intA))]⟩ ⟨Sub.refl _, Sub.refl _, Sub.refl _, Sub.refl _, Sub.refl _, Sub.of_eq (congrArg aI (by first | omega | rfl)), Sub.refl _, trivial⟩ ⟨⟨_, rfl, SubB.refl _⟩, ⟨_, rfl, SubB.refl _⟩, trivial⟩)
 <| fun q2 => have p2 := decF q2; .r 1 <| .br 45 (la) (fun q4 => have p4 := booT q4; .run 4 [b1 = b1] ⟨rfl, trivial⟩ <|
 .idx k (m := (k : Int)) (xs := s.l.map chnA) (e := chnA x1) rfl (map_some hx1) <|
 .r 3 <| .app 8 V ([aI 0] :: (laterL s st k).map intA) ([[aI x1.ino]]) (by have := laterL_le s st k; simp only [List.length_map, List.length_cons, List.length_nil]; omega) (by have := laterL_le s st k; simp only [List.length_map, List.length_cons, List.length_nil]; omega) fun V2 =>
 .r 1 <| .r 1 <| .run 3 [rng .i64 ((k : Int) + 1)] ⟨rng64 (by omega) (by omega), trivial⟩ <|
 .back L1 (k, V, mo) ((k + 1), V2, true) (show (k + 1) ≤ s.l.length ∧ true = decide (1 ≤ (laterL s st (k + 1)).length) from ⟨by omega, by rw [laterL_yes hx1 ((later_of hH2.1 hH2.2 (by omega) q4 : laterB st x1 = true))]; simp⟩) (show s.l.length - (k + 1) < s.l.length - k from (by omega)) ⟨[(1, aI st), (2, .ptr 2 b1 0), (7, aI ((k : Int) + 1)), (5, .rw 11 V2 (([aI 0] :: (laterL s st k).map intA).length + ([[aI x1.ino]] : List (List AV)).length)), (6, aB true)], [(2, .box b1 25 [.sl 2 false (s.l.map chnA), .sl 2 false (s.nexts.map cntA), aI s.stamp]), (11, .row V2 3 1 (([aI 0] :: (laterL s st k).map intA) ++ ([[aI x1.ino]])))]⟩ ⟨Sub.refl _, Sub.refl _, Sub.of_eq (congrArg aI (by first | omega | rfl)), Sub.of_eq (congrArg (AV.rw 11 V2) (by rw [laterL_yes hx1 ((later_of hH2.1 hH2.2 (by omega) q4 : laterB st x1 = true))]; simp; try omega)), Sub.refl _, trivial⟩ ⟨⟨_, rfl, SubB.refl _⟩, ⟨_, rfl, SubB.of_eq (by rw [laterL_yes hx1 ((later_of hH2.1 hH2.2 (by omega) q4 : laterB st x1 = true))]; simp [intA])⟩, trivial⟩)
 <| fun q4 => have p4 := booF q4; .run 3 [rng .i64 ((k : Int) + 1)] ⟨rng64 (by omega) (by omega), trivial⟩ <|
 .back L1 (k, V, mo) ((k + 1), V, mo) (show (k + 1) ≤ s.l.length ∧ mo = decide (1 ≤ (laterL s st (k + 1)).length) from ⟨by omega, by rw [laterL_no hx1 ((later_of hH2.1 hH2.2 (by omega) q4 : laterB st x1 = false))]; exact hH1.2⟩) (show s.l.length - (k + 1) < s.l.length - k from (by omega)) ⟨[(1, aI st), (2, .ptr 2 b1 0), (7, aI ((k : Int) + 1)), (5, .rw 11 V (1 + (laterL s st k).length)), (6, aB mo)], [(2, .box b1 25 [.sl 2 false (s.l.map chnA), .sl 2 false (s.nexts.map cntA), aI s.stamp]), (11, .row V 3 1 ([aI 0] :: (laterL s st k).map intA))]⟩ ⟨Sub.refl _, Sub.refl _, Sub.of_eq (congrArg aI (by first | omega | rfl)), Sub.of_eq (congrArg (AV.rw 11 V) (by rw [laterL_no hx1 ((later_of hH2.1 hH2.2 (by omega) q4 : laterB st x1 = false))])), Sub.refl _, trivial⟩ ⟨⟨_, rfl, SubB.refl _⟩, ⟨_, rfl, SubB.of_eq (by rw [laterL_no hx1 ((later_of hH2.1 hH2.2 (by omega) q4 : laterB st x1 = false))])⟩, trivial⟩) a2.1 a2.2 ha2)
 <| fun q1 => have p1 := decF q1; .r 1 <| let L3 : Lp (Nat × Bool) := ⟨fun a3 => ⟨[(1, aI st), (2, .ptr 2 b1 0), (5, .rw 11 V (1 + (laterL s st k).length)), (10, aI (a3.1 : Int)), (6, aB a3.2)], [(2, .box b1 25 [.sl 2 false (s.l.map chnA), .sl 2 false (s.nexts.map cntA), aI s.stamp]), (11, .row V 3 1 ([aI 0] :: (laterL s st k).map intA))]⟩, fun a3 => s.nexts.length - a3.1, fun a3 => a3.1 ≤ s.nexts.length ∧ a3.2 = (decide (1 ≤ (laterL s st s.l.length).length) || (s.nexts.take a3.1).any (fun c => decide (c.stamp > st)))⟩
 .loop L3 (0, mo) (show 0 ≤ s.nexts.length ∧ mo = (decide (1 ≤ (laterL s st s.l.length).length) || (s.nexts.take 0).any (fun c => decide (c.stamp > st))) from ⟨Nat.zero_le _, by rw [hH1.2, laterL_all (by omega)]; simp⟩) ⟨[(1, aI st), (2, .ptr 2 b1 0), (5, .rw 11 V (1 + (laterL s st k).length)), (10, aI 0), (6, aB mo)], [(2, .box b1 25 [.sl 2 false (s.l.map chnA), .sl 2 false (s.nexts.map cntA), aI s.stamp]), (11, .row V 3 1 ([aI 0] :: (laterL s st k).map intA))]⟩ ⟨Sub.refl _, Sub.refl _, Sub.refl _, Sub.of_eq (congrArg aI (by first | omega | rfl)), Sub.refl _, trivial⟩ ⟨⟨_, rfl, SubB.refl _⟩, ⟨_, rfl, SubB.refl _⟩, trivial⟩ fun a3 ha3 =>
 (fun (j : Nat) (mp : Bool) (hH3 : j ≤ s.nexts.length ∧ mp = (decide (1 ≤ (laterL s st s.l.length).length) || (s.nexts.take j).any (fun c => decide (c.stamp > st)))) => .run 4 [b1 = b1] ⟨rfl, trivial⟩ <|
 .val 58 (show (aI ((s.nexts.map cntA).length : Int) : AV) = aI (s.nexts.length : Int) from by rw [List.length_map]) <| .r 1 <| .br 59 (decide ((j : Int) < (s.nexts.length : Int))) (fun q5 => have p5 := decT q5; .r 2 <| .br 63 (mp) (fun q6 => have p6 := booT q6; .r 10 <| .run 3 [rng .i64 ((j : Int) + 1)] ⟨rng64 (by omega) (by omega), trivial⟩ <|
 .back L3 (j, mp) ((j + 1), true) (show (j + 1) ≤ s.nexts.length ∧ true = (decide (1 ≤ (laterL s st s.l.length).length) || (s.nexts.take (j + 1)).any (fun c => decide (c.stamp > st))) from (more_step hH3.2 (by omega) q6)) (show s.nexts.length - (j + 1) < s.nexts.length - j from (by omega)) ⟨[(1, aI st), (2, .ptr 2 b1 0), (5, .rw 11 V (1 + (laterL s st k).length)), (10, aI ((j : Int) + 1)), (6, aB true)], [(2, .box b1 25 [.sl 2 false (s.l.map chnA), .sl 2 false (s.nexts.map cntA), aI s.stamp]), (11, .row V 3 1 ([aI 0] :: (laterL s st k).map intA))]⟩ ⟨Sub.refl _, Sub.refl _, Sub.refl _, Sub.of_eq (congrArg aI (by first | omega | rfl)), Sub.refl _, trivial⟩ ⟨⟨_, rfl, SubB.refl _⟩, ⟨_, rfl, SubB.refl _⟩, trivial⟩)
 <| fun q6 => have p6 := booF q6; .run 3 [b1 = b1] ⟨rfl, trivial⟩ <|
 .idxM s.nexts cntA j (m := (j : Int)) rfl (by omega) fun x3 hx3 =>
 have okx3 := oks.2.2.2.2 x3 (List.mem_of_getElem? hx3); .r 6 <| .run 3 [rng .i64 ((j : Int) + 1)] ⟨rng64 (by omega) (by omega), trivial⟩ <|
 .back L3 (j, mp) ((j + 1), decide (x3.stamp > st)) (show (j + 1) ≤ s.nexts.length ∧ (decide (x3.stamp > st)) = (decide (1 ≤ (laterL s st s.l.length).length) || (s.nexts.take (j + 1)).any (fun c => decide (c.stamp > st))) from (more_step2 hx3 hH3.2 q6)) (show s.nexts.length - (j + 1) < s.nexts.length - j from (by omega)) ⟨[(1, aI st), (2, .ptr 2 b1 0), (5, .rw 11 V (1 + (laterL s st k).length)), (10, aI ((j : Int) + 1)), (6, aB (decide (x3.stamp > st)))], [(2, .box b1 25 [.sl 2 false (s.l.map chnA), .sl 2 false (s.nexts.map cntA), aI s.stamp]), (11, .row V 3 1 ([aI 0] :: (laterL s st k).map intA))]⟩ ⟨Sub.refl _, Sub.refl _, Sub.refl _, Sub.of_eq (congrArg aI (by first | omega | rfl)), Sub.refl _, trivial⟩ ⟨⟨_, rfl, SubB.refl _⟩, ⟨_, rfl, SubB.refl _⟩, trivial⟩)
 <| fun q5 => have p5 := decF q5; .r 2 <| .br 74 (!mp) (fun q7 => have q7 := notT q7; have p7 := booF q7; .r 1 <| .fin (x := aN) (r := .sl 1 false ((sinceD s st).map intA)) [] trivial (by
    have e : moreB s st = (s.nexts.take j).any (fun c => decide (c.stamp > st)) := by rw [take_all (by omega)]; rfl
    have e2 := laterL_all (s := s) (st := st) (by omega : s.l.length ≤ k)
    have e3 := hH3.2
    rw [q7, ← e] at e3
    rw [show sinceD s st = [] from by unfold sinceD; rw [if_neg (by rintro (h | h) <;> simp_all)]]
    exact Sub.nil _ _))
 <| fun q7 => have q7 := notF q7; have p7 := booT q7; .r 2 <| .frz 11 [4] [] [V = V, 1 + (laterL s st k).length = ([aI 0] :: (laterL s st k).map intA).length] ⟨rfl, (by first | rfl | (simp; done) | (simp; omega)), trivial⟩ <|
 .fin (x := .sl 1 false ([aI 0] :: (laterL s st k).map intA)) (r := .sl 1 false ((sinceD s st).map intA)) [] trivial (by
    have e : moreB s st = (s.nexts.take j).any (fun c => decide (c.stamp > st)) := by rw [take_all (by omega)]; rfl
    have e2 := laterL_all (s := s) (st := st) (by omega : s.l.length ≤ k)
    have e3 := hH3.2
    rw [q7, ← e] at e3
    refine Sub.of_eq ?_
    rw [show sinceD s st = 0 :: laterL s st k from by unfold sinceD; rw [e2, if_pos (by have := e3.symm; simpa using this)]]
    rfl)) a3.1 a3.2 ha3) a1.1 a1.2.1 a1.2.2 ha1) Try.func17 rfl (by kernel_rfl) (by kernel_rfl)
end Go.Proofs.Ytibcmgmlklehdaa
