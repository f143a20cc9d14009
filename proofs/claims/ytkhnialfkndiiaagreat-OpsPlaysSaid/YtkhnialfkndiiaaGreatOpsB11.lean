import Derived.Test.YtkhnialfkndiiaaGreatMrgZ
set_option maxRecDepth 100000
set_option maxHeartbeats 8000000
set_option linter.unusedVariables false
set_option linter.unusedSimpArgs false
namespace Go.Proofs.YtkhnialfkndiiaaGreat
open Go Go.RowKit Copyhold
def ofE (f : Fsy) (i k : Int) : Int := if findB f i = true then (if (findN f i).kind = k then 0 else 14) else 6
def ofN (f : Fsy) (i k : Int) : Nod := if ofE f i k = 0 then findN f i else nod0
def withT (n : Nod) (t : Txt) : Nod := ⟨n.ino, n.kind, n.links, t, n.l⟩
noncomputable def lookD (f : Fsy) (c : Cal) : Fsy × Rep := (f, ⟨lookE f c.ino c.name, (lookN f c.ino c.name).ino, 0, 0, [], []⟩)
def statD (f : Fsy) (c : Cal) : Fsy × Rep := if findB f c.ino = true then (f, ⟨0, (findN f c.ino).kind, (findN f c.ino).links, sizeN (findN f c.ino), [], []⟩) else (f, errR 6)
def readO (f : Fsy) (c : Cal) : Fsy × Rep := if ofE f c.ino 1 = 0 then (f, ⟨(readD (findN f c.ino).text c.at_ c.many).2, 0, 0, 0, (readD (findN f c.ino).text c.at_ c.many).1, []⟩) else (f, errR (ofE f c.ino 1))
def writeO (f : Fsy) (c : Cal) : Fsy × Rep := if ofE f c.ino 1 = 0 then (putF f (withT (findN f c.ino) (writeD (findN f c.ino).text c.at_ c.text).1), ⟨(writeD (findN f c.ino).text c.at_ c.text).2, (c.text.length : Int), 0, 0, [], []⟩) else (f, errR (ofE f c.ino 1))
def cutO (f : Fsy) (c : Cal) : Fsy × Rep := if ofE f c.ino 1 = 0 then (putF f (withT (findN f c.ino) (cutD (findN f c.ino).text c.many).1), errR (cutD (findN f c.ino).text c.many).2) else (f, errR (ofE f c.ino 1))
noncomputable def addO (f : Fsy) (c : Cal) (n : Nod) : Fsy × Rep := (if addErr f c.ino c.name n = 0 then addF f c.ino c.name (addN f n) else f, ⟨addErr f c.ino c.name n, f.next, 0, 0, [], []⟩)
noncomputable def symO (f : Fsy) (c : Cal) : Fsy × Rep := if (c.text.length : Int) > 4096 then (f, errR 5) else addO f c ⟨0, 3, 0, c.text, []⟩
noncomputable def takeO (f : Fsy) (c : Cal) (dir : Bool) (odd : Int) : Fsy × Rep :=
 if lookE f c.ino c.name = 0 then (if (((lookN f c.ino c.name).kind == 2) != dir) = true then (f, errR odd) else (takeF f c.ino c.name, errR (takeErr f c.ino c.name))) else (f, errR (lookE f c.ino c.name))
noncomputable def linkO (f : Fsy) (c : Cal) : Fsy × Rep := (giveF f c.ino c.name c.to, errR (giveErr f c.ino c.name c.to))
noncomputable def renO (f : Fsy) (c : Cal) : Fsy × Rep := (movF f c.ino c.name c.to c.name2, errR (movErr f c.ino c.name c.to c.name2))
def rlnkO (f : Fsy) (c : Cal) : Fsy × Rep := (f, ⟨ofE f c.ino 3, 0, 0, 0, (ofN f c.ino 3).text, []⟩)
def rdirO (f : Fsy) (c : Cal) : Fsy × Rep := (f, ⟨dirE f c.ino, 0, 0, 0, [], (dirN f c.ino).l.map Ent.name⟩)
def txtS (l : List Nod) : Nat := (l.map fun n => n.text.length).sum
def sfsO (f : Fsy) : Fsy × Rep := (f, ⟨0, (f.l.length : Int), (txtS f.l : Int), 0, [], []⟩)
theorem ofE_6 {f : Fsy} {i k : Int} (h : findB f i = false) : ofE f i k = 6 ∧ ofN f i k = nod0 := by
 have e : ofE f i k = 6 := by unfold ofE; rw [h]; rfl
 exact ⟨e, by unfold ofN; rw [e]; rfl⟩
theorem ofE_14 {f : Fsy} {i k : Int} (h : findB f i = true) (h2 : ¬ (findN f i).kind = k) : ofE f i k = 14 ∧ ofN f i k = nod0 := by
 have e : ofE f i k = 14 := by unfold ofE; rw [if_pos h, if_neg h2]
 exact ⟨e, by unfold ofN; rw [e]; rfl⟩
theorem ofE_0 {f : Fsy} {i k : Int} (h : findB f i = true) (h2 : (findN f i).kind = k) : ofE f i k = 0 ∧ ofN f i k = findN f i := by
 have e : ofE f i k = 0 := by unfold ofE; rw [if_pos h, if_pos h2]
 exact ⟨e, by unfold ofN; rw [e]; rfl⟩
theorem of_yes {f : Fsy} {i k : Int} (h : ofE f i k = 0) : ofN f i k = findN f i := if_pos h
theorem rep_sub (e a b n : Int) (t : Txt) : Sub (.agg [aI e, aI a, aI b, aI n, aS t, aN]) (.agg (repA ⟨e, a, b, n, t, []⟩)) := Sub.aggs ⟨sR, sR, sR, sR, sR, Sub.nil _ _, trivial⟩
theorem txt_len {f : Fsy} (hp : rowsP f) (i : Int) : (findN f i).text.length ≤ 4096 := by
 by_cases h : findB f i = true
 ·rcases ((rowsP_iff.1 hp).2.2.1 _ (find_mem h)).1.2.2.2 with ⟨_, h1, _⟩ | ⟨_, h1, _⟩
  ·rw [h1]; decide
  ·exact h1
 ·rw [(at_no (at_none (by simpa using h))).2]; decide
theorem txt_lenN {f : Fsy} (hp : rowsP f) {n : Nod} (hn : n ∈ f.l) : n.text.length ≤ 4096 := by
 rcases ((rowsP_iff.1 hp).2.2.1 _ hn).1.2.2.2 with ⟨_, h1, _⟩ | ⟨_, h1, _⟩
 ·rw [h1]; decide
 ·exact h1
theorem of_spec (f : Fsy) (i k : Int) (hp : rowsP f) : FSpec Tryz.prog 87 [.agg (fsyA f), aI i, aI k] (.tup [.agg (nodA (ofN f i k)), aI (ofE f i k)]) := by
 have hl := hp.1
 have hr := rows_rise hp
 exact spec_vc (F := Tryz.f87) 400 (
 .new fun b1 => .new fun b2 => .r 1 <| .run 2 [b1 = b1] rt1 <|
 .call (tfind_spec f i (by omega) hr) <|
 .r 3 <| .new fun b3 => .run 2 [b3 = b3] rt1 <|
 .r 2 <| .br 17 (!(findB f i)) (fun q1 => have q1 := notT q1; have p1 := booF q1; .run 3 [b2 = b2] rt1 <|
 .fin (x := .tup [.agg [aI 0, aI 0, aI 0, aS ([]), aN], aI 6]) (r := .tup [.agg (nodA (ofN f i k)), aI (ofE f i k)]) [b2 = b2] rt1 (by
  obtain ⟨e1, e2⟩ := ofE_6 (k := k) q1
  exact Sub.tups ⟨nod0_sub e2, Sub.of_eq (congrArg aI e1.symm), trivial⟩))
 <| fun q1 => have q1 := notF q1; have p1 := booT q1; .run 4 [b3 = b3] rt1 <|
 .br 22 (((findN f i).kind) != k) (fun q2 => have p2 := bneT q2; .run 3 [b2 = b2] rt1 <|
 .fin (x := .tup [.agg [aI 0, aI 0, aI 0, aS ([]), aN], aI 14]) (r := .tup [.agg (nodA (ofN f i k)), aI (ofE f i k)]) [b2 = b2] rt1 (by
  obtain ⟨e1, e2⟩ := ofE_14 q1 (bneT q2)
  exact Sub.tups ⟨nod0_sub e2, Sub.of_eq (congrArg aI e1.symm), trivial⟩))
 <| fun q2 => have p2 := bneF q2; .run 3 [b3 = b3, b2 = b2] rt2 <|
 .fin (x := .tup [.agg [aI ((findN f i).ino), aI ((findN f i).kind), aI ((findN f i).links), aS ((findN f i).text), .sl 2 false ((findN f i).l.map entA)], aI 0]) (r := .tup [.agg (nodA (ofN f i k)), aI (ofE f i k)]) [b2 = b2] rt1 (by
  obtain ⟨e1, e2⟩ := ofE_0 q1 (bneF q2)
  rw [e1, e2]
  exact sR)) Tryz.func87 rfl (by kernel_rfl) (by kernel_rfl)
theorem dlook_spec (f : Fsy) (c : Cal) (okf : OkF f) (okc : OkCal c) (hp : rowsP f) : FSpec Tryz.prog 70 [.agg (fsyA f), .agg (calA c)] (.tup [.agg (fsyA (lookD f c).1), .agg (repA (lookD f c).2)]) := by
 have hl := hp.1
 have hr := rows_rise hp
 have hcn := okc.name
 have hcn2 := okc.name2
 have hct := okc.text
 exact spec_vc (F := Tryz.f70) 400 (
 .new fun b1 => .new fun b2 => .new fun b3 => .new fun b4 => .run 5 [b1 = b1, b2 = b2, b2 = b2] rt3 <|
 .call (look_spec f c.ino c.name hp hcn) <|
 .r 3 <| .new fun b5 => .run 2 [b5 = b5] rt1 <|
 let J1 : Jn (Unit) := ⟨fun j1 => ⟨[(4, .ptr 4 b3 0), (5, .ptr 5 b4 0)], [(4, .box b3 24 (fsyA f)), (5, .box b4 30 [aI (lookE f c.ino c.name), aI ((lookN f c.ino c.name).ino), aI 0, aI 0, aS ([]), aN])]⟩, fun _ => True⟩
 .cut J1 (.pick [0, 1, 2] <| .run 3 [b1 = b1] rt1 <|
 .fork <| .alt (.run 1 [b5 = b5] rt1 <|
 .pick [4, 5, 6] <| .run 3 [b3 = b3, b4 = b4] rt2 <|
 .join J1 () trivial ⟨[(4, .ptr 4 b3 0), (5, .ptr 5 b4 0)], [(4, .box b3 24 (fsyA f)), (5, .box b4 30 [aI (lookE f c.ino c.name), aI ((lookN f c.ino c.name).ino), aI 0, aI 0, aS ([]), aN])]⟩ sr2 ⟨⟨_, rfl, SubB.refl _⟩, ⟨_, rfl, SubB.refl _⟩, trivial⟩)
 <| .run 1 [b3 = b3] rt1 <|
 .pick [3, 4, 6] <| .run 3 [b5 = b5, b4 = b4] rt2 <|
 .join J1 () trivial ⟨[(4, .ptr 4 b3 0), (5, .ptr 5 b4 0)], [(4, .box b3 24 (fsyA f)), (5, .box b4 30 [aI (lookE f c.ino c.name), aI ((lookN f c.ino c.name).ino), aI 0, aI 0, aS ([]), aN])]⟩ sr2 ⟨⟨_, rfl, SubB.refl _⟩, ⟨_, rfl, SubB.refl _⟩, trivial⟩)
 <| fun _ _ => .fin (x := .tup [.agg (fsyA f), .agg [aI (lookE f c.ino c.name), aI ((lookN f c.ino c.name).ino), aI 0, aI 0, aS ([]), aN]]) (r := .tup [.agg (fsyA (lookD f c).1), .agg (repA (lookD f c).2)]) [b3 = b3, b4 = b4] rt2 (by exact Sub.tups ⟨sR, (rep_sub _ _ _ _ _), trivial⟩)) Tryz.func70 rfl (by kernel_rfl) (by kernel_rfl)
theorem dstat_spec (f : Fsy) (c : Cal) (okf : OkF f) (okc : OkCal c) (hp : rowsP f) : FSpec Tryz.prog 71 [.agg (fsyA f), .agg (calA c)] (.tup [.agg (fsyA (statD f c).1), .agg (repA (statD f c).2)]) := by
 have hl := hp.1
 have hr := rows_rise hp
 have hcn := okc.name
 have hcn2 := okc.name2
 have hct := okc.text
 exact spec_vc (F := Tryz.f71) 400 (
 .new fun b1 => .new fun b2 => .new fun b3 => .new fun b4 => .run 3 [b1 = b1, b2 = b2] rt2 <|
 .call (tfind_spec f c.ino (by omega) hr) <|
 .r 3 <| .new fun b5 => .run 2 [b5 = b5] rt1 <|
 .r 2 <| .br 16 (!(findB f c.ino)) (fun q1 => have q1 := notT q1; have p1 := booF q1; .run 4 [b1 = b1, b3 = b3, b4 = b4] rt3 <|
 .fin (x := .tup [.agg (fsyA f), .agg [aI 6, aI 0, aI 0, aI 0, aS ([]), aN]]) (r := .tup [.agg (fsyA (statD f c).1), .agg (repA (statD f c).2)]) [b3 = b3, b4 = b4] rt2 (by
  have e : statD f c = _ := if_neg (by rw [q1]; decide)
  rw [e]
  exact Sub.tups ⟨sR, (rep_sub _ _ _ _ _), trivial⟩))
 <| fun q1 => have q1 := notF q1; have p1 := booT q1; let J1 : Jn (Unit) := ⟨fun j1 => ⟨[(4, .ptr 4 b3 0), (5, .ptr 5 b4 0)], [(4, .box b3 24 (fsyA f)), (5, .box b4 30 [aI 0, aI ((findN f c.ino).kind), aI ((findN f c.ino).links), aI (sizeN (findN f c.ino)), aS ([]), aN])]⟩, fun _ => True⟩
 .cut J1 (.pick [0, 1, 3, 5] <| .run 4 [b1 = b1, b5 = b5] rt2 <|
 .fork <| .alt (.run 1 [b5 = b5] rt1 <|
 .fork <| .alt (.run 1 [b5 = b5] rt1 <|
 .pick [6, 7, 8, 9] <| .call (size_spec (findN f c.ino)) <|
 .run 3 [b3 = b3, b4 = b4] rt2 <|
 .join J1 () trivial ⟨[(4, .ptr 4 b3 0), (5, .ptr 5 b4 0)], [(4, .box b3 24 (fsyA f)), (5, .box b4 30 [aI 0, aI ((findN f c.ino).kind), aI ((findN f c.ino).links), aI (sizeN (findN f c.ino)), aS ([]), aN])]⟩ sr2 ⟨⟨_, rfl, SubB.refl _⟩, ⟨_, rfl, SubB.refl _⟩, trivial⟩)
 <| .call (size_spec (findN f c.ino)) <|
 .fork <| .alt (.run 1 [b5 = b5] rt1 <|
 .pick [7, 8, 9] <| .run 3 [b3 = b3, b4 = b4] rt2 <|
 .join J1 () trivial ⟨[(4, .ptr 4 b3 0), (5, .ptr 5 b4 0)], [(4, .box b3 24 (fsyA f)), (5, .box b4 30 [aI 0, aI ((findN f c.ino).kind), aI ((findN f c.ino).links), aI (sizeN (findN f c.ino)), aS ([]), aN])]⟩ sr2 ⟨⟨_, rfl, SubB.refl _⟩, ⟨_, rfl, SubB.refl _⟩, trivial⟩)
 <| .run 1 [b3 = b3] rt1 <|
 .pick [4, 7, 9] <| .run 3 [b5 = b5, b4 = b4] rt2 <|
 .join J1 () trivial ⟨[(4, .ptr 4 b3 0), (5, .ptr 5 b4 0)], [(4, .box b3 24 (fsyA f)), (5, .box b4 30 [aI 0, aI ((findN f c.ino).kind), aI ((findN f c.ino).links), aI (sizeN (findN f c.ino)), aS ([]), aN])]⟩ sr2 ⟨⟨_, rfl, SubB.refl _⟩, ⟨_, rfl, SubB.refl _⟩, trivial⟩)
 <| .alt (.run 1 [b5 = b5] rt1 <|
 .fork <| .alt (.run 1 [b5 = b5] rt1 <|
 .pick [6, 7, 8, 9] <| .call (size_spec (findN f c.ino)) <|
 .run 3 [b3 = b3, b4 = b4] rt2 <|
 .join J1 () trivial ⟨[(4, .ptr 4 b3 0), (5, .ptr 5 b4 0)], [(4, .box b3 24 (fsyA f)), (5, .box b4 30 [aI 0, aI ((findN f c.ino).kind), aI ((findN f c.ino).links), aI (sizeN (findN f c.ino)), aS ([]), aN])]⟩ sr2 ⟨⟨_, rfl, SubB.refl _⟩, ⟨_, rfl, SubB.refl _⟩, trivial⟩)
 <| .call (size_spec (findN f c.ino)) <|
 .fork <| .alt (.run 1 [b5 = b5] rt1 <|
 .pick [7, 8, 9] <| .run 3 [b3 = b3, b4 = b4] rt2 <|
 .join J1 () trivial ⟨[(4, .ptr 4 b3 0), (5, .ptr 5 b4 0)], [(4, .box b3 24 (fsyA f)), (5, .box b4 30 [aI 0, aI ((findN f c.ino).kind), aI ((findN f c.ino).links), aI (sizeN (findN f c.ino)), aS ([]), aN])]⟩ sr2 ⟨⟨_, rfl, SubB.refl _⟩, ⟨_, rfl, SubB.refl _⟩, trivial⟩)
 <| .run 1 [b3 = b3] rt1 <|
 .pick [2, 7, 9] <| .run 3 [b5 = b5, b4 = b4] rt2 <|
 .join J1 () trivial ⟨[(4, .ptr 4 b3 0), (5, .ptr 5 b4 0)], [(4, .box b3 24 (fsyA f)), (5, .box b4 30 [aI 0, aI ((findN f c.ino).kind), aI ((findN f c.ino).links), aI (sizeN (findN f c.ino)), aS ([]), aN])]⟩ sr2 ⟨⟨_, rfl, SubB.refl _⟩, ⟨_, rfl, SubB.refl _⟩, trivial⟩)
 <| .call (size_spec (findN f c.ino)) <|
 .fork <| .alt (.run 1 [b5 = b5] rt1 <|
 .fork <| .alt (.run 1 [b5 = b5] rt1 <|
 .pick [7, 8, 9] <| .run 3 [b3 = b3, b4 = b4] rt2 <|
 .join J1 () trivial ⟨[(4, .ptr 4 b3 0), (5, .ptr 5 b4 0)], [(4, .box b3 24 (fsyA f)), (5, .box b4 30 [aI 0, aI ((findN f c.ino).kind), aI ((findN f c.ino).links), aI (sizeN (findN f c.ino)), aS ([]), aN])]⟩ sr2 ⟨⟨_, rfl, SubB.refl _⟩, ⟨_, rfl, SubB.refl _⟩, trivial⟩)
 <| .run 1 [b3 = b3] rt1 <|
 .pick [4, 7, 9] <| .run 3 [b5 = b5, b4 = b4] rt2 <|
 .join J1 () trivial ⟨[(4, .ptr 4 b3 0), (5, .ptr 5 b4 0)], [(4, .box b3 24 (fsyA f)), (5, .box b4 30 [aI 0, aI ((findN f c.ino).kind), aI ((findN f c.ino).links), aI (sizeN (findN f c.ino)), aS ([]), aN])]⟩ sr2 ⟨⟨_, rfl, SubB.refl _⟩, ⟨_, rfl, SubB.refl _⟩, trivial⟩)
 <| .alt (.run 1 [b5 = b5] rt1 <|
 .fork <| .alt (.run 1 [b5 = b5] rt1 <|
 .pick [7, 8, 9] <| .run 3 [b3 = b3, b4 = b4] rt2 <|
 .join J1 () trivial ⟨[(4, .ptr 4 b3 0), (5, .ptr 5 b4 0)], [(4, .box b3 24 (fsyA f)), (5, .box b4 30 [aI 0, aI ((findN f c.ino).kind), aI ((findN f c.ino).links), aI (sizeN (findN f c.ino)), aS ([]), aN])]⟩ sr2 ⟨⟨_, rfl, SubB.refl _⟩, ⟨_, rfl, SubB.refl _⟩, trivial⟩)
 <| .run 1 [b3 = b3] rt1 <|
 .pick [2, 7, 9] <| .run 3 [b5 = b5, b4 = b4] rt2 <|
 .join J1 () trivial ⟨[(4, .ptr 4 b3 0), (5, .ptr 5 b4 0)], [(4, .box b3 24 (fsyA f)), (5, .box b4 30 [aI 0, aI ((findN f c.ino).kind), aI ((findN f c.ino).links), aI (sizeN (findN f c.ino)), aS ([]), aN])]⟩ sr2 ⟨⟨_, rfl, SubB.refl _⟩, ⟨_, rfl, SubB.refl _⟩, trivial⟩)
 <| .run 1 [b3 = b3] rt1 <|
 .pick [2, 4, 7, 9] <| .run 4 [b5 = b5, b5 = b5, b4 = b4] rt3 <|
 .join J1 () trivial ⟨[(4, .ptr 4 b3 0), (5, .ptr 5 b4 0)], [(4, .box b3 24 (fsyA f)), (5, .box b4 30 [aI 0, aI ((findN f c.ino).kind), aI ((findN f c.ino).links), aI (sizeN (findN f c.ino)), aS ([]), aN])]⟩ sr2 ⟨⟨_, rfl, SubB.refl _⟩, ⟨_, rfl, SubB.refl _⟩, trivial⟩)
 <| fun _ _ => .fin (x := .tup [.agg (fsyA f), .agg [aI 0, aI ((findN f c.ino).kind), aI ((findN f c.ino).links), aI (sizeN (findN f c.ino)), aS ([]), aN]]) (r := .tup [.agg (fsyA (statD f c).1), .agg (repA (statD f c).2)]) [b3 = b3, b4 = b4] rt2 (by
  have e : statD f c = _ := if_pos q1
  rw [e]
  exact Sub.tups ⟨sR, (rep_sub _ _ _ _ _), trivial⟩)) Tryz.func71 rfl (by kernel_rfl) (by kernel_rfl)
theorem dread_o (f : Fsy) (c : Cal) (okf : OkF f) (okc : OkCal c) (hp : rowsP f) : FSpec Tryz.prog 72 [.agg (fsyA f), .agg (calA c)] (.tup [.agg (fsyA (readO f c).1), .agg (repA (readO f c).2)]) := by
 have hl := hp.1
 have hr := rows_rise hp
 have hcn := okc.name
 have hcn2 := okc.name2
 have hct := okc.text
 exact spec_vc (F := Tryz.f72) 400 (
 .new fun b1 => .new fun b2 => .new fun b3 => .new fun b4 => .run 3 [b1 = b1, b2 = b2] rt2 <|
 .call (of_spec f c.ino 1 hp) <|
 .r 3 <| .new fun b5 => .run 2 [b5 = b5] rt1 <|
 .r 2 <| .br 17 ((ofE f c.ino 1) != 0) (fun q1 => have p1 := bneT q1; .run 5 [b1 = b1, b3 = b3, b4 = b4] rt3 <|
 .fin (x := .tup [.agg (fsyA f), .agg [aI (ofE f c.ino 1), aI 0, aI 0, aI 0, aS ([]), aN]]) (r := .tup [.agg (fsyA (readO f c).1), .agg (repA (readO f c).2)]) [b3 = b3, b4 = b4] rt2 (by
  have e : readO f c = _ := if_neg (bneT q1)
  rw [e]
  exact Sub.tups ⟨sR, (rep_sub _ _ _ _ _), trivial⟩))
 <| fun q1 => have p1 := bneF q1; have eo := of_yes (show ofE f c.ino 1 = 0 from bneF q1); .run 6 [b5 = b5, b2 = b2, b2 = b2] rt3 <|
 .callS (args0 := [aS ((ofN f c.ino 1).text), aI c.at_, aI c.many]) (args := [aS ((findN f c.ino).text), aI c.at_, aI c.many]) ⟨by rw [eo]; exact sR, sR, sR, trivial⟩ (dread_spec (findN f c.ino).text c.at_ c.many (by have := txt_len hp c.ino; omega) okc.at_ okc.many) <|
 .r 5 <| .run 6 [b1 = b1, b3 = b3, b4 = b4] rt3 <|
 .fin (x := .tup [.agg (fsyA f), .agg [aI ((readD (findN f c.ino).text c.at_ c.many).2), aI 0, aI 0, aI 0, aS ((readD (findN f c.ino).text c.at_ c.many).1), aN]]) (r := .tup [.agg (fsyA (readO f c).1), .agg (repA (readO f c).2)]) [b3 = b3, b4 = b4] rt2 (by
  have e0 : ofE f c.ino 1 = 0 := bneF q1
  have e : readO f c = _ := if_pos e0
  rw [e]
  exact Sub.tups ⟨sR, (rep_sub _ _ _ _ _), trivial⟩)) Tryz.func72 rfl (by kernel_rfl) (by kernel_rfl)
theorem dwrite_o (f : Fsy) (c : Cal) (okf : OkF f) (okc : OkCal c) (hp : rowsP f) : FSpec Tryz.prog 73 [.agg (fsyA f), .agg (calA c)] (.tup [.agg (fsyA (writeO f c).1), .agg (repA (writeO f c).2)]) := by
 have hl := hp.1
 have hr := rows_rise hp
 have hcn := okc.name
 have hcn2 := okc.name2
 have hct := okc.text
 exact spec_vc (F := Tryz.f73) 400 (
 .new fun b1 => .new fun b2 => .new fun b3 => .new fun b4 => .run 3 [b1 = b1, b2 = b2] rt2 <|
 .call (of_spec f c.ino 1 hp) <|
 .r 3 <| .new fun b5 => .run 2 [b5 = b5] rt1 <|
 .r 2 <| .br 16 ((ofE f c.ino 1) != 0) (fun q1 => have p1 := bneT q1; .run 5 [b1 = b1, b3 = b3, b4 = b4] rt3 <|
 .fin (x := .tup [.agg (fsyA f), .agg [aI (ofE f c.ino 1), aI 0, aI 0, aI 0, aS ([]), aN]]) (r := .tup [.agg (fsyA (writeO f c).1), .agg (repA (writeO f c).2)]) [b3 = b3, b4 = b4] rt2 (by
  have e : writeO f c = _ := if_neg (bneT q1)
  rw [e]
  exact Sub.tups ⟨sR, (rep_sub _ _ _ _ _), trivial⟩))
 <| fun q1 => have p1 := bneF q1; have eo := of_yes (show ofE f c.ino 1 = 0 from bneF q1); .run 6 [b5 = b5, b2 = b2, b2 = b2] rt3 <|
 .callS (args0 := [aS ((ofN f c.ino 1).text), aI c.at_, aS c.text]) (args := [aS ((findN f c.ino).text), aI c.at_, aS c.text]) ⟨by rw [eo]; exact sR, sR, sR, trivial⟩ (dwrite_spec (findN f c.ino).text c.at_ c.text (by have := txt_len hp c.ino; omega) okc.at_ hct) <|
 .run 6 [b5 = b5] rt1 <|
 let J1 : Jn (Unit) := ⟨fun j1 => ⟨[(4, .ptr 4 b3 0), (5, .ptr 5 b4 0)], [(4, .box b3 24 [.sl 5 false ((putF f (withT (findN f c.ino) (writeD (findN f c.ino).text c.at_ c.text).1)).l.map nodA), aI ((putF f (withT (findN f c.ino) (writeD (findN f c.ino).text c.at_ c.text).1)).next)]), (5, .box b4 30 [aI ((writeD (findN f c.ino).text c.at_ c.text).2), aI ((c.text).length : Int), aI 0, aI 0, aS ([]), aN])]⟩, fun _ => True⟩
 .cut J1 (.pick [0, 1, 3, 4] <| .run 4 [b1 = b1, b5 = b5] rt2 <|
 .fork <| .alt (.callS (args0 := [.agg (fsyA f), .agg [aI ((ofN f c.ino 1).ino), aI ((ofN f c.ino 1).kind), aI ((ofN f c.ino 1).links), aS ((writeD (findN f c.ino).text c.at_ c.text).1), .sl 2 false ((ofN f c.ino 1).l.map entA)]]) (args := [.agg (fsyA f), .agg [aI ((withT (findN f c.ino) (writeD (findN f c.ino).text c.at_ c.text).1).ino), aI ((withT (findN f c.ino) (writeD (findN f c.ino).text c.at_ c.text).1).kind), aI ((withT (findN f c.ino) (writeD (findN f c.ino).text c.at_ c.text).1).links), aS ((withT (findN f c.ino) (writeD (findN f c.ino).text c.at_ c.text).1).text), .sl 2 false ((withT (findN f c.ino) (writeD (findN f c.ino).text c.at_ c.text).1).l.map entA)]]) ⟨sR, by rw [eo]; exact sR, trivial⟩ (put_spec f (withT (findN f c.ino) (writeD (findN f c.ino).text c.at_ c.text).1) (find_I64 okf hp c.ino) (by omega) hr) <|
 .fork <| .alt (.run 1 [b2 = b2] rt1 <|
 .pick [6, 7, 8, 9] <| .run 4 [b3 = b3, b4 = b4] rt2 <|
 .join J1 () trivial ⟨[(4, .ptr 4 b3 0), (5, .ptr 5 b4 0)], [(4, .box b3 24 [.sl 5 false ((putF f (withT (findN f c.ino) (writeD (findN f c.ino).text c.at_ c.text).1)).l.map nodA), aI ((putF f (withT (findN f c.ino) (writeD (findN f c.ino).text c.at_ c.text).1)).next)]), (5, .box b4 30 [aI ((writeD (findN f c.ino).text c.at_ c.text).2), aI ((c.text).length : Int), aI 0, aI 0, aS ([]), aN])]⟩ sr2 ⟨⟨_, rfl, SubB.refl _⟩, ⟨_, rfl, SubB.refl _⟩, trivial⟩)
 <| .run 1 [b3 = b3] rt1 <|
 .pick [5, 6, 7, 9] <| .run 4 [b2 = b2, b4 = b4] rt2 <|
 .join J1 () trivial ⟨[(4, .ptr 4 b3 0), (5, .ptr 5 b4 0)], [(4, .box b3 24 [.sl 5 false ((putF f (withT (findN f c.ino) (writeD (findN f c.ino).text c.at_ c.text).1)).l.map nodA), aI ((putF f (withT (findN f c.ino) (writeD (findN f c.ino).text c.at_ c.text).1)).next)]), (5, .box b4 30 [aI ((writeD (findN f c.ino).text c.at_ c.text).2), aI ((c.text).length : Int), aI 0, aI 0, aS ([]), aN])]⟩ sr2 ⟨⟨_, rfl, SubB.refl _⟩, ⟨_, rfl, SubB.refl _⟩, trivial⟩)
 <| .run 1 [b2 = b2] rt1 <|
 .pick [6, 7, 2, 8, 9] <| .r 2 <| .callS (args0 := [.agg (fsyA f), .agg [aI ((ofN f c.ino 1).ino), aI ((ofN f c.ino 1).kind), aI ((ofN f c.ino 1).links), aS ((writeD (findN f c.ino).text c.at_ c.text).1), .sl 2 false ((ofN f c.ino 1).l.map entA)]]) (args := [.agg (fsyA f), .agg [aI ((withT (findN f c.ino) (writeD (findN f c.ino).text c.at_ c.text).1).ino), aI ((withT (findN f c.ino) (writeD (findN f c.ino).text c.at_ c.text).1).kind), aI ((withT (findN f c.ino) (writeD (findN f c.ino).text c.at_ c.text).1).links), aS ((withT (findN f c.ino) (writeD (findN f c.ino).text c.at_ c.text).1).text), .sl 2 false ((withT (findN f c.ino) (writeD (findN f c.ino).text c.at_ c.text).1).l.map entA)]]) ⟨sR, by rw [eo]; exact sR, trivial⟩ (put_spec f (withT (findN f c.ino) (writeD (findN f c.ino).text c.at_ c.text).1) (find_I64 okf hp c.ino) (by omega) hr) <|
 .run 2 [b3 = b3, b4 = b4] rt2 <|
 .join J1 () trivial ⟨[(4, .ptr 4 b3 0), (5, .ptr 5 b4 0)], [(4, .box b3 24 [.sl 5 false ((putF f (withT (findN f c.ino) (writeD (findN f c.ino).text c.at_ c.text).1)).l.map nodA), aI ((putF f (withT (findN f c.ino) (writeD (findN f c.ino).text c.at_ c.text).1)).next)]), (5, .box b4 30 [aI ((writeD (findN f c.ino).text c.at_ c.text).2), aI ((c.text).length : Int), aI 0, aI 0, aS ([]), aN])]⟩ sr2 ⟨⟨_, rfl, SubB.refl _⟩, ⟨_, rfl, SubB.refl _⟩, trivial⟩)
 <| fun _ _ => .fin (x := .tup [.agg [.sl 5 false ((putF f (withT (findN f c.ino) (writeD (findN f c.ino).text c.at_ c.text).1)).l.map nodA), aI ((putF f (withT (findN f c.ino) (writeD (findN f c.ino).text c.at_ c.text).1)).next)], .agg [aI ((writeD (findN f c.ino).text c.at_ c.text).2), aI ((c.text).length : Int), aI 0, aI 0, aS ([]), aN]]) (r := .tup [.agg (fsyA (writeO f c).1), .agg (repA (writeO f c).2)]) [b3 = b3, b4 = b4] rt2 (by
  have e0 : ofE f c.ino 1 = 0 := bneF q1
  have e : writeO f c = _ := if_pos e0
  rw [e]
  exact Sub.tups ⟨sR, (rep_sub _ _ _ _ _), trivial⟩)) Tryz.func73 rfl (by kernel_rfl) (by kernel_rfl)
theorem dcut_o (f : Fsy) (c : Cal) (okf : OkF f) (okc : OkCal c) (hp : rowsP f) : FSpec Tryz.prog 74 [.agg (fsyA f), .agg (calA c)] (.tup [.agg (fsyA (cutO f c).1), .agg (repA (cutO f c).2)]) := by
 have hl := hp.1
 have hr := rows_rise hp
 have hcn := okc.name
 have hcn2 := okc.name2
 have hct := okc.text
 exact spec_vc (F := Tryz.f74) 400 (
 .new fun b1 => .new fun b2 => .new fun b3 => .new fun b4 => .run 3 [b1 = b1, b2 = b2] rt2 <|
 .call (of_spec f c.ino 1 hp) <|
 .r 3 <| .new fun b5 => .run 2 [b5 = b5] rt1 <|
 .r 2 <| .br 16 ((ofE f c.ino 1) != 0) (fun q1 => have p1 := bneT q1; .run 5 [b1 = b1, b3 = b3, b4 = b4] rt3 <|
 .fin (x := .tup [.agg (fsyA f), .agg [aI (ofE f c.ino 1), aI 0, aI 0, aI 0, aS ([]), aN]]) (r := .tup [.agg (fsyA (cutO f c).1), .agg (repA (cutO f c).2)]) [b3 = b3, b4 = b4] rt2 (by
  have e : cutO f c = _ := if_neg (bneT q1)
  rw [e]
  exact Sub.tups ⟨sR, (rep_sub _ _ _ _ _), trivial⟩))
 <| fun q1 => have p1 := bneF q1; have eo := of_yes (show ofE f c.ino 1 = 0 from bneF q1); .run 4 [b5 = b5, b2 = b2] rt2 <|
 .callS (args0 := [aS ((ofN f c.ino 1).text), aI c.many]) (args := [aS ((findN f c.ino).text), aI c.many]) ⟨by rw [eo]; exact sR, sR, trivial⟩ (dcut_spec (findN f c.ino).text c.many (by have := txt_len hp c.ino; omega) okc.many) <|
 .run 6 [b5 = b5] rt1 <|
 .run 2 [b1 = b1, b5 = b5] rt2 <|
 .callS (args0 := [.agg (fsyA f), .agg [aI ((ofN f c.ino 1).ino), aI ((ofN f c.ino 1).kind), aI ((ofN f c.ino 1).links), aS ((cutD (findN f c.ino).text c.many).1), .sl 2 false ((ofN f c.ino 1).l.map entA)]]) (args := [.agg (fsyA f), .agg [aI ((withT (findN f c.ino) (cutD (findN f c.ino).text c.many).1).ino), aI ((withT (findN f c.ino) (cutD (findN f c.ino).text c.many).1).kind), aI ((withT (findN f c.ino) (cutD (findN f c.ino).text c.many).1).links), aS ((withT (findN f c.ino) (cutD (findN f c.ino).text c.many).1).text), .sl 2 false ((withT (findN f c.ino) (cutD (findN f c.ino).text c.many).1).l.map entA)]]) ⟨sR, by rw [eo]; exact sR, trivial⟩ (put_spec f (withT (findN f c.ino) (cutD (findN f c.ino).text c.many).1) (find_I64 okf hp c.ino) (by omega) hr) <|
 .run 4 [b3 = b3, b4 = b4] rt2 <|
 .fin (x := .tup [.agg [.sl 5 false ((putF f (withT (findN f c.ino) (cutD (findN f c.ino).text c.many).1)).l.map nodA), aI ((putF f (withT (findN f c.ino) (cutD (findN f c.ino).text c.many).1)).next)], .agg [aI ((cutD (findN f c.ino).text c.many).2), aI 0, aI 0, aI 0, aS ([]), aN]]) (r := .tup [.agg (fsyA (cutO f c).1), .agg (repA (cutO f c).2)]) [b3 = b3, b4 = b4] rt2 (by
  have e0 : ofE f c.ino 1 = 0 := bneF q1
  have e : cutO f c = _ := if_pos e0
  rw [e]
  exact Sub.tups ⟨sR, (rep_sub _ _ _ _ _), trivial⟩)) Tryz.func74 rfl (by kernel_rfl) (by kernel_rfl)
end Go.Proofs.YtkhnialfkndiiaaGreat
