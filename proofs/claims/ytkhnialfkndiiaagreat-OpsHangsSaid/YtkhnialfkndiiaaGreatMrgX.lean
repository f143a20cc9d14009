/- ref08.Under: over data. ref08.Right: over data. A tree is right. ref08.Below, ref10.Move over data. -/
import Derived.Test.YtkhnialfkndiiaaGreatMrgW
import Derived.Test.YtkhnialfkndiiaaGreatMrgS
import Derived.Test.YtkhnialfkndiiaaGreatMrgU
set_option maxRecDepth 100000
set_option maxHeartbeats 8000000
set_option linter.unusedVariables false
set_option linter.unusedSimpArgs false
namespace Go.Proofs.YtkhnialfkndiiaaGreat
open Go Go.RowKit Copyhold
theorem under_specM (f : Fsy) (i : Int) (okf : OkF f) (hf : midF f) : FSpec Tryz.prog 63 [.agg [.sl 5 false (f.l.map nodA), aI f.next], aI i] (.sl 1 false ((underF f i).map intA)) := by
  have hfl := okf.2.1
  have hfb := fun i => (findN_ok okf i).2.2.2.2.1
  exact spec_vc (F := Tryz.f63) 400 (
 .new fun b1 => .r 1 <| .r 1 <| .rowNil 5 5 3 1 <| .run 2 [b1 = b1] rt1 <|
 .call (rfind_spec f i (by omega)) <|
 .r 3 <| .new fun b2 => .run 2 [b2 = b2] rt1 <|
 .r 1 <| let L1 : Lp (Nat × Value) := ⟨fun a1 => ⟨[(2, .ptr 2 b1 0), (6, .ptr 6 b2 0), (8, aI (a1.1 : Int)), (5, .rw 5 a1.2 ((addE [] ((findN f i).l.take a1.1)).length))], [(2, .box b1 24 [.sl 5 false (f.l.map nodA), aI f.next]), (5, .row a1.2 3 1 ((addE [] ((findN f i).l.take a1.1)).map intA)), (6, .box b2 59 [aI ((findN f i).ino), aI ((findN f i).kind), aI ((findN f i).links), aS ((findN f i).text), .sl 2 false ((findN f i).l.map entA)])]⟩, fun a1 => (findN f i).l.length - a1.1, fun a1 => a1.1 ≤ (findN f i).l.length⟩
 .loop L1 (0, (.slice none 0 0)) (show 0 ≤ (findN f i).l.length from Nat.zero_le _) ⟨[(2, .ptr 2 b1 0), (6, .ptr 6 b2 0), (8, aI 0), (5, .rw 5 (.slice none 0 0) 0)], [(2, .box b1 24 [.sl 5 false (f.l.map nodA), aI f.next]), (5, .row (.slice none 0 0) 3 1 ([])), (6, .box b2 59 [aI ((findN f i).ino), aI ((findN f i).kind), aI ((findN f i).links), aS ((findN f i).text), .sl 2 false ((findN f i).l.map entA)])]⟩ ⟨Sub.refl _, Sub.refl _, Sub.of_eq (congrArg aI (by first | omega | rfl)), Sub.of_eq (congrArg (AV.rw 5 (.slice none 0 0)) (by simp [addE])), trivial⟩ ⟨⟨_, rfl, SubB.refl _⟩, ⟨_, rfl, SubB.of_eq (by simp [addE])⟩, ⟨_, rfl, SubB.refl _⟩, trivial⟩ fun a1 ha1 =>
 (fun (j : Nat) (V : Value) (hH1 : j ≤ (findN f i).l.length) => have hd1 := (ent_find_dst (Dst.nil f) i j).leM hf; have hb1 := hfb i; .run 4 [b2 = b2] rt1 <|
 .val 24 (show (aI (((findN f i).l.map entA).length : Int) : AV) = aI (((findN f i).l).length : Int) from by rw [List.length_map]) <| .r 1 <| .br 25 (decide ((j : Int) < (((findN f i).l).length : Int))) (fun q1 => have p1 := decT q1; .run 4 [b2 = b2] rt1 <|
 .idxM ((findN f i).l) entA j (m := (j : Int)) rfl (by omega) fun x1 hx1 =>
 .r 2 <| .op (cbR Tryz.prog 5) ((65, [.rw 5 V ((addE [] ((findN f i).l.take j)).length), aI x1.ino], some 35), (V, 3, 1, (addE [] ((findN f i).l.take j)).map intA)) (fun (_ : Unit) σ => σ.put (some 35) (aB (hasB (addE [] ((findN f i).l.take j)) x1.ino))) (rule_cb (args' := [.sl 1 false ((addE [] ((findN f i).l.take j)).map intA), aI x1.ino]) ⟨Fz.row _ _ _ _ _ _ (by first | rfl | (simp; done) | (simp; omega)), Fz.refl _ _, trivial⟩ (has_spec (addE [] ((findN f i).l.take j)) x1.ino (by omega)) rfl) fun _ =>
 .r 1 <| .r 2 <| .br 37 (!(hasB (addE [] ((findN f i).l.take j)) x1.ino)) (fun q2 => have q2 := notT q2; have p2 := booF q2; .run 4 [b2 = b2] rt1 <|
 .idx j (m := (j : Int)) (xs := (findN f i).l.map entA) (e := entA x1) rfl (map_some hx1) <|
 .r 3 <| .app 8 V ((addE [] ((findN f i).l.take j)).map intA) ([[aI x1.ino]]) (by simp only [List.length_map, List.length_cons, List.length_nil]; omega) (by simp only [List.length_map, List.length_cons, List.length_nil]; omega) fun V1 =>
 .r 1 <| .run 3 [rng .i64 ((j : Int) + 1)] ⟨rng64 (by omega) (by omega), trivial⟩ <|
 .back L1 (j, V) ((j + 1), V1) (show (j + 1) ≤ (findN f i).l.length from (by show _ ≤ _; omega)) (show (findN f i).l.length - (j + 1) < (findN f i).l.length - j from (by omega)) ⟨[(2, .ptr 2 b1 0), (6, .ptr 6 b2 0), (8, aI ((j : Int) + 1)), (5, .rw 5 V1 (((addE [] ((findN f i).l.take j)).map intA).length + ([[aI x1.ino]] : List (List AV)).length))], [(2, .box b1 24 [.sl 5 false (f.l.map nodA), aI f.next]), (5, .row V1 3 1 (((addE [] ((findN f i).l.take j)).map intA) ++ ([[aI x1.ino]]))), (6, .box b2 59 [aI ((findN f i).ino), aI ((findN f i).kind), aI ((findN f i).links), aS ((findN f i).text), .sl 2 false ((findN f i).l.map entA)])]⟩ ⟨Sub.refl _, Sub.refl _, Sub.of_eq (congrArg aI (by first | omega | rfl)), Sub.of_eq (congrArg (AV.rw 5 V1) (by rw [addE_no hx1 q2]; simp)), trivial⟩ ⟨⟨_, rfl, SubB.refl _⟩, ⟨_, rfl, SubB.of_eq (by rw [addE_no hx1 q2]; simp [intA])⟩, ⟨_, rfl, SubB.refl _⟩, trivial⟩)
 <| fun q2 => have q2 := notF q2; have p2 := booT q2; .run 3 [rng .i64 ((j : Int) + 1)] ⟨rng64 (by omega) (by omega), trivial⟩ <|
 .back L1 (j, V) ((j + 1), V) (show (j + 1) ≤ (findN f i).l.length from (by show _ ≤ _; omega)) (show (findN f i).l.length - (j + 1) < (findN f i).l.length - j from (by omega)) ⟨[(2, .ptr 2 b1 0), (6, .ptr 6 b2 0), (8, aI ((j : Int) + 1)), (5, .rw 5 V ((addE [] ((findN f i).l.take j)).length))], [(2, .box b1 24 [.sl 5 false (f.l.map nodA), aI f.next]), (5, .row V 3 1 ((addE [] ((findN f i).l.take j)).map intA)), (6, .box b2 59 [aI ((findN f i).ino), aI ((findN f i).kind), aI ((findN f i).links), aS ((findN f i).text), .sl 2 false ((findN f i).l.map entA)])]⟩ ⟨Sub.refl _, Sub.refl _, Sub.of_eq (congrArg aI (by first | omega | rfl)), Sub.of_eq (congrArg (AV.rw 5 V) (by rw [addE_yes hx1 q2])), trivial⟩ ⟨⟨_, rfl, SubB.refl _⟩, ⟨_, rfl, SubB.of_eq (by rw [addE_yes hx1 q2])⟩, ⟨_, rfl, SubB.refl _⟩, trivial⟩)
 <| fun q1 => have p1 := decF q1; .r 1 <| let L2 : Lp (Nat × List Int × Value) := ⟨fun a2 => ⟨[(2, .ptr 2 b1 0), (10, aI (a2.1 : Int)), (5, .rw 5 a2.2.2 a2.2.1.length)], [(2, .box b1 24 [.sl 5 false (f.l.map nodA), aI f.next]), (5, .row a2.2.2 3 1 (a2.2.1.map intA))]⟩, fun a2 => 300 - a2.1, fun a2 => UH f i a2.2.1 a2.1⟩
 .loop L2 (0, (addE [] ((findN f i).l.take j)), V) (show UH f i (addE [] ((findN f i).l.take j)) 0 from (UH.zero f i (by omega))) ⟨[(2, .ptr 2 b1 0), (10, aI 0), (5, .rw 5 V ((addE [] ((findN f i).l.take j)).length))], [(2, .box b1 24 [.sl 5 false (f.l.map nodA), aI f.next]), (5, .row V 3 1 ((addE [] ((findN f i).l.take j)).map intA))]⟩ ⟨Sub.refl _, Sub.of_eq (congrArg aI (by first | omega | rfl)), Sub.refl _, trivial⟩ ⟨⟨_, rfl, SubB.refl _⟩, ⟨_, rfl, SubB.refl _⟩, trivial⟩ fun a2 ha2 =>
 (fun (p : Nat) (U : List Int) (V : Value) (hH2 : UH f i U p) => have hu2 := hH2.1.leM hf; have hp2 := hH2.2.1; .r 4 <| .br 50 (decide ((p : Int) < (U.length : Int))) (fun q3 => have p3 := decT q3; .st (rowR 5) (V, 3, 1, U.map intA) (fun _ σ => σ) (rule_shape 5 (by first | omega | (rw [List.length_map]; omega) | (simp <;> omega))) fun a3r =>
 .pick [0, 1, 2, 3, 4] <| .run 3 [b1 = b1] rt1 <|
 .op (ixR Tryz.prog) (5, V, U.length, 1, (p : Int), some 57) (fun (_ : Unit) σ => σ.put (some 57) (.ep 5 V 1 p 0)) (rule_ixR p a3r.2.1 (by omega) (by first | omega | (rw [List.length_map]; omega) | (simp <;> omega))) fun _ =>
 .ex (some_of (l := U) (k := p) (by first | omega | (rw [List.length_map]; omega) | (simp <;> omega))) fun x2 hx2 =>
 .op (ldR Tryz.prog) (V, 1, p, 0, V, 1, U.map intA, 3, some 58) (fun (_ : Unit) σ => σ.put (some 58) (aI x2)) (rule_ldR (intA x2) (map_some hx2) (by kernel_rfl)) fun _ =>
 .fork <| .alt (.call (rfind_spec f x2 (by omega)) <|
 .pick [6, 7, 8, 9, 10, 11] <| .r 3 <| .new fun b4 => .run 2 [b4 = b4] rt1 <|
 .r 1 <| let L3 : Lp (Nat × Value) := ⟨fun a3 => ⟨[(2, .ptr 2 b1 0), (10, aI (p : Int)), (11, .ptr 11 b4 0), (13, aI (a3.1 : Int)), (5, .rw 5 a3.2 ((addE U ((findN f x2).l.take a3.1)).length))], [(2, .box b1 24 [.sl 5 false (f.l.map nodA), aI f.next]), (5, .row a3.2 3 1 ((addE U ((findN f x2).l.take a3.1)).map intA)), (11, .box b4 59 [aI ((findN f x2).ino), aI ((findN f x2).kind), aI ((findN f x2).links), aS ((findN f x2).text), .sl 2 false ((findN f x2).l.map entA)])]⟩, fun a3 => (findN f x2).l.length - a3.1, fun a3 => a3.1 ≤ (findN f x2).l.length⟩
 .loop L3 (0, V) (show 0 ≤ (findN f x2).l.length from Nat.zero_le _) ⟨[(2, .ptr 2 b1 0), (10, aI (p : Int)), (11, .ptr 11 b4 0), (13, aI 0), (5, .rw 5 V U.length)], [(2, .box b1 24 [.sl 5 false (f.l.map nodA), aI f.next]), (5, .row V 3 1 (U.map intA)), (11, .box b4 59 [aI ((findN f x2).ino), aI ((findN f x2).kind), aI ((findN f x2).links), aS ((findN f x2).text), .sl 2 false ((findN f x2).l.map entA)])]⟩ ⟨Sub.refl _, Sub.refl _, Sub.refl _, Sub.of_eq (congrArg aI (by first | omega | rfl)), Sub.of_eq (congrArg (AV.rw 5 V) (by simp [addE])), trivial⟩ ⟨⟨_, rfl, SubB.refl _⟩, ⟨_, rfl, SubB.of_eq (by simp [addE])⟩, ⟨_, rfl, SubB.refl _⟩, trivial⟩ fun a3 ha3 =>
 (fun (j : Nat) (Y : Value) (hH3 : j ≤ (findN f x2).l.length) => have hd3 := (ent_find_dst hH2.1 x2 j).leM hf; have hb3 := hfb x2; .run 4 [b4 = b4] rt1 <|
 .val 65 (show (aI (((findN f x2).l.map entA).length : Int) : AV) = aI (((findN f x2).l).length : Int) from by rw [List.length_map]) <| .r 1 <| .br 66 (decide ((j : Int) < (((findN f x2).l).length : Int))) (fun q4 => have p4 := decT q4; .run 4 [b4 = b4] rt1 <|
 .idxM ((findN f x2).l) entA j (m := (j : Int)) rfl (by omega) fun x3 hx3 =>
 .r 2 <| .op (cbR Tryz.prog 5) ((65, [.rw 5 Y ((addE U ((findN f x2).l.take j)).length), aI x3.ino], some 76), (Y, 3, 1, (addE U ((findN f x2).l.take j)).map intA)) (fun (_ : Unit) σ => σ.put (some 76) (aB (hasB (addE U ((findN f x2).l.take j)) x3.ino))) (rule_cb (args' := [.sl 1 false ((addE U ((findN f x2).l.take j)).map intA), aI x3.ino]) ⟨Fz.row _ _ _ _ _ _ (by first | rfl | (simp; done) | (simp; omega)), Fz.refl _ _, trivial⟩ (has_spec (addE U ((findN f x2).l.take j)) x3.ino (by omega)) rfl) fun _ =>
 .r 1 <| .r 2 <| .br 78 (!(hasB (addE U ((findN f x2).l.take j)) x3.ino)) (fun q5 => have q5 := notT q5; have p5 := booF q5; .run 4 [b4 = b4] rt1 <|
 .idx j (m := (j : Int)) (xs := (findN f x2).l.map entA) (e := entA x3) rfl (map_some hx3) <|
 .r 3 <| .app 8 Y ((addE U ((findN f x2).l.take j)).map intA) ([[aI x3.ino]]) (by simp only [List.length_map, List.length_cons, List.length_nil]; omega) (by simp only [List.length_map, List.length_cons, List.length_nil]; omega) fun V2 =>
 .r 1 <| .run 3 [rng .i64 ((j : Int) + 1)] ⟨rng64 (by omega) (by omega), trivial⟩ <|
 .back L3 (j, Y) ((j + 1), V2) (show (j + 1) ≤ (findN f x2).l.length from (by show _ ≤ _; omega)) (show (findN f x2).l.length - (j + 1) < (findN f x2).l.length - j from (by omega)) ⟨[(2, .ptr 2 b1 0), (10, aI (p : Int)), (11, .ptr 11 b4 0), (13, aI ((j : Int) + 1)), (5, .rw 5 V2 (((addE U ((findN f x2).l.take j)).map intA).length + ([[aI x3.ino]] : List (List AV)).length))], [(2, .box b1 24 [.sl 5 false (f.l.map nodA), aI f.next]), (5, .row V2 3 1 (((addE U ((findN f x2).l.take j)).map intA) ++ ([[aI x3.ino]]))), (11, .box b4 59 [aI ((findN f x2).ino), aI ((findN f x2).kind), aI ((findN f x2).links), aS ((findN f x2).text), .sl 2 false ((findN f x2).l.map entA)])]⟩ ⟨Sub.refl _, Sub.refl _, Sub.refl _, Sub.of_eq (congrArg aI (by first | omega | rfl)), Sub.of_eq (congrArg (AV.rw 5 V2) (by rw [addE_no hx3 q5]; simp)), trivial⟩ ⟨⟨_, rfl, SubB.refl _⟩, ⟨_, rfl, SubB.of_eq (by rw [addE_no hx3 q5]; simp [intA])⟩, ⟨_, rfl, SubB.refl _⟩, trivial⟩)
 <| fun q5 => have q5 := notF q5; have p5 := booT q5; .run 3 [rng .i64 ((j : Int) + 1)] ⟨rng64 (by omega) (by omega), trivial⟩ <|
 .back L3 (j, Y) ((j + 1), Y) (show (j + 1) ≤ (findN f x2).l.length from (by show _ ≤ _; omega)) (show (findN f x2).l.length - (j + 1) < (findN f x2).l.length - j from (by omega)) ⟨[(2, .ptr 2 b1 0), (10, aI (p : Int)), (11, .ptr 11 b4 0), (13, aI ((j : Int) + 1)), (5, .rw 5 Y ((addE U ((findN f x2).l.take j)).length))], [(2, .box b1 24 [.sl 5 false (f.l.map nodA), aI f.next]), (5, .row Y 3 1 ((addE U ((findN f x2).l.take j)).map intA)), (11, .box b4 59 [aI ((findN f x2).ino), aI ((findN f x2).kind), aI ((findN f x2).links), aS ((findN f x2).text), .sl 2 false ((findN f x2).l.map entA)])]⟩ ⟨Sub.refl _, Sub.refl _, Sub.refl _, Sub.of_eq (congrArg aI (by first | omega | rfl)), Sub.of_eq (congrArg (AV.rw 5 Y) (by rw [addE_yes hx3 q5])), trivial⟩ ⟨⟨_, rfl, SubB.refl _⟩, ⟨_, rfl, SubB.of_eq (by rw [addE_yes hx3 q5])⟩, ⟨_, rfl, SubB.refl _⟩, trivial⟩)
 <| fun q4 => have p4 := decF q4; .run 3 [rng .i64 ((p : Int) + 1)] ⟨rng64 (by omega) (by omega), trivial⟩ <|
 .back L2 (p, U, V) ((p + 1), (addE U ((findN f x2).l.take j)), Y) (show UH f i (addE U ((findN f x2).l.take j)) (p + 1) from (UH.stepM hf hH2 hx2 (by omega))) (show 300 - (p + 1) < 300 - p from (by omega)) ⟨[(2, .ptr 2 b1 0), (10, aI ((p : Int) + 1)), (5, .rw 5 Y ((addE U ((findN f x2).l.take j)).length))], [(2, .box b1 24 [.sl 5 false (f.l.map nodA), aI f.next]), (5, .row Y 3 1 ((addE U ((findN f x2).l.take j)).map intA))]⟩ ⟨Sub.refl _, Sub.of_eq (congrArg aI (by first | omega | rfl)), Sub.refl _, trivial⟩ ⟨⟨_, rfl, SubB.refl _⟩, ⟨_, rfl, SubB.refl _⟩, trivial⟩) a3.1 a3.2 ha3)
 <| .new fun b5 => .pick [5, 6, 7, 8, 10, 11] <| .call (rfind_spec f x2 (by omega)) <|
 .run 5 [b5 = b5] rt1 <|
 .r 1 <| let L3 : Lp (Nat × Value) := ⟨fun a3 => ⟨[(2, .ptr 2 b1 0), (10, aI (p : Int)), (11, .ptr 11 b5 0), (13, aI (a3.1 : Int)), (5, .rw 5 a3.2 ((addE U ((findN f x2).l.take a3.1)).length))], [(2, .box b1 24 [.sl 5 false (f.l.map nodA), aI f.next]), (5, .row a3.2 3 1 ((addE U ((findN f x2).l.take a3.1)).map intA)), (11, .box b5 59 [aI ((findN f x2).ino), aI ((findN f x2).kind), aI ((findN f x2).links), aS ((findN f x2).text), .sl 2 false ((findN f x2).l.map entA)])]⟩, fun a3 => (findN f x2).l.length - a3.1, fun a3 => a3.1 ≤ (findN f x2).l.length⟩
 .loop L3 (0, V) (show 0 ≤ (findN f x2).l.length from Nat.zero_le _) ⟨[(2, .ptr 2 b1 0), (10, aI (p : Int)), (11, .ptr 11 b5 0), (13, aI 0), (5, .rw 5 V U.length)], [(2, .box b1 24 [.sl 5 false (f.l.map nodA), aI f.next]), (5, .row V 3 1 (U.map intA)), (11, .box b5 59 [aI ((findN f x2).ino), aI ((findN f x2).kind), aI ((findN f x2).links), aS ((findN f x2).text), .sl 2 false ((findN f x2).l.map entA)])]⟩ ⟨Sub.refl _, Sub.refl _, Sub.refl _, Sub.of_eq (congrArg aI (by first | omega | rfl)), Sub.of_eq (congrArg (AV.rw 5 V) (by simp [addE])), trivial⟩ ⟨⟨_, rfl, SubB.refl _⟩, ⟨_, rfl, SubB.of_eq (by simp [addE])⟩, ⟨_, rfl, SubB.refl _⟩, trivial⟩ fun a3 ha3 =>
 (fun (j : Nat) (Y : Value) (hH3 : j ≤ (findN f x2).l.length) => have hd3 := (ent_find_dst hH2.1 x2 j).leM hf; have hb3 := hfb x2; .run 4 [b5 = b5] rt1 <|
 .val 65 (show (aI (((findN f x2).l.map entA).length : Int) : AV) = aI (((findN f x2).l).length : Int) from by rw [List.length_map]) <| .r 1 <| .br 66 (decide ((j : Int) < (((findN f x2).l).length : Int))) (fun q6 => have p6 := decT q6; .run 4 [b5 = b5] rt1 <|
 .idxM ((findN f x2).l) entA j (m := (j : Int)) rfl (by omega) fun x4 hx4 =>
 .r 2 <| .op (cbR Tryz.prog 5) ((65, [.rw 5 Y ((addE U ((findN f x2).l.take j)).length), aI x4.ino], some 76), (Y, 3, 1, (addE U ((findN f x2).l.take j)).map intA)) (fun (_ : Unit) σ => σ.put (some 76) (aB (hasB (addE U ((findN f x2).l.take j)) x4.ino))) (rule_cb (args' := [.sl 1 false ((addE U ((findN f x2).l.take j)).map intA), aI x4.ino]) ⟨Fz.row _ _ _ _ _ _ (by first | rfl | (simp; done) | (simp; omega)), Fz.refl _ _, trivial⟩ (has_spec (addE U ((findN f x2).l.take j)) x4.ino (by omega)) rfl) fun _ =>
 .r 1 <| .r 2 <| .br 78 (!(hasB (addE U ((findN f x2).l.take j)) x4.ino)) (fun q7 => have q7 := notT q7; have p7 := booF q7; .run 4 [b5 = b5] rt1 <|
 .idx j (m := (j : Int)) (xs := (findN f x2).l.map entA) (e := entA x4) rfl (map_some hx4) <|
 .r 3 <| .app 8 Y ((addE U ((findN f x2).l.take j)).map intA) ([[aI x4.ino]]) (by simp only [List.length_map, List.length_cons, List.length_nil]; omega) (by simp only [List.length_map, List.length_cons, List.length_nil]; omega) fun V3 =>
 .r 1 <| .run 3 [rng .i64 ((j : Int) + 1)] ⟨rng64 (by omega) (by omega), trivial⟩ <|
 .back L3 (j, Y) ((j + 1), V3) (show (j + 1) ≤ (findN f x2).l.length from (by show _ ≤ _; omega)) (show (findN f x2).l.length - (j + 1) < (findN f x2).l.length - j from (by omega)) ⟨[(2, .ptr 2 b1 0), (10, aI (p : Int)), (11, .ptr 11 b5 0), (13, aI ((j : Int) + 1)), (5, .rw 5 V3 (((addE U ((findN f x2).l.take j)).map intA).length + ([[aI x4.ino]] : List (List AV)).length))], [(2, .box b1 24 [.sl 5 false (f.l.map nodA), aI f.next]), (5, .row V3 3 1 (((addE U ((findN f x2).l.take j)).map intA) ++ ([[aI x4.ino]]))), (11, .box b5 59 [aI ((findN f x2).ino), aI ((findN f x2).kind), aI ((findN f x2).links), aS ((findN f x2).text), .sl 2 false ((findN f x2).l.map entA)])]⟩ ⟨Sub.refl _, Sub.refl _, Sub.refl _, Sub.of_eq (congrArg aI (by first | omega | rfl)), Sub.of_eq (congrArg (AV.rw 5 V3) (by rw [addE_no hx4 q7]; simp)), trivial⟩ ⟨⟨_, rfl, SubB.refl _⟩, ⟨_, rfl, SubB.of_eq (by rw [addE_no hx4 q7]; simp [intA])⟩, ⟨_, rfl, SubB.refl _⟩, trivial⟩)
 <| fun q7 => have q7 := notF q7; have p7 := booT q7; .run 3 [rng .i64 ((j : Int) + 1)] ⟨rng64 (by omega) (by omega), trivial⟩ <|
 .back L3 (j, Y) ((j + 1), Y) (show (j + 1) ≤ (findN f x2).l.length from (by show _ ≤ _; omega)) (show (findN f x2).l.length - (j + 1) < (findN f x2).l.length - j from (by omega)) ⟨[(2, .ptr 2 b1 0), (10, aI (p : Int)), (11, .ptr 11 b5 0), (13, aI ((j : Int) + 1)), (5, .rw 5 Y ((addE U ((findN f x2).l.take j)).length))], [(2, .box b1 24 [.sl 5 false (f.l.map nodA), aI f.next]), (5, .row Y 3 1 ((addE U ((findN f x2).l.take j)).map intA)), (11, .box b5 59 [aI ((findN f x2).ino), aI ((findN f x2).kind), aI ((findN f x2).links), aS ((findN f x2).text), .sl 2 false ((findN f x2).l.map entA)])]⟩ ⟨Sub.refl _, Sub.refl _, Sub.refl _, Sub.of_eq (congrArg aI (by first | omega | rfl)), Sub.of_eq (congrArg (AV.rw 5 Y) (by rw [addE_yes hx4 q7])), trivial⟩ ⟨⟨_, rfl, SubB.refl _⟩, ⟨_, rfl, SubB.of_eq (by rw [addE_yes hx4 q7])⟩, ⟨_, rfl, SubB.refl _⟩, trivial⟩)
 <| fun q6 => have p6 := decF q6; .run 3 [rng .i64 ((p : Int) + 1)] ⟨rng64 (by omega) (by omega), trivial⟩ <|
 .back L2 (p, U, V) ((p + 1), (addE U ((findN f x2).l.take j)), Y) (show UH f i (addE U ((findN f x2).l.take j)) (p + 1) from (UH.stepM hf hH2 hx2 (by omega))) (show 300 - (p + 1) < 300 - p from (by omega)) ⟨[(2, .ptr 2 b1 0), (10, aI ((p : Int) + 1)), (5, .rw 5 Y ((addE U ((findN f x2).l.take j)).length))], [(2, .box b1 24 [.sl 5 false (f.l.map nodA), aI f.next]), (5, .row Y 3 1 ((addE U ((findN f x2).l.take j)).map intA))]⟩ ⟨Sub.refl _, Sub.of_eq (congrArg aI (by first | omega | rfl)), Sub.refl _, trivial⟩ ⟨⟨_, rfl, SubB.refl _⟩, ⟨_, rfl, SubB.refl _⟩, trivial⟩) a3.1 a3.2 ha3)
 <| fun q3 => have p3 := decF q3; .r 2 <| .frz 5 [4] [] [V = V, U.length = (U.map intA).length] ⟨rfl, (by first | rfl | (simp; done) | (simp; omega)), trivial⟩ <|
 .fin (x := .sl 1 false (U.map intA)) (r := .sl 1 false ((underF f i).map intA)) [] trivial (by exact (Sub.of_eq (by rw [UH.done hH2 (by omega)])).trans (Sub.loose _ _ _))) a2.1 a2.2.1 a2.2.2 ha2) a1.1 a1.2 ha1) Tryz.func63 rfl (by kernel_rfl) (by kernel_rfl)
theorem right_specM (f : Fsy) (okf : OkF f) (hf : midF f) : FSpec Tryz.prog 32 [.agg [.sl 5 false (f.l.map nodA), aI f.next]] (aB (dP (rightP f))) := by
  have hfl := okf.2.1
  have hul := under_leM hf 1
  exact spec_vc (F := Tryz.f32) 400 (
 .new fun b1 => .r 1 <| .run 1 [b1 = b1] rt1 <|
 .call (rrows_spec f okf) <|
 .r 1 <| .r 3 <| .br 15 (!(dP (rowsP f))) (fun q1 => have q1 := notT q1; have p1 := booF q1; .r 29 <| .r 1 <| .fin (x := aB false) (r := aB (dP (rightP f))) [] trivial (by
    refine sF (fun h => ?_)
    obtain ⟨g, ⟨n, hn, a, b, c⟩, _⟩ := h
    first | exact dP_false.1 (by assumption) g | (have := lt_of_some hn; omega)))
 <| fun q1 => have q1 := notF q1; have p1 := booT q1; .run 3 [b1 = b1] rt1 <|
 .val 18 (show (aI ((f.l.map nodA).length : Int) : AV) = aI (f.l.length : Int) from by rw [List.length_map]) <| .r 3 <| .br 21 (decide ((f.l.length : Int) < 1)) (fun q2 => have p2 := decT q2; .r 23 <| .r 1 <| .fin (x := aB false) (r := aB (dP (rightP f))) [] trivial (by
    refine sF (fun h => ?_)
    obtain ⟨g, ⟨n, hn, a, b, c⟩, _⟩ := h
    first | exact dP_false.1 (by assumption) g | (have := lt_of_some hn; omega)))
 <| fun q2 => have p2 := decF q2; .run 2 [b1 = b1] rt1 <|
 .idxM f.l nodA 0 (m := 0) rfl (by omega) fun x1 hx1 =>
 have okx1 := okf.2.2 x1 (List.mem_of_getElem? hx1); have blx1 := okx1.2.2.2.2.1; .r 5 <| .br 29 (x1.ino != 1) (fun q3 => have p3 := bneT q3; .r 15 <| .r 1 <| .fin (x := aB false) (r := aB (dP (rightP f))) [] trivial (by
    refine sF (fun h => ?_)
    obtain ⟨g, ⟨n, hn, a, b, c⟩, _⟩ := h
    first | exact dP_false.1 (by assumption) g | (have := lt_of_some hn; omega)| (rw [hx1] at hn; obtain rfl := Option.some.inj hn; omega)))
 <| fun q3 => have p3 := bneF q3; .run 2 [b1 = b1] rt1 <|
 .idx 0 (m := 0) (xs := f.l.map nodA) (e := nodA x1) rfl (map_some hx1) <|
 .r 5 <| .br 37 (x1.kind != 2) (fun q4 => have p4 := bneT q4; .r 7 <| .r 1 <| .fin (x := aB false) (r := aB (dP (rightP f))) [] trivial (by
    refine sF (fun h => ?_)
    obtain ⟨g, ⟨n, hn, a, b, c⟩, _⟩ := h
    first | exact dP_false.1 (by assumption) g | (have := lt_of_some hn; omega)| (rw [hx1] at hn; obtain rfl := Option.some.inj hn; omega)))
 <| fun q4 => have p4 := bneF q4; .run 2 [b1 = b1] rt1 <|
 .idx 0 (m := 0) (xs := f.l.map nodA) (e := nodA x1) rfl (map_some hx1) <|
 .r 4 <| .br 44 (x1.links != 0) (fun q5 => have p5 := bneT q5; .r 1 <| .fin (x := aB false) (r := aB (dP (rightP f))) [] trivial (by
    refine sF (fun h => ?_)
    obtain ⟨g, ⟨n, hn, a, b, c⟩, _⟩ := h
    first | exact dP_false.1 (by assumption) g | (have := lt_of_some hn; omega)| (rw [hx1] at hn; obtain rfl := Option.some.inj hn; omega)))
 <| fun q5 => have p5 := bneF q5; .run 1 [b1 = b1] rt1 <|
 .call (under_specM f 1 okf hf) <|
 .r 1 <| .r 1 <| let L1 : Lp (Nat) := ⟨fun a1 => ⟨[(1, .ptr 1 b1 0), (4, .sl 1 false ((underF f 1).map intA)), (5, aI (a1 : Int))], [(1, .box b1 24 [.sl 5 false (f.l.map nodA), aI f.next])]⟩, fun a1 => f.l.length - a1, fun a1 => AllTo (nodeR f) f.l a1⟩
 .loop L1 0 (show AllTo (nodeR f) f.l 0 from (AllTo.zero _ _)) ⟨[(1, .ptr 1 b1 0), (4, .sl 1 false ((underF f 1).map intA)), (5, aI 0)], [(1, .box b1 24 [.sl 5 false (f.l.map nodA), aI f.next])]⟩ ⟨Sub.refl _, Sub.refl _, Sub.of_eq (congrArg aI (by first | omega | rfl)), trivial⟩ ⟨⟨_, rfl, SubB.refl _⟩, trivial⟩ fun a1 ha1 =>
 (fun (k : Nat) (hH1 : AllTo (nodeR f) f.l k) => .run 4 [b1 = b1] rt1 <|
 .val 50 (show (aI ((f.l.map nodA).length : Int) : AV) = aI (f.l.length : Int) from by rw [List.length_map]) <| .r 1 <| .br 51 (decide ((k : Int) < (f.l.length : Int))) (fun q6 => have p6 := decT q6; .run 3 [b1 = b1] rt1 <|
 .idxM f.l nodA k (m := (k : Int)) rfl (by omega) fun x2 hx2 =>
 have okx2 := okf.2.2 x2 (List.mem_of_getElem? hx2); have blx2 := okx2.2.2.2.2.1; .r 1 <| .new fun b2 => .run 1 [b2 = b2] rt1 <|
 .ord [0, 1, 2, 3, 4, 5, 6] <| .run 5 [b2 = b2, b1 = b1, b2 = b2] rt3 <|
 .call (names_specM f x2.ino okf hf) <|
 .r 1 <| .br 65 (x2.links != (namesF f x2.ino : Int)) (fun q7 => have p7 := bneT q7; .r 1 <| .fin (x := aB false) (r := aB (dP (rightP f))) [] trivial (by
    refine sF (fun h => ?_)
    have g := (h.2.2.at hx2).1
    omega))
 <| fun q7 => have p7 := bneF q7; .run 3 [b2 = b2] rt1 <|
 .call (has_spec (underF f 1) x2.ino (by omega)) <|
 .r 1 <| .r 3 <| .br 72 (decide ((k : Int) > 0)) (fun q8 => have p8 := decT q8; .run 4 [b2 = b2] rt1 <|
 .br 76 (decide (x2.links < 1)) (fun q9 => have p9 := decT q9; .r 14 <| .r 1 <| .fin (x := aB false) (r := aB (dP (rightP f))) [] trivial (by
    refine sF (fun h => ?_)
    have g := (h.2.2.at hx2).2.1
    rw [show lateR f k x2 = false from by unfold lateR; simp only [q8, q9, Bool.and_false, Bool.false_and, Bool.true_and, Bool.and_true, Bool.or_false, Bool.false_or, Bool.or_true, Bool.true_or, Bool.not_true, Bool.not_false]] at g
    cases g))
 <| fun q9 => have p9 := decF q9; .run 4 [b2 = b2] rt1 <|
 .br 80 (x2.kind == 2) (fun q10 => have p10 := beqT q10; .run 4 [b2 = b2] rt1 <|
 .br 84 (decide (x2.links > 1)) (fun q11 => have p11 := decT q11; .r 6 <| .r 1 <| .fin (x := aB false) (r := aB (dP (rightP f))) [] trivial (by
    refine sF (fun h => ?_)
    have g := (h.2.2.at hx2).2.1
    rw [show lateR f k x2 = false from by unfold lateR; simp only [q8, q9, q10, q11, Bool.and_false, Bool.false_and, Bool.true_and, Bool.and_true, Bool.or_false, Bool.false_or, Bool.or_true, Bool.true_or, Bool.not_true, Bool.not_false]] at g
    cases g))
 <| fun q11 => have p11 := decF q11; .r 6 <| .br 90 (!(hasB (underF f 1) x2.ino)) (fun q12 => have q12 := notT q12; have p12 := booF q12; .r 1 <| .fin (x := aB false) (r := aB (dP (rightP f))) [] trivial (by
    refine sF (fun h => ?_)
    have g := (h.2.2.at hx2).2.1
    rw [show lateR f k x2 = false from by unfold lateR; simp only [q8, q9, q10, q11, q12, Bool.and_false, Bool.false_and, Bool.true_and, Bool.and_true, Bool.or_false, Bool.false_or, Bool.or_true, Bool.true_or, Bool.not_true, Bool.not_false]] at g
    cases g))
 <| fun q12 => have q12 := notF q12; have p12 := booT q12; .r 1 <| let L2 : Lp (Nat) := ⟨fun a2 => ⟨[(1, .ptr 1 b1 0), (4, .sl 1 false ((underF f 1).map intA)), (5, aI (k : Int)), (6, .ptr 6 b2 0), (8, aI (a2 : Int))], [(1, .box b1 24 [.sl 5 false (f.l.map nodA), aI f.next]), (6, .box b2 59 [aI x2.ino, aI x2.kind, aI x2.links, aS x2.text, .sl 2 false (x2.l.map entA)])]⟩, fun a2 => x2.l.length - a2, fun a2 => AllTo (fun _ e => findB f e.ino = true) x2.l a2⟩
 .loop L2 0 (show AllTo (fun _ e => findB f e.ino = true) x2.l 0 from AllTo.zero _ _) ⟨[(1, .ptr 1 b1 0), (4, .sl 1 false ((underF f 1).map intA)), (5, aI (k : Int)), (6, .ptr 6 b2 0), (8, aI 0)], [(1, .box b1 24 [.sl 5 false (f.l.map nodA), aI f.next]), (6, .box b2 59 [aI x2.ino, aI x2.kind, aI x2.links, aS x2.text, .sl 2 false (x2.l.map entA)])]⟩ ⟨Sub.refl _, Sub.refl _, Sub.refl _, Sub.refl _, Sub.of_eq (congrArg aI (by first | omega | rfl)), trivial⟩ ⟨⟨_, rfl, SubB.refl _⟩, ⟨_, rfl, SubB.refl _⟩, trivial⟩ fun a2 ha2 =>
 (fun (j : Nat) (hH2 : AllTo (fun _ e => findB f e.ino = true) x2.l j) => .run 4 [b2 = b2] rt1 <|
 .val 94 (show (aI ((x2.l.map entA).length : Int) : AV) = aI (x2.l.length : Int) from by rw [List.length_map]) <| .r 1 <| .br 95 (decide ((j : Int) < (x2.l.length : Int))) (fun q13 => have p13 := decT q13; .pick [0, 1, 2, 3, 4, 5, 6] <| .run 4 [b1 = b1, b2 = b2] rt2 <|
 .idxM x2.l entA j (m := (j : Int)) rfl (by omega) fun x3 hx3 =>
 .r 2 <| .fork <| .alt (.call (rfind_spec f x3.ino (by omega)) <|
 .pick [8, 9, 10, 11, 12, 13] <| .r 3 <| .new fun b3 => .run 2 [b3 = b3] rt1 <|
 .r 2 <| .br 110 (!(findB f x3.ino)) (fun q14 => have q14 := notT q14; have p14 := booF q14; .r 1 <| .fin (x := aB false) (r := aB (dP (rightP f))) [] trivial (by
    refine sF (fun h => ?_)
    have g := (h.2.2.at hx2).2.2.at hx3
    simp_all))
 <| fun q14 => have q14 := notF q14; have p14 := booT q14; .run 3 [rng .i64 ((j : Int) + 1)] ⟨rng64 (by omega) (by omega), trivial⟩ <|
 .back L2 j (j + 1) (show AllTo (fun _ e => findB f e.ino = true) x2.l (j + 1) from (hH2.step hx3 (by assumption))) (show x2.l.length - (j + 1) < x2.l.length - j from (by omega)) ⟨[(1, .ptr 1 b1 0), (4, .sl 1 false ((underF f 1).map intA)), (5, aI (k : Int)), (6, .ptr 6 b2 0), (8, aI ((j : Int) + 1))], [(1, .box b1 24 [.sl 5 false (f.l.map nodA), aI f.next]), (6, .box b2 59 [aI x2.ino, aI x2.kind, aI x2.links, aS x2.text, .sl 2 false (x2.l.map entA)])]⟩ ⟨Sub.refl _, Sub.refl _, Sub.refl _, Sub.refl _, Sub.of_eq (congrArg aI (by first | omega | rfl)), trivial⟩ ⟨⟨_, rfl, SubB.refl _⟩, ⟨_, rfl, SubB.refl _⟩, trivial⟩)
 <| .new fun b4 => .pick [7, 8, 9, 10, 12, 13] <| .call (rfind_spec f x3.ino (by omega)) <|
 .run 5 [b4 = b4] rt1 <|
 .r 2 <| .br 110 (!(findB f x3.ino)) (fun q15 => have q15 := notT q15; have p15 := booF q15; .r 1 <| .fin (x := aB false) (r := aB (dP (rightP f))) [] trivial (by
    refine sF (fun h => ?_)
    have g := (h.2.2.at hx2).2.2.at hx3
    simp_all))
 <| fun q15 => have q15 := notF q15; have p15 := booT q15; .run 3 [rng .i64 ((j : Int) + 1)] ⟨rng64 (by omega) (by omega), trivial⟩ <|
 .back L2 j (j + 1) (show AllTo (fun _ e => findB f e.ino = true) x2.l (j + 1) from (hH2.step hx3 (by assumption))) (show x2.l.length - (j + 1) < x2.l.length - j from (by omega)) ⟨[(1, .ptr 1 b1 0), (4, .sl 1 false ((underF f 1).map intA)), (5, aI (k : Int)), (6, .ptr 6 b2 0), (8, aI ((j : Int) + 1))], [(1, .box b1 24 [.sl 5 false (f.l.map nodA), aI f.next]), (6, .box b2 59 [aI x2.ino, aI x2.kind, aI x2.links, aS x2.text, .sl 2 false (x2.l.map entA)])]⟩ ⟨Sub.refl _, Sub.refl _, Sub.refl _, Sub.refl _, Sub.of_eq (congrArg aI (by first | omega | rfl)), trivial⟩ ⟨⟨_, rfl, SubB.refl _⟩, ⟨_, rfl, SubB.refl _⟩, trivial⟩)
 <| fun q13 => have p13 := decF q13; .run 3 [rng .i64 ((k : Int) + 1)] ⟨rng64 (by omega) (by omega), trivial⟩ <|
 .back L1 k (k + 1) (show AllTo (nodeR f) f.l (k + 1) from (hH1.step hx2 ⟨by omega, (by unfold lateR; simp only [q8, q9, q10, q11, q12, Bool.and_false, Bool.false_and, Bool.true_and, Bool.and_true, Bool.or_false, Bool.false_or, Bool.or_true, Bool.true_or, Bool.not_true, Bool.not_false]), hH2.full (by omega)⟩)) (show f.l.length - (k + 1) < f.l.length - k from (by omega)) ⟨[(1, .ptr 1 b1 0), (4, .sl 1 false ((underF f 1).map intA)), (5, aI ((k : Int) + 1))], [(1, .box b1 24 [.sl 5 false (f.l.map nodA), aI f.next])]⟩ ⟨Sub.refl _, Sub.refl _, Sub.of_eq (congrArg aI (by first | omega | rfl)), trivial⟩ ⟨⟨_, rfl, SubB.refl _⟩, trivial⟩) a2 ha2)
 <| fun q10 => have p10 := beqF q10; .r 10 <| .r 1 <| let L2 : Lp (Nat) := ⟨fun a2 => ⟨[(1, .ptr 1 b1 0), (4, .sl 1 false ((underF f 1).map intA)), (5, aI (k : Int)), (6, .ptr 6 b2 0), (8, aI (a2 : Int))], [(1, .box b1 24 [.sl 5 false (f.l.map nodA), aI f.next]), (6, .box b2 59 [aI x2.ino, aI x2.kind, aI x2.links, aS x2.text, .sl 2 false (x2.l.map entA)])]⟩, fun a2 => x2.l.length - a2, fun a2 => AllTo (fun _ e => findB f e.ino = true) x2.l a2⟩
 .loop L2 0 (show AllTo (fun _ e => findB f e.ino = true) x2.l 0 from AllTo.zero _ _) ⟨[(1, .ptr 1 b1 0), (4, .sl 1 false ((underF f 1).map intA)), (5, aI (k : Int)), (6, .ptr 6 b2 0), (8, aI 0)], [(1, .box b1 24 [.sl 5 false (f.l.map nodA), aI f.next]), (6, .box b2 59 [aI x2.ino, aI x2.kind, aI x2.links, aS x2.text, .sl 2 false (x2.l.map entA)])]⟩ ⟨Sub.refl _, Sub.refl _, Sub.refl _, Sub.refl _, Sub.of_eq (congrArg aI (by first | omega | rfl)), trivial⟩ ⟨⟨_, rfl, SubB.refl _⟩, ⟨_, rfl, SubB.refl _⟩, trivial⟩ fun a2 ha2 =>
 (fun (j : Nat) (hH2 : AllTo (fun _ e => findB f e.ino = true) x2.l j) => .run 4 [b2 = b2] rt1 <|
 .val 94 (show (aI ((x2.l.map entA).length : Int) : AV) = aI (x2.l.length : Int) from by rw [List.length_map]) <| .r 1 <| .br 95 (decide ((j : Int) < (x2.l.length : Int))) (fun q16 => have p16 := decT q16; .pick [0, 1, 2, 3, 4, 5, 6] <| .run 4 [b1 = b1, b2 = b2] rt2 <|
 .idxM x2.l entA j (m := (j : Int)) rfl (by omega) fun x4 hx4 =>
 .r 2 <| .fork <| .alt (.call (rfind_spec f x4.ino (by omega)) <|
 .pick [8, 9, 10, 11, 12, 13] <| .r 3 <| .new fun b5 => .run 2 [b5 = b5] rt1 <|
 .r 2 <| .br 110 (!(findB f x4.ino)) (fun q17 => have q17 := notT q17; have p17 := booF q17; .r 1 <| .fin (x := aB false) (r := aB (dP (rightP f))) [] trivial (by
    refine sF (fun h => ?_)
    have g := (h.2.2.at hx2).2.2.at hx4
    simp_all))
 <| fun q17 => have q17 := notF q17; have p17 := booT q17; .run 3 [rng .i64 ((j : Int) + 1)] ⟨rng64 (by omega) (by omega), trivial⟩ <|
 .back L2 j (j + 1) (show AllTo (fun _ e => findB f e.ino = true) x2.l (j + 1) from (hH2.step hx4 (by assumption))) (show x2.l.length - (j + 1) < x2.l.length - j from (by omega)) ⟨[(1, .ptr 1 b1 0), (4, .sl 1 false ((underF f 1).map intA)), (5, aI (k : Int)), (6, .ptr 6 b2 0), (8, aI ((j : Int) + 1))], [(1, .box b1 24 [.sl 5 false (f.l.map nodA), aI f.next]), (6, .box b2 59 [aI x2.ino, aI x2.kind, aI x2.links, aS x2.text, .sl 2 false (x2.l.map entA)])]⟩ ⟨Sub.refl _, Sub.refl _, Sub.refl _, Sub.refl _, Sub.of_eq (congrArg aI (by first | omega | rfl)), trivial⟩ ⟨⟨_, rfl, SubB.refl _⟩, ⟨_, rfl, SubB.refl _⟩, trivial⟩)
 <| .new fun b6 => .pick [7, 8, 9, 10, 12, 13] <| .call (rfind_spec f x4.ino (by omega)) <|
 .run 5 [b6 = b6] rt1 <|
 .r 2 <| .br 110 (!(findB f x4.ino)) (fun q18 => have q18 := notT q18; have p18 := booF q18; .r 1 <| .fin (x := aB false) (r := aB (dP (rightP f))) [] trivial (by
    refine sF (fun h => ?_)
    have g := (h.2.2.at hx2).2.2.at hx4
    simp_all))
 <| fun q18 => have q18 := notF q18; have p18 := booT q18; .run 3 [rng .i64 ((j : Int) + 1)] ⟨rng64 (by omega) (by omega), trivial⟩ <|
 .back L2 j (j + 1) (show AllTo (fun _ e => findB f e.ino = true) x2.l (j + 1) from (hH2.step hx4 (by assumption))) (show x2.l.length - (j + 1) < x2.l.length - j from (by omega)) ⟨[(1, .ptr 1 b1 0), (4, .sl 1 false ((underF f 1).map intA)), (5, aI (k : Int)), (6, .ptr 6 b2 0), (8, aI ((j : Int) + 1))], [(1, .box b1 24 [.sl 5 false (f.l.map nodA), aI f.next]), (6, .box b2 59 [aI x2.ino, aI x2.kind, aI x2.links, aS x2.text, .sl 2 false (x2.l.map entA)])]⟩ ⟨Sub.refl _, Sub.refl _, Sub.refl _, Sub.refl _, Sub.of_eq (congrArg aI (by first | omega | rfl)), trivial⟩ ⟨⟨_, rfl, SubB.refl _⟩, ⟨_, rfl, SubB.refl _⟩, trivial⟩)
 <| fun q16 => have p16 := decF q16; .run 3 [rng .i64 ((k : Int) + 1)] ⟨rng64 (by omega) (by omega), trivial⟩ <|
 .back L1 k (k + 1) (show AllTo (nodeR f) f.l (k + 1) from (hH1.step hx2 ⟨by omega, (by unfold lateR; simp only [q8, q9, q10, Bool.and_false, Bool.false_and, Bool.true_and, Bool.and_true, Bool.or_false, Bool.false_or, Bool.or_true, Bool.true_or, Bool.not_true, Bool.not_false]), hH2.full (by omega)⟩)) (show f.l.length - (k + 1) < f.l.length - k from (by omega)) ⟨[(1, .ptr 1 b1 0), (4, .sl 1 false ((underF f 1).map intA)), (5, aI ((k : Int) + 1))], [(1, .box b1 24 [.sl 5 false (f.l.map nodA), aI f.next])]⟩ ⟨Sub.refl _, Sub.refl _, Sub.of_eq (congrArg aI (by first | omega | rfl)), trivial⟩ ⟨⟨_, rfl, SubB.refl _⟩, trivial⟩) a2 ha2)
 <| fun q8 => have p8 := decF q8; .r 18 <| .r 1 <| let L2 : Lp (Nat) := ⟨fun a2 => ⟨[(1, .ptr 1 b1 0), (4, .sl 1 false ((underF f 1).map intA)), (5, aI (k : Int)), (6, .ptr 6 b2 0), (8, aI (a2 : Int))], [(1, .box b1 24 [.sl 5 false (f.l.map nodA), aI f.next]), (6, .box b2 59 [aI x2.ino, aI x2.kind, aI x2.links, aS x2.text, .sl 2 false (x2.l.map entA)])]⟩, fun a2 => x2.l.length - a2, fun a2 => AllTo (fun _ e => findB f e.ino = true) x2.l a2⟩
 .loop L2 0 (show AllTo (fun _ e => findB f e.ino = true) x2.l 0 from AllTo.zero _ _) ⟨[(1, .ptr 1 b1 0), (4, .sl 1 false ((underF f 1).map intA)), (5, aI (k : Int)), (6, .ptr 6 b2 0), (8, aI 0)], [(1, .box b1 24 [.sl 5 false (f.l.map nodA), aI f.next]), (6, .box b2 59 [aI x2.ino, aI x2.kind, aI x2.links, aS x2.text, .sl 2 false (x2.l.map entA)])]⟩ ⟨Sub.refl _, Sub.refl _, Sub.refl _, Sub.refl _, Sub.of_eq (congrArg aI (by first | omega | rfl)), trivial⟩ ⟨⟨_, rfl, SubB.refl _⟩, ⟨_, rfl, SubB.refl _⟩, trivial⟩ fun a2 ha2 =>
 (fun (j : Nat) (hH2 : AllTo (fun _ e => findB f e.ino = true) x2.l j) => .run 4 [b2 = b2] rt1 <|
 .val 94 (show (aI ((x2.l.map entA).length : Int) : AV) = aI (x2.l.length : Int) from by rw [List.length_map]) <| .r 1 <| .br 95 (decide ((j : Int) < (x2.l.length : Int))) (fun q19 => have p19 := decT q19; .pick [0, 1, 2, 3, 4, 5, 6] <| .run 4 [b1 = b1, b2 = b2] rt2 <|
 .idxM x2.l entA j (m := (j : Int)) rfl (by omega) fun x5 hx5 =>
 .r 2 <| .fork <| .alt (.call (rfind_spec f x5.ino (by omega)) <|
 .pick [8, 9, 10, 11, 12, 13] <| .r 3 <| .new fun b7 => .run 2 [b7 = b7] rt1 <|
 .r 2 <| .br 110 (!(findB f x5.ino)) (fun q20 => have q20 := notT q20; have p20 := booF q20; .r 1 <| .fin (x := aB false) (r := aB (dP (rightP f))) [] trivial (by
    refine sF (fun h => ?_)
    have g := (h.2.2.at hx2).2.2.at hx5
    simp_all))
 <| fun q20 => have q20 := notF q20; have p20 := booT q20; .run 3 [rng .i64 ((j : Int) + 1)] ⟨rng64 (by omega) (by omega), trivial⟩ <|
 .back L2 j (j + 1) (show AllTo (fun _ e => findB f e.ino = true) x2.l (j + 1) from (hH2.step hx5 (by assumption))) (show x2.l.length - (j + 1) < x2.l.length - j from (by omega)) ⟨[(1, .ptr 1 b1 0), (4, .sl 1 false ((underF f 1).map intA)), (5, aI (k : Int)), (6, .ptr 6 b2 0), (8, aI ((j : Int) + 1))], [(1, .box b1 24 [.sl 5 false (f.l.map nodA), aI f.next]), (6, .box b2 59 [aI x2.ino, aI x2.kind, aI x2.links, aS x2.text, .sl 2 false (x2.l.map entA)])]⟩ ⟨Sub.refl _, Sub.refl _, Sub.refl _, Sub.refl _, Sub.of_eq (congrArg aI (by first | omega | rfl)), trivial⟩ ⟨⟨_, rfl, SubB.refl _⟩, ⟨_, rfl, SubB.refl _⟩, trivial⟩)
 <| .new fun b8 => .pick [7, 8, 9, 10, 12, 13] <| .call (rfind_spec f x5.ino (by omega)) <|
 .run 5 [b8 = b8] rt1 <|
 .r 2 <| .br 110 (!(findB f x5.ino)) (fun q21 => have q21 := notT q21; have p21 := booF q21; .r 1 <| .fin (x := aB false) (r := aB (dP (rightP f))) [] trivial (by
    refine sF (fun h => ?_)
    have g := (h.2.2.at hx2).2.2.at hx5
    simp_all))
 <| fun q21 => have q21 := notF q21; have p21 := booT q21; .run 3 [rng .i64 ((j : Int) + 1)] ⟨rng64 (by omega) (by omega), trivial⟩ <|
 .back L2 j (j + 1) (show AllTo (fun _ e => findB f e.ino = true) x2.l (j + 1) from (hH2.step hx5 (by assumption))) (show x2.l.length - (j + 1) < x2.l.length - j from (by omega)) ⟨[(1, .ptr 1 b1 0), (4, .sl 1 false ((underF f 1).map intA)), (5, aI (k : Int)), (6, .ptr 6 b2 0), (8, aI ((j : Int) + 1))], [(1, .box b1 24 [.sl 5 false (f.l.map nodA), aI f.next]), (6, .box b2 59 [aI x2.ino, aI x2.kind, aI x2.links, aS x2.text, .sl 2 false (x2.l.map entA)])]⟩ ⟨Sub.refl _, Sub.refl _, Sub.refl _, Sub.refl _, Sub.of_eq (congrArg aI (by first | omega | rfl)), trivial⟩ ⟨⟨_, rfl, SubB.refl _⟩, ⟨_, rfl, SubB.refl _⟩, trivial⟩)
 <| fun q19 => have p19 := decF q19; .run 3 [rng .i64 ((k : Int) + 1)] ⟨rng64 (by omega) (by omega), trivial⟩ <|
 .back L1 k (k + 1) (show AllTo (nodeR f) f.l (k + 1) from (hH1.step hx2 ⟨by omega, (by unfold lateR; simp only [q8, Bool.and_false, Bool.false_and, Bool.true_and, Bool.and_true, Bool.or_false, Bool.false_or, Bool.or_true, Bool.true_or, Bool.not_true, Bool.not_false]), hH2.full (by omega)⟩)) (show f.l.length - (k + 1) < f.l.length - k from (by omega)) ⟨[(1, .ptr 1 b1 0), (4, .sl 1 false ((underF f 1).map intA)), (5, aI ((k : Int) + 1))], [(1, .box b1 24 [.sl 5 false (f.l.map nodA), aI f.next])]⟩ ⟨Sub.refl _, Sub.refl _, Sub.of_eq (congrArg aI (by first | omega | rfl)), trivial⟩ ⟨⟨_, rfl, SubB.refl _⟩, trivial⟩) a2 ha2)
 <| fun q6 => have p6 := decF q6; .r 1 <| .fin (x := aB true) (r := aB (dP (rightP f))) [] trivial (by exact sT ⟨dP_true.1 (by assumption), ⟨x1, hx1, by omega, by omega, by omega⟩, hH1.full (by omega)⟩)) a1 ha1) Tryz.func32 rfl (by kernel_rfl) (by kernel_rfl)
theorem midF_of {f g : Fsy} (hf : fewF f) (K : Kept f g) : midF g := by
  have h := K.few
  rw [wF_eq, wF_eq] at h
  have := hf.1
  unfold midF
  omega
end Go.Proofs.YtkhnialfkndiiaaGreat

set_option linter.unusedVariables false
set_option linter.unusedSimpArgs false
namespace Go.Proofs.YtkhnialfkndiiaaGreat
open Go Go.RowKit Copyhold
open Copyhold.Name (Srt insE delE getE isAt)
end Go.Proofs.YtkhnialfkndiiaaGreat
