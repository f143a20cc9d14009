import Derived.Test.YtkhnialfkndiiaaGreatMrgAC
set_option maxRecDepth 100000
set_option maxHeartbeats 8000000
set_option linter.unusedVariables false
set_option linter.unusedSimpArgs false
namespace Go.Proofs.YtkhnialfkndiiaaGreat
open Go Go.RowKit Copyhold
theorem cloneG_spec (l : List Int) (h1 : 1 ≤ l.length) (hl : l.length ≤ 100000) : RowSpecD Tryz.prog 100 [.sl 1 false (l.map intA)] 3 1 (l.map intA) := by
 exact specRow_vc (F := Tryz.f100) 400 (
 .r 1 <| .r 1 <| .isNil (l.map intA) fun b1 hnb1 =>
 .br 4 (b1) (fun q1 => have p1 := booT q1; .r 1 <| .rowNil 199 2 3 1 <| .finRow (x := []) (r := l.map intA) [] trivial 199 3 1 (0) (.slice none 0 0) (by first | (simp; done) | (exfalso; have h0 : l = [] := (by simpa using hnb1 (by assumption)); rw [h0] at h1; simp at h1)))
 <| fun q1 => have p1 := booF q1; .lit0 fun V1 => .r 1 <| .app 8 V1 ([] : List (List AV)) (l.map intA) (by simp <;> omega) (by simp <;> omega) fun V2 =>
 .r 1 <| .finRow (x := ([] : List (List AV)) ++ (l.map intA)) (r := l.map intA) [] trivial 5 3 1 (([] : List (List AV)).length + (l.map intA).length) V2 (by first | (simp; done) | (exfalso; have h0 : l = [] := (by simpa using hnb1 (by assumption)); rw [h0] at h1; simp at h1))) Tryz.func100 rfl (by kernel_rfl) (by kernel_rfl)
theorem gatherG_spec (l : List Int) (h1 : 1 ≤ l.length) (hl : l.length ≤ 100000) : FSpec Tryz.prog 52 [.sl 1 false (l.map intA)] (.sl 1 false ((sortU l).map intA)) := by
 exact spec_vc (F := Tryz.f52) 400 (
 .r 1 <| .r 1 <| .op (crR Tryz.prog 30) (100, [.sl 1 false (l.map intA)], 5) (fun (V : Value) σ => (σ.put (some 5) (.rw 30 V (l.map intA).length)).setB 30 (.row V 3 1 (l.map intA))) (rule_cr (args' := [.sl 1 false (l.map intA)]) sr1 (cloneG_spec l h1 hl)) fun V1 =>
 .r 1 <| .lent 1 <| .r 1 <| .lop (lcR Tryz.prog 30) ((101, [.rw 30 V1 ((l.map intA).length)], some 7), .row V1 3 1 (l.map intA)) (fun (_ : Unit) σ => (σ.put (some 7) (.tup [])).setB 30 (.row V1 3 1 ((l.mergeSort fun x y => decide (x ≤ y)).map intA))) (rule_lent2 (args' := [.rw 30 V1 l.length]) ⟨Sub.of_eq (congrArg (AV.rw 30 V1) (by simp)), trivial⟩ (sortG_spec l V1 h1 (by omega))) fun _ =>
 .lent 1 <| .r 1 <| .lop (lcR Tryz.prog 30) ((102, [.rw 30 V1 ((l.map intA).length)], some 9), .row V1 3 1 ((l.mergeSort fun x y => decide (x ≤ y)).map intA)) (fun (_ : Unit) σ => (σ.put (some 9) (.sl 1 false ((sortU l).map intA))).setB 30 gone) (rule_lent (args' := [.rw 30 V1 ((l.mergeSort fun x y => decide (x ≤ y)).length)]) ⟨Sub.of_eq (congrArg (AV.rw 30 V1) (by simp [List.length_mergeSort])), trivial⟩ (compactG_spec (l.mergeSort fun x y => decide (x ≤ y)) V1 (by rw [List.length_mergeSort]; exact h1) (by rw [List.length_mergeSort]; omega))) fun _ =>
 .r 1 <| .fin (x := .sl 1 false ((sortU l).map intA)) (r := .sl 1 false ((sortU l).map intA)) [] trivial (by exact sR)) Tryz.func52 rfl (by kernel_rfl) (by kernel_rfl)
theorem clone0_spec  : RowSpecD Tryz.prog 100 [.sl 1 false ([])] 3 1 ([]) := by
 exact specRow_vc (F := Tryz.f100) 400 (
 .r 1 <| .r 1 <| .isNil ([]) fun b1 hnb1 =>
 .br 4 (b1) (fun q1 => have p1 := booT q1; .r 1 <| .rowNil 199 2 3 1 <| .finRow (x := []) (r := []) [] trivial 199 3 1 (0) (.slice none 0 0) (by first | (simp; done) | rfl))
 <| fun q1 => have p1 := booF q1; .lit0 fun V1 => .r 1 <| .app 8 V1 ([] : List (List AV)) ([]) (by simp <;> omega) (by simp <;> omega) fun V2 =>
 .r 1 <| .finRow (x := ([] : List (List AV)) ++ ([])) (r := []) [] trivial 5 3 1 (([] : List (List AV)).length + ([] : List (List AV)).length) V2 (by first | (simp; done) | rfl)) Tryz.func100 rfl (by kernel_rfl) (by kernel_rfl)
theorem ins0_spec (V : Value) : LSpec2 Tryz.prog 146 [.rw 30 V 0, aI 0, aI 0] (.row V 3 1 ([])) (.tup []) (.row V 3 1 ([])) := by
 exact lspec2_vc (q := 30) (F := Tryz.f146) 400 (
 .run 3 [rng .i64 (0 + 1)] ⟨rng64 (by omega) (by omega), trivial⟩ <|
 let L1 : Lp (Nat) := ⟨fun a1 => ⟨[(0, .rw 30 V 0), (1, aI 0), (2, aI 0), (6, aI (a1 : Int))], [(30, .row V 3 1 ([]))]⟩, fun a1 => 0 - a1, fun a1 => 1 ≤ a1⟩
 .loop L1 1 (show 1 ≤ 1 from (Nat.le_refl _)) ⟨[(0, .rw 30 V 0), (1, aI 0), (2, aI 0), (6, aI (0 + 1))], [(30, .row V 3 1 ([]))]⟩ ⟨sR, sR, sR, Sub.of_eq (congrArg aI (by first | omega | rfl)), trivial⟩ ⟨⟨_, rfl, SubB.refl _⟩, trivial⟩ fun a1 ha1 =>
 (fun (i : Nat) (hH1 : 1 ≤ i) => .r 3 <| .is 12 (show (decide ((i : Int) < 0)) = false from (decide_eq_false (by omega))) <| .finB (x := .tup []) (r := .tup []) [] trivial (.row V 3 1 ([])) (by exact sR)) a1 ha1) Tryz.func146 rfl (by kernel_rfl) (by kernel_rfl)
theorem pdq0_spec (V : Value) (lm : Int) : LSpec2 Tryz.prog 130 [.rw 30 V 0, aI 0, aI 0, aI lm] (.row V 3 1 ([])) (.tup []) (.row V 3 1 ([])) := by
 exact lspec2_vc (q := 30) (F := Tryz.f130) 400 (
 .r 1 <| .r 1 <| let L1 : Lp (Nat) := ⟨fun a1 => ⟨[(0, .rw 30 V 0), (1, aI 0), (2, aI 0), (3, aI lm), (8, aB true), (9, aB true)], [(30, .row V 3 1 ([]))]⟩, fun a1 => 0 - a1, fun a1 => 0 ≤ a1⟩
 .loop L1 0 (show 0 ≤ 0 from Nat.zero_le _) ⟨[(0, .rw 30 V 0), (1, aI 0), (2, aI 0), (3, aI lm), (8, aB true), (9, aB true)], [(30, .row V 3 1 ([]))]⟩ sr6 ⟨⟨_, rfl, SubB.refl _⟩, trivial⟩ fun a1 ha1 =>
 (fun (k : Nat) (hH1 : 0 ≤ k) => .run 4 [rng .i64 (0 - 0)] ⟨rng64 (by omega) (by omega), trivial⟩ <|
 .r 2 <| .is 23 (show (decide ((0 - 0) ≤ 12)) = true from (by decide)) <| .lent 3 <| .r 3 <| .lop (lcR Tryz.prog 30) ((146, [.rw 30 V 0, aI 0, aI 0], some 27), .row V 3 1 ([])) (fun (_ : Unit) σ => (σ.put (some 27) (.tup [])).setB 30 (.row V 3 1 ([]))) (rule_lent2 (args' := [.rw 30 V 0, aI 0, aI 0]) sr3 (ins0_spec V)) fun _ =>
 .finB (x := .tup []) (r := .tup []) [] trivial (.row V 3 1 ([])) (by exact sR)) a1 ha1) Tryz.func130 rfl (by kernel_rfl) (by kernel_rfl)
theorem sort0_spec (V : Value) : LSpec2 Tryz.prog 101 [.rw 30 V 0] (.row V 3 1 ([])) (.tup []) (.row V 3 1 ([])) := by
 exact lspec2_vc (q := 30) (F := Tryz.f101) 400 (
 .r 3 <| .lent 5 <| .r 3 <| .op (cvR) (3, 151, .int .i64 (0 : Int), some 8) (fun (_ : Unit) σ => σ.put (some 8) (.val (.int .u64 (0 : Int)))) (rule_cv (conv_int (by kernel_rfl) (by kernel_rfl) (rngu (by omega) (by omega)))) fun _ =>
 .callS (args0 := [.val (.int .u64 (0 : Int))]) (args := [.val (.int .u64 0)]) sr1 (len_spec 0 (by omega) (by omega)) <|
 .lop (lcR Tryz.prog 30) ((130, [.rw 30 V 0, aI 0, aI (0 : Int), aI (lenB 0)], some 10), .row V 3 1 ([])) (fun (_ : Unit) σ => (σ.put (some 10) (.tup [])).setB 30 (.row V 3 1 ([]))) (rule_lent2 (args' := [.rw 30 V 0, aI 0, aI 0, aI (lenB 0)]) ⟨sR, sR, Sub.of_eq (congrArg aI (by first | omega | rfl)), sR, trivial⟩ (pdq0_spec V (lenB 0))) fun _ =>
 .finB (x := .tup []) (r := .tup []) [] trivial (.row V 3 1 ([])) (by exact sR)) Tryz.func101 rfl (by kernel_rfl) (by kernel_rfl)
theorem compact0_spec (V : Value) : LSpec Tryz.prog 102 [.rw 30 V 0] (.row V 3 1 ([])) (.sl 1 false []) := by
 exact lspec_vc (q := 30) (F := Tryz.f102) 400 (
 .r 1 <| .r 3 <| .is 8 (show (decide ((0 : Int) < 2)) = true from (by decide)) <| .r 2 <| .frz 30 [2] [] [V = V, 0 = ([] : List (List AV)).length] ⟨rfl, (by first | rfl | (simp; done) | (simp; omega)), trivial⟩ <|
 .fin (x := .sl 1 false ([])) (r := .sl 1 false []) [] trivial (by exact sR)) Tryz.func102 rfl (by kernel_rfl) (by kernel_rfl)
theorem gather0_spec  : FSpec Tryz.prog 52 [.sl 1 false ([])] (.sl 1 false []) := by
 exact spec_vc (F := Tryz.f52) 400 (
 .r 1 <| .r 1 <| .op (crR Tryz.prog 30) (100, [.sl 1 false ([])], 5) (fun (V : Value) σ => (σ.put (some 5) (.rw 30 V ([] : List (List AV)).length)).setB 30 (.row V 3 1 (([] : List (List AV))))) (rule_cr (args' := [.sl 1 false ([])]) sr1 (clone0_spec)) fun V1 =>
 .r 1 <| .lent 1 <| .r 1 <| .lop (lcR Tryz.prog 30) ((101, [.rw 30 V1 (([] : List (List AV)).length)], some 7), .row V1 3 1 ([] : List (List AV))) (fun (_ : Unit) σ => (σ.put (some 7) (.tup [])).setB 30 (.row V1 3 1 ([]))) (rule_lent2 (args' := [.rw 30 V1 0]) ⟨Sub.of_eq rfl, trivial⟩ (sort0_spec V1)) fun _ =>
 .lent 1 <| .r 1 <| .lop (lcR Tryz.prog 30) ((102, [.rw 30 V1 (([] : List (List AV)).length)], some 9), .row V1 3 1 ([])) (fun (_ : Unit) σ => (σ.put (some 9) (.sl 1 false ([]))).setB 30 gone) (rule_lent (args' := [.rw 30 V1 0]) ⟨Sub.of_eq rfl, trivial⟩ (compact0_spec V1)) fun _ =>
 .r 1 <| .fin (x := .sl 1 false ([])) (r := .sl 1 false []) [] trivial (by exact sR)) Tryz.func52 rfl (by kernel_rfl) (by kernel_rfl)
theorem gatherA_spec (l : List Int) (hl : l.length ≤ 100000) : FSpec Tryz.prog 52 [.sl 1 false (l.map intA)] (.sl 1 false ((sortU l).map intA)) := by
 cases l with
 | nil => rw [show sortU [] = [] from List.eq_nil_of_length_eq_zero (Nat.le_zero.1 (sortU_len []))]; exact gather0_spec
 | cons x r => exact gatherG_spec (x :: r) (by simp) hl
theorem looksG_spec (f : Fsy) (c : Cal) (okf : OkF f) (okc : OkCal c) (hp : rowsP f) : FSpec Tryz.prog 19 [.agg (fsyA f), .agg (calA c)] (.sl 1 false ((looksU f c).map intA)) := by
 have hl := hp.1
 have hr := rows_rise hp
 have hcn := okc.name
 have hcn2 := okc.name2
 have hct := okc.text
 exact spec_vc (F := Tryz.f19) 400 (
 .new fun b1 => .new fun b2 => .r 1 <| .run 3 [b2 = b2] rt1 <|
 .br 16 (c.kind == 15) (fun q1 => have p1 := beqT q1; .r 2 <| .fin (x := .sl 1 true ([[aI 0]])) (r := .sl 1 false ((looksU f c).map intA)) [] trivial (by
  rw [show looksU f c = _ from if_pos (by omega)]
  exact Sub.loose _ _ _))
 <| fun q1 => have p1 := beqF q1; .run 4 [b2 = b2, b2 = b2] rt2 <|
 .litN fun V1 => .r 1 <| .run 7 [b2 = b2, b2 = b2] rt2 <|
 let L1 : Lp (Nat × Value) := ⟨fun a1 => ⟨[(2, .ptr 2 b1 0), (3, .ptr 3 b2 0), (29, aI (a1.1 : Int)), (27, .sl 1 false ([c.ino, c.to].map intA)), (28, aI 2), (5, .rw 22 a1.2 ((lk0 f c ([c.ino, c.to].take a1.1)).length))], [(2, .box b1 24 (fsyA f)), (3, .box b2 26 (calA c)), (22, .row a1.2 3 1 ((lk0 f c ([c.ino, c.to].take a1.1)).map intA))]⟩, fun a1 => 2 - a1.1, fun a1 => a1.1 ≤ 2⟩
 .loop L1 (0, V1) (show 0 ≤ 2 from (by show 0 ≤ 2; omega)) ⟨[(2, .ptr 2 b1 0), (3, .ptr 3 b2 0), (29, aI 0), (27, .sl 1 true ([[aI c.ino], [aI c.to]])), (28, aI (([[aI c.ino], [aI c.to]]).length : Int)), (5, .rw 22 V1 2)], [(2, .box b1 24 (fsyA f)), (3, .box b2 26 (calA c)), (22, .row V1 3 1 ([[aI c.ino], [aI c.to]]))]⟩ ⟨sR, sR, Sub.of_eq (congrArg aI (by first | omega | rfl)), (first_lit2 _ _), sR, sR, trivial⟩ ⟨⟨_, rfl, SubB.refl _⟩, ⟨_, rfl, SubB.refl _⟩, ⟨_, rfl, SubB.of_eq rfl⟩, trivial⟩ fun a1 ha1 =>
 (fun (k : Nat) (V : Value) (hH1 : k ≤ 2) => have hk0 := lk0_len f c ([c.ino, c.to].take k) [c.ino, c.to]; have hk1 : (lk0 f c ([c.ino, c.to].take k)).length ≤ 6 := (by have h2 : ([c.ino, c.to].take k).length ≤ 2 := (by rw [List.length_take]; simp only [List.length_cons, List.length_nil]; omega); have h3 := hk0.2; unfold lk0; simp only [List.length_cons, List.length_nil] at h3; omega); .r 1 <| .br 30 (decide ((k : Int) < 2)) (fun q2 => have p2 := decT q2; .idxM ([c.ino, c.to]) intA k (m := (k : Int)) rfl (by simp only [List.length_cons, List.length_nil]; omega) fun x1 hx1 =>
 .r 2 <| .run 2 [b1 = b1] rt1 <|
 .call (dir_spec f x1 hp) <|
 .r 3 <| .new fun b3 => .run 2 [b3 = b3] rt1 <|
 .r 2 <| .br 40 ((dirE f x1) != 0) (fun q3 => have p3 := bneT q3; .run 2 [rng .i64 ((k : Int) + 1)] ⟨rng64 (by omega) (by omega), trivial⟩ <|
 .back L1 (k, V) ((k + 1), V) (show (k + 1) ≤ 2 from (by show _ ≤ 2; omega)) (show 2 - (k + 1) < 2 - k from (by omega)) ⟨[(2, .ptr 2 b1 0), (3, .ptr 3 b2 0), (29, aI ((k : Int) + 1)), (27, .sl 1 false ([c.ino, c.to].map intA)), (28, aI 2), (5, .rw 22 V ((lk0 f c ([c.ino, c.to].take k)).length))], [(2, .box b1 24 (fsyA f)), (3, .box b2 26 (calA c)), (22, .row V 3 1 ((lk0 f c ([c.ino, c.to].take k)).map intA))]⟩ ⟨sR, sR, Sub.of_eq (congrArg aI (by first | omega | rfl)), sR, sR, Sub.of_eq (congrArg (AV.rw 22 V) (by rw [show lk0 f c ([c.ino, c.to].take (k + 1)) = lk0 f c ([c.ino, c.to].take k) from by rw [lk0_step hx1]; unfold lk1; rw [if_neg (bneT q3)]])), trivial⟩ ⟨⟨_, rfl, SubB.refl _⟩, ⟨_, rfl, SubB.refl _⟩, ⟨_, rfl, SubB.of_eq (by rw [show lk0 f c ([c.ino, c.to].take (k + 1)) = lk0 f c ([c.ino, c.to].take k) from by rw [lk0_step hx1]; unfold lk1; rw [if_neg (bneT q3)]])⟩, trivial⟩)
 <| fun q3 => have p3 := bneF q3; .run 7 [b2 = b2, b2 = b2] rt2 <|
 let L2 : Lp (Nat × Value) := ⟨fun a2 => ⟨[(2, .ptr 2 b1 0), (3, .ptr 3 b2 0), (29, aI (k : Int)), (27, .sl 1 false ([c.ino, c.to].map intA)), (28, aI 2), (8, .ptr 8 b3 0), (47, aI (a2.1 : Int)), (45, .sl 1 false ([c.name, c.name2].map txA)), (46, aI 2), (5, .rw 22 a2.2 ((lk2 (dirN f x1).l ([c.name, c.name2].take a2.1) (lk0 f c ([c.ino, c.to].take k))).length))], [(2, .box b1 24 (fsyA f)), (3, .box b2 26 (calA c)), (8, .box b3 59 [aI ((dirN f x1).ino), aI ((dirN f x1).kind), aI ((dirN f x1).links), aS ((dirN f x1).text), .sl 2 false ((dirN f x1).l.map entA)]), (22, .row a2.2 3 1 ((lk2 (dirN f x1).l ([c.name, c.name2].take a2.1) (lk0 f c ([c.ino, c.to].take k))).map intA))]⟩, fun a2 => 2 - a2.1, fun a2 => a2.1 ≤ 2⟩
 .loop L2 (0, V) (show 0 ≤ 2 from (by show 0 ≤ 2; omega)) ⟨[(2, .ptr 2 b1 0), (3, .ptr 3 b2 0), (29, aI (k : Int)), (27, .sl 1 false ([c.ino, c.to].map intA)), (28, aI 2), (8, .ptr 8 b3 0), (47, aI 0), (45, .sl 1 true ([[aS c.name], [aS c.name2]])), (46, aI (([[aS c.name], [aS c.name2]]).length : Int)), (5, .rw 22 V ((lk0 f c ([c.ino, c.to].take k)).length))], [(2, .box b1 24 (fsyA f)), (3, .box b2 26 (calA c)), (8, .box b3 59 [aI ((dirN f x1).ino), aI ((dirN f x1).kind), aI ((dirN f x1).links), aS ((dirN f x1).text), .sl 2 false ((dirN f x1).l.map entA)]), (22, .row V 3 1 ((lk0 f c ([c.ino, c.to].take k)).map intA))]⟩ ⟨sR, sR, sR, sR, sR, sR, Sub.of_eq (congrArg aI (by first | omega | rfl)), (first_litT _ _), sR, sR, trivial⟩ ⟨⟨_, rfl, SubB.refl _⟩, ⟨_, rfl, SubB.refl _⟩, ⟨_, rfl, SubB.refl _⟩, ⟨_, rfl, SubB.of_eq rfl⟩, trivial⟩ fun a2 ha2 =>
 (fun (j : Nat) (Y : Value) (hH2 : j ≤ 2) => have hj0 := (lk2_len (dirN f x1).l ([c.name, c.name2].take j) (lk0 f c ([c.ino, c.to].take k))).2; have hj1 : ([c.name, c.name2].take j).length ≤ 2 := (by rw [List.length_take]; simp only [List.length_cons, List.length_nil]; omega); .r 1 <| .br 48 (decide ((j : Int) < 2)) (fun q4 => have p4 := decT q4; .idxM ([c.name, c.name2]) txA j (m := (j : Int)) rfl (by simp only [List.length_cons, List.length_nil]; omega) fun x2 hx2 =>
 have nlx2 : x2.length ≤ 1000000 := (by have h9 := List.mem_of_getElem? hx2; simp only [List.mem_cons, List.not_mem_nil, or_false] at h9; rcases h9 with e | e <;> rw [e] <;> assumption); .r 2 <| .run 3 [b3 = b3] rt1 <|
 .call (nfind_spec ((dirN f x1).l) x2 (by have := (dir_srt hp x1).2; omega) (dir_srt hp x1).1) <|
 .r 5 <| .r 1 <| .br 58 (isB ((dirN f x1).l) x2) (fun q5 => have p5 := booT q5; .r 3 <| .app 8 Y ((lk2 (dirN f x1).l ([c.name, c.name2].take j) (lk0 f c ([c.ino, c.to].take k))).map intA) ([[aI (getI ((dirN f x1).l) x2)]]) (by simp only [List.length_map, List.length_cons, List.length_nil]; omega) (by simp only [List.length_map, List.length_cons, List.length_nil]; omega) fun V2 =>
 .r 1 <| .run 2 [rng .i64 ((j : Int) + 1)] ⟨rng64 (by omega) (by omega), trivial⟩ <|
 .back L2 (j, Y) ((j + 1), V2) (show (j + 1) ≤ 2 from (by show _ ≤ 2; omega)) (show 2 - (j + 1) < 2 - j from (by omega)) ⟨[(2, .ptr 2 b1 0), (3, .ptr 3 b2 0), (29, aI (k : Int)), (27, .sl 1 false ([c.ino, c.to].map intA)), (28, aI 2), (8, .ptr 8 b3 0), (47, aI ((j : Int) + 1)), (45, .sl 1 false ([c.name, c.name2].map txA)), (46, aI 2), (5, .rw 22 V2 (((lk2 (dirN f x1).l ([c.name, c.name2].take j) (lk0 f c ([c.ino, c.to].take k))).map intA).length + ([[aI (getI ((dirN f x1).l) x2)]] : List (List AV)).length))], [(2, .box b1 24 (fsyA f)), (3, .box b2 26 (calA c)), (8, .box b3 59 [aI ((dirN f x1).ino), aI ((dirN f x1).kind), aI ((dirN f x1).links), aS ((dirN f x1).text), .sl 2 false ((dirN f x1).l.map entA)]), (22, .row V2 3 1 (((lk2 (dirN f x1).l ([c.name, c.name2].take j) (lk0 f c ([c.ino, c.to].take k))).map intA) ++ ([[aI (getI ((dirN f x1).l) x2)]])))]⟩ ⟨sR, sR, sR, sR, sR, sR, Sub.of_eq (congrArg aI (by first | omega | rfl)), sR, sR, Sub.of_eq (congrArg (AV.rw 22 V2) (by rw [lk2_yes hx2 q5]; simp)), trivial⟩ ⟨⟨_, rfl, SubB.refl _⟩, ⟨_, rfl, SubB.refl _⟩, ⟨_, rfl, SubB.refl _⟩, ⟨_, rfl, SubB.of_eq (by rw [lk2_yes hx2 q5]; simp [intA])⟩, trivial⟩)
 <| fun q5 => have p5 := booF q5; .run 2 [rng .i64 ((j : Int) + 1)] ⟨rng64 (by omega) (by omega), trivial⟩ <|
 .back L2 (j, Y) ((j + 1), Y) (show (j + 1) ≤ 2 from (by show _ ≤ 2; omega)) (show 2 - (j + 1) < 2 - j from (by omega)) ⟨[(2, .ptr 2 b1 0), (3, .ptr 3 b2 0), (29, aI (k : Int)), (27, .sl 1 false ([c.ino, c.to].map intA)), (28, aI 2), (8, .ptr 8 b3 0), (47, aI ((j : Int) + 1)), (45, .sl 1 false ([c.name, c.name2].map txA)), (46, aI 2), (5, .rw 22 Y ((lk2 (dirN f x1).l ([c.name, c.name2].take j) (lk0 f c ([c.ino, c.to].take k))).length))], [(2, .box b1 24 (fsyA f)), (3, .box b2 26 (calA c)), (8, .box b3 59 [aI ((dirN f x1).ino), aI ((dirN f x1).kind), aI ((dirN f x1).links), aS ((dirN f x1).text), .sl 2 false ((dirN f x1).l.map entA)]), (22, .row Y 3 1 ((lk2 (dirN f x1).l ([c.name, c.name2].take j) (lk0 f c ([c.ino, c.to].take k))).map intA))]⟩ ⟨sR, sR, sR, sR, sR, sR, Sub.of_eq (congrArg aI (by first | omega | rfl)), sR, sR, Sub.of_eq (congrArg (AV.rw 22 Y) (by rw [lk2_no hx2 q5])), trivial⟩ ⟨⟨_, rfl, SubB.refl _⟩, ⟨_, rfl, SubB.refl _⟩, ⟨_, rfl, SubB.refl _⟩, ⟨_, rfl, SubB.of_eq (by rw [lk2_no hx2 q5])⟩, trivial⟩)
 <| fun q4 => have p4 := decF q4; .run 2 [rng .i64 ((k : Int) + 1)] ⟨rng64 (by omega) (by omega), trivial⟩ <|
 .back L1 (k, V) ((k + 1), Y) (show (k + 1) ≤ 2 from (by show _ ≤ 2; omega)) (show 2 - (k + 1) < 2 - k from (by omega)) ⟨[(2, .ptr 2 b1 0), (3, .ptr 3 b2 0), (29, aI ((k : Int) + 1)), (27, .sl 1 false ([c.ino, c.to].map intA)), (28, aI 2), (5, .rw 22 Y ((lk2 (dirN f x1).l ([c.name, c.name2].take j) (lk0 f c ([c.ino, c.to].take k))).length))], [(2, .box b1 24 (fsyA f)), (3, .box b2 26 (calA c)), (22, .row Y 3 1 ((lk2 (dirN f x1).l ([c.name, c.name2].take j) (lk0 f c ([c.ino, c.to].take k))).map intA))]⟩ ⟨sR, sR, Sub.of_eq (congrArg aI (by first | omega | rfl)), sR, sR, Sub.of_eq (congrArg (AV.rw 22 Y) (by rw [show lk0 f c ([c.ino, c.to].take (k + 1)) = lk2 (dirN f x1).l ([c.name, c.name2].take j) (lk0 f c ([c.ino, c.to].take k)) from by rw [lk0_step hx1]; unfold lk1; rw [if_pos (bneF q3), show j = 2 from by omega]; rfl])), trivial⟩ ⟨⟨_, rfl, SubB.refl _⟩, ⟨_, rfl, SubB.refl _⟩, ⟨_, rfl, SubB.of_eq (by rw [show lk0 f c ([c.ino, c.to].take (k + 1)) = lk2 (dirN f x1).l ([c.name, c.name2].take j) (lk0 f c ([c.ino, c.to].take k)) from by rw [lk0_step hx1]; unfold lk1; rw [if_pos (bneF q3), show j = 2 from by omega]; rfl])⟩, trivial⟩) a2.1 a2.2 ha2)
 <| fun q2 => have p2 := decF q2; .frz 22 [5, 30] [] [V = V, (lk0 f c ([c.ino, c.to].take k)).length = ((lk0 f c ([c.ino, c.to].take k)).map intA).length] ⟨rfl, (by first | rfl | (simp; done) | (simp; omega)), trivial⟩ <|
 .r 1 <| .callS (args0 := [.sl 1 false ((lk0 f c ([c.ino, c.to].take k)).map intA)]) (args := [.sl 1 false ((looksL f c).map intA)]) ⟨Sub.of_eq (congrArg (AV.sl 1 false) (by rw [show k = 2 from by omega]; rfl)), trivial⟩ (gatherG_spec (looksL f c) (by have := looks_len f c; omega) (by have := looks_len f c; omega)) <|
 .r 1 <| .fin (x := .sl 1 false ((sortU (looksL f c)).map intA)) (r := .sl 1 false ((looksU f c).map intA)) [] trivial (by
  rw [show looksU f c = _ from if_neg (by omega)]
  exact sR)) a1.1 a1.2 ha1) Tryz.func19 rfl (by kernel_rfl) (by kernel_rfl)
structure Chg where
 ino : Int
 gone : Bool
 n : Nod
 deriving DecidableEq
def chgA (c : Chg) : List AV := [aI c.ino, aB c.gone, aI c.n.ino, aI c.n.kind, aI c.n.links, aS c.n.text, .sl 2 false (c.n.l.map entA)]
def chgR (c : Chg) : List AV := [aI c.ino, aB c.gone, aI c.n.ino, aI c.n.kind, aI c.n.links, aS c.n.text, bif c.gone then aN else .sl 2 false (c.n.l.map entA)]
theorem chg_sub {l : List Chg} {t : Bool} (h : ∀ c ∈ l, c.gone = true → c.n.l = []) : Sub (.sl 7 t (l.map chgR)) (.sl 7 false (l.map chgA)) :=
 (Sub.sl2 (xs := l.map chgR) (ys := l.map chgA) (by simp) (fun i a b ha hb => by
  rw [List.getElem?_map] at ha hb
  cases hc : l[i]? with
  | none => rw [hc] at ha; cases ha
  | some c =>
   rw [hc] at ha hb
   obtain rfl := Option.some.inj ha
   obtain rfl := Option.some.inj hb
   refine ⟨sR, sR, sR, sR, sR, sR, ?_, trivial⟩
   cases hg : c.gone with
   | false => exact sR
   | true =>
    rw [h c (List.mem_of_getElem? hc) hg]
    exact Sub.nil _ _)).trans (Sub.loose _ _ _)
def noRow (l : List Int) (ns : List Nod) : List Int := ns.foldl (fun l n => withI l n.ino) l
theorem noRow_step {l : List Int} {ns : List Nod} {k : Nat} {x : Nod} (h : ns[k]? = some x) : noRow l (ns.take (k + 1)) = withI (noRow l (ns.take k)) x.ino := by
 unfold noRow; rw [take_step h, List.foldl_append]; rfl
theorem noRow_le (l : List Int) : ∀ (ns : List Nod) , (noRow l ns).length ≤ l.length + ns.length := by
 intro ns
 induction ns generalizing l with
 | nil => exact Nat.le_refl _
 | cons n r ih =>
  have := ih (withI l n.ino)
  have := with_len l n.ino
  show (noRow (withI l n.ino) r).length ≤ _
  simp only [List.length_cons]
  omega
def allNo (a b : Fsy) : List Int := noRow (noRow [] a.l) b.l
def chgD (a b : Fsy) (i : Int) : Option Chg := if findB b i = false then some ⟨i, true, nod0⟩ else if findB a i = false ∨ ¬ findN a i = findN b i then some ⟨i, false, findN b i⟩ else none
def chgL (a b : Fsy) (k : Nat) : List Chg := ((allNo a b).take k).filterMap (chgD a b)
def changesD (a b : Fsy) : List Chg := (allNo a b).filterMap (chgD a b)
theorem chgL_yes {a b : Fsy} {k : Nat} {i : Int} {c : Chg} (hx : (allNo a b)[k]? = some i) (h : chgD a b i = some c) : chgL a b (k + 1) = chgL a b k ++ [c] := by
 unfold chgL; rw [take_step hx, List.filterMap_append]; simp [h]
theorem chgL_no {a b : Fsy} {k : Nat} {i : Int} (hx : (allNo a b)[k]? = some i) (h : chgD a b i = none) : chgL a b (k + 1) = chgL a b k := by
 unfold chgL; rw [take_step hx, List.filterMap_append]; simp [h]
theorem chgL_le (a b : Fsy) (k : Nat) : (chgL a b k).length ≤ k := by
 have := List.length_filterMap_le (chgD a b) ((allNo a b).take k)
 rw [List.length_take] at this
 unfold chgL; omega
theorem chgL_all {a b : Fsy} {k : Nat} (h : (allNo a b).length ≤ k) : chgL a b k = changesD a b := by unfold chgL; rw [take_all h]; rfl
theorem changes_gone {a b : Fsy} : ∀ c ∈ changesD a b, c.gone = true → c.n.l = [] := fun c hc hg => by
 obtain ⟨i, _, h⟩ := List.mem_filterMap.1 hc
 unfold chgD at h
 split at h
 ·obtain rfl := Option.some.inj h; rfl
 ·split at h
  ·obtain rfl := Option.some.inj h; cases hg
  ·cases h
theorem noRow_mem {x : Int} : ∀ {ns : List Nod} {l : List Int}, x ∈ noRow l ns ↔ x ∈ l ∨ x ∈ ns.map Nod.ino
 | [], l => by simp [noRow]
 | n :: r, l => by
  show x ∈ noRow (withI l n.ino) r ↔ _
  rw [noRow_mem, with_mem, List.map_cons, List.mem_cons]
  constructor
  ·rintro ((h | h) | h)
   ·exact .inr (.inl h)
   ·exact .inl h
   ·exact .inr (.inr h)
  ·rintro (h | h | h)
   ·exact .inl (.inr h)
   ·exact .inl (.inl h)
   ·exact .inr h
theorem noRow_asc : ∀ {ns : List Nod} {l : List Int}, Asc l → Asc (noRow l ns)
 | [], _, h => h
 | n :: r, l, h => noRow_asc (ns := r) (with_asc h n.ino)
theorem allNo_asc (f g : Fsy) : Asc (allNo f g) := noRow_asc (noRow_asc List.Pairwise.nil)
theorem allNo_mem {f g : Fsy} {x : Int} : x ∈ allNo f g ↔ x ∈ f.l.map Nod.ino ∨ x ∈ g.l.map Nod.ino := by
 unfold allNo
 rw [noRow_mem, noRow_mem]
 simp
theorem allNo_eq (f g : Fsy) : sortU ((f.l ++ g.l).map Nod.ino) = allNo f g := asc_ext (sortU_asc _) (allNo_asc f g) fun x => by
 rw [sortU_mem, allNo_mem, List.map_append, List.mem_append]
theorem chgD_some {f g : Fsy} {i : Int} {c : Chg} (h : chgD f g i = some c) : c.ino = i ∧ ((c.gone = true ∧ atF g i = none) ∨ (c.gone = false ∧ atF g i = some c.n)) := by
 unfold chgD at h
 rw [at_B, at_B] at h
 cases hg : atF g i with
 | none =>
  rw [hg] at h
  simp at h
  subst h
  exact ⟨rfl, .inl ⟨rfl, rfl⟩⟩
 | some n =>
  rw [hg] at h
  have hn : findN g i = n := by rw [at_N, hg]; rfl
  simp only [Option.isSome_some, Bool.true_eq_false, if_false] at h
  split at h
  ·obtain rfl := Option.some.inj h
   exact ⟨rfl, .inr ⟨rfl, by rw [hn]⟩⟩
  ·cases h
def apD (f : Fsy) (c : Chg) : Fsy := if c.gone = true then outF f c.ino else putF f c.n
def apK (f : Fsy) (cs : List Chg) (k : Nat) : Fsy := (cs.take k).foldl apD f
def maxD (a b : Int) : Int := if b > a then b else a
def applyD (f : Fsy) (cs : List Chg) (next : Int) : Fsy := ⟨(apK f cs cs.length).l, maxD (apK f cs cs.length).next next⟩
theorem apK_step {f : Fsy} {cs : List Chg} {k : Nat} {c : Chg} (h : cs[k]? = some c) : apK f cs (k + 1) = apD (apK f cs k) c := by
 unfold apK; rw [take_step h, List.foldl_append]; rfl
structure ApOk (c : Chg) : Prop where
 no : c.n.ino < 1152921504606846977
 node : OkN c.n
theorem apD_keep {f : Fsy} {c : Chg} {m : Nat} (okf : OkF f) (hr : RiseN f.l) (hm : f.l.length ≤ m) (hm2 : m ≤ 80000) (hc : ApOk c) : OkF (apD f c) ∧ RiseN (apD f c).l ∧ (apD f c).l.length ≤ m + 1 := by
 have := hc.no
 unfold apD
 split
 ·exact ⟨out_ok okf hr, out_rise hr, Nat.le_trans (outN_le f.l c.ino) (by omega)⟩
 ·exact ⟨put_ok okf hc.node (by omega) (by omega), put_rise hr, Nat.le_trans (putN_le f.l c.n) (by omega)⟩
theorem apK_keep {f : Fsy} {cs : List Chg} (okf : OkF f) (hr : RiseN f.l) (hl : f.l.length + cs.length ≤ 80000) (hc : ∀ c ∈ cs, ApOk c) : ∀ k, k ≤ cs.length → OkF (apK f cs k) ∧ RiseN (apK f cs k).l ∧ (apK f cs k).l.length ≤ f.l.length + k
 | 0, _ => ⟨okf, hr, Nat.le_refl _⟩
 | k + 1, hk => by
  obtain ⟨h1, h2, h3⟩ := apK_keep okf hr hl hc k (by omega)
  have hx := List.getElem?_eq_getElem (l := cs) (i := k) (by omega)
  rw [apK_step hx]
  have := apD_keep (m := f.l.length + k) h1 h2 h3 (by omega) (hc _ (List.mem_of_getElem? hx))
  exact ⟨this.1, this.2.1, by have := this.2.2; omega⟩
theorem apply_ok {f : Fsy} {cs : List Chg} {next : Int} (okf : OkF f) (hr : RiseN f.l) (hl : f.l.length + cs.length ≤ 80000) (hc : ∀ c ∈ cs, ApOk c) (hn : I64 next) : OkF (applyD f cs next) ∧ RiseN (applyD f cs next).l := by
 obtain ⟨h1, h2, h3⟩ := apK_keep okf hr hl hc cs.length (Nat.le_refl _)
 refine ⟨⟨?_, h1.2⟩, h2⟩
 show I64 (maxD _ _)
 unfold maxD
 split
 ·exact hn
 ·exact h1.1
theorem changes_ap {f g : Fsy} (okg : OkF g) (hg : ∀ n ∈ g.l, n.ino < 1152921504606846977) : ∀ c ∈ changesD f g, ApOk c := fun c hc => by
 obtain ⟨i, _, h⟩ := List.mem_filterMap.1 hc
 have key : c.n = nod0 ∨ c.n ∈ g.l := by
  rcases (chgD_some h).2 with h1 | h1
  ·left
   unfold chgD at h
   split at h
   ·obtain rfl := Option.some.inj h; rfl
   ·split at h
    ·obtain rfl := Option.some.inj h; cases h1.1
    ·cases h
  ·exact .inr (at_mem h1.2)
 rcases key with e | e
 ·exact ⟨by rw [e]; decide, by rw [e]; exact nod0_ok⟩
 ·exact ⟨hg _ e, okg.2.2 _ e⟩
theorem changes_len (f g : Fsy) : (changesD f g).length ≤ f.l.length + g.l.length := by
 have h1 := List.length_filterMap_le (chgD f g) (allNo f g)
 have h2 := noRow_le [] f.l
 have h3 := noRow_le (noRow [] f.l) g.l
 unfold changesD
 unfold allNo at h1 ⊢
 simp at h2
 omega
end Go.Proofs.YtkhnialfkndiiaaGreat
