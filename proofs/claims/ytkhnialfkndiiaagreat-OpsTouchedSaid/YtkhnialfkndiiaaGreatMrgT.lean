/- dirs.Give. What is added, or given, is found and taken away again: the mathematics. The document's example of directories. The law DirsFinds over data. The law DirsBack over data. What is given is found and taken away again: the mathematics; the law DirsGives over data. What ref08 calls right is a tree. dirs.within, over. -/
import Derived.Test.YtkhnialfkndiiaaGreatMrgS
import Derived.Test.YtkhnialfkndiiaaGreatMrgR
set_option linter.unusedVariables false
set_option linter.unusedSimpArgs false
namespace Go.Proofs.YtkhnialfkndiiaaGreat
open Go Go.RowKit Copyhold
theorem first_lit6 {t : Bool} (a b c d e g : Int) : Sub (.sl 1 t [[aI a], [aI b], [aI c], [aI d], [aI e], [aI g]]) (.sl 1 false ([a, b, c, d, e, g].map intA)) := Sub.loose _ _ _
theorem first_lit4 {t : Bool} (a b c d : Int) : Sub (.sl 1 t [[aI a], [aI b], [aI c], [aI d]]) (.sl 1 false ([a, b, c, d].map intA)) := Sub.loose _ _ _
noncomputable def giveN (n : Nod) : Nod := ⟨n.ino, n.kind, n.links + 1, n.text, n.l⟩
noncomputable def giveF0 (f : Fsy) (d : Int) (s : Txt) (i : Int) (n : Nod) : Fsy := putF (enterF f d s i) (giveN n)
noncomputable def giveErr (f : Fsy) (d : Int) (s : Txt) (i : Int) : Int := firstE [dirE f d, whenE (!(findB f i)) 6, whenE ((findN f i).kind == 2) 9, checkE s, whenE (isB (dirN f d).l s) 7, whenE (decide (((dirN f d).l.length : Int) ≥ 256) || decide ((findN f i).links ≥ 64)) 12]
noncomputable def giveF (f : Fsy) (d : Int) (s : Txt) (i : Int) : Fsy := if giveErr f d s i = 0 then giveF0 f d s i (findN f i) else f
theorem find_links {f : Fsy} (hp : rowsP f) (i : Int) : 0 ≤ (findN f i).links ∧ (findN f i).links ≤ 64 := by
  by_cases h : findB f i = true
  · have := ((rowsP_iff.1 hp).2.2.1 _ (find_mem h)).1
    exact ⟨this.2.1, this.2.2.1⟩
  · rw [(at_no (at_none (by simpa using h))).2]; decide
set_option maxRecDepth 100000 in
set_option maxHeartbeats 4000000 in
theorem give1_spec (f : Fsy) (dir : Int) (s : Txt) (i : Int) (n : Nod) (b : Nat) (okf : OkF f) (hp : rowsP f) (hs : s.length ≤ 1000000) (hi : I64 i) (hn : I64 n.ino ∧ n.ino < 9223372036854775807) (hk : 0 ≤ n.links ∧ n.links ≤ 1000) : LSpec Tryz.prog 119 [.ptr 12 b 0, .dptr [.sl 5 false (f.l.map nodA), aI f.next], .dptr [aI dir], .dptr [aS s], .dptr [aI i]] (.box b 59 [aI n.ino, aI n.kind, aI n.links, aS n.text, .sl 2 false (n.l.map entA)]) (.agg (fsyA (giveF0 f dir s i n))) := by
  have hl := hp.1
  have hr := rows_rise hp
  exact lspec_vc (q := 12) (F := Tryz.f119) 400 (
 .new fun b1 => .run 5 [b = b, rng .i64 (n.links + 1), b = b] ⟨rfl, rng64 (by omega) (by omega), rfl, trivial⟩ <|
 .ord [0, 1, 2, 3, 5, 4, 6, 7] <| .run 5 [b = b] ⟨rfl, trivial⟩ <|
 .call (denter_spec f dir s i okf hp (by omega) hi) <|
 .callS (args0 := [.agg [.sl 5 false ((enterF f dir s i).l.map nodA), aI ((enterF f dir s i).next)], .agg [aI n.ino, aI n.kind, aI (n.links + 1), aS n.text, .sl 2 false (n.l.map entA)]]) (args := [.agg [.sl 5 false ((enterF f dir s i).l.map nodA), aI ((enterF f dir s i).next)], .agg [aI ((giveN n).ino), aI ((giveN n).kind), aI ((giveN n).links), aS ((giveN n).text), .sl 2 false ((giveN n).l.map entA)]]) ⟨Sub.refl _, Sub.refl _, trivial⟩ (put_spec (enterF f dir s i) (giveN n) hn (by have := enter_le f dir s i; omega) (enter_rise hp dir s i)) <|
 .run 1 [b1 = b1] ⟨rfl, trivial⟩ <|
 .fin (x := .agg [.sl 5 false ((putF (enterF f dir s i) (giveN n)).l.map nodA), aI ((putF (enterF f dir s i) (giveN n)).next)]) (r := .agg (fsyA (giveF0 f dir s i n))) [b1 = b1] ⟨rfl, trivial⟩ (by exact Sub.refl _)) Tryz.func119 rfl (by kernel_rfl) (by kernel_rfl)
set_option maxRecDepth 100000 in
set_option maxHeartbeats 4000000 in
theorem unless3_spec (e : Int) (f : Fsy) (dir : Int) (s : Txt) (i : Int) (n : Nod) (b : Nat) (okf : OkF f) (hp : rowsP f) (hs : s.length ≤ 1000000) (hi : I64 i) (hn : I64 n.ino ∧ n.ino < 9223372036854775807) (hk : 0 ≤ n.links ∧ n.links ≤ 1000) : LSpec Tryz.prog 118 [.agg [.sl 5 false (f.l.map nodA), aI f.next], aI e, .clo 119 [.ptr 12 b 0, .dptr [.sl 5 false (f.l.map nodA), aI f.next], .dptr [aI dir], .dptr [aS s], .dptr [aI i]]] (.box b 59 [aI n.ino, aI n.kind, aI n.links, aS n.text, .sl 2 false (n.l.map entA)]) (.tup [.agg (fsyA (if e = 0 then giveF0 f dir s i n else f)), aI e]) := by
  exact lspec_vc (q := 12) (F := Tryz.f118) 400 (
 .new fun b1 => .new fun b2 => .r 1 <| .r 2 <| .br 9 (e != 0) (fun q1 => have p1 := bneT q1; .run 4 [b1 = b1, b2 = b2] ⟨rfl, rfl, trivial⟩ <|
 .fin (x := .tup [.agg [.sl 5 false (f.l.map nodA), aI f.next], aI e]) (r := .tup [.agg (fsyA (if e = 0 then giveF0 f dir s i n else f)), aI e]) [b2 = b2] ⟨rfl, trivial⟩ (by
    rw [if_neg (show ¬ e = 0 from by omega)]
    exact Sub.refl _))
 <| fun q1 => have p1 := bneF q1; .lent 1 <| .r 1 <| .lop (lcR Tryz.prog 12) ((119, [.ptr 12 b 0, .dptr [.sl 5 false (f.l.map nodA), aI f.next], .dptr [aI dir], .dptr [aS s], .dptr [aI i]], some 13), .box b 59 [aI n.ino, aI n.kind, aI n.links, aS n.text, .sl 2 false (n.l.map entA)]) (fun (_ : Unit) σ => (σ.put (some 13) (.agg [.sl 5 false ((giveF0 f dir s i n).l.map nodA), aI ((giveF0 f dir s i n).next)])).setB 12 gone) (rule_lent (args' := [.ptr 12 b 0, .dptr [.sl 5 false (f.l.map nodA), aI f.next], .dptr [aI dir], .dptr [aS s], .dptr [aI i]]) ⟨Sub.refl _, Sub.refl _, Sub.refl _, Sub.refl _, Sub.refl _, trivial⟩ (give1_spec f dir s i n b okf hp hs hi hn hk)) fun _ =>
 .run 2 [b2 = b2] ⟨rfl, trivial⟩ <|
 .fin (x := .tup [.agg [.sl 5 false ((giveF0 f dir s i n).l.map nodA), aI ((giveF0 f dir s i n).next)], aI 0]) (r := .tup [.agg (fsyA (if e = 0 then giveF0 f dir s i n else f)), aI e]) [b2 = b2] ⟨rfl, trivial⟩ (by
    rw [if_pos (show e = 0 from by omega), show e = 0 from by omega]
    exact Sub.refl _)) Tryz.func118 rfl (by kernel_rfl) (by kernel_rfl)
set_option maxRecDepth 100000 in
set_option maxHeartbeats 4000000 in
theorem give_spec (f : Fsy) (dir : Int) (s : Txt) (i : Int) (okf : OkF f) (hp : rowsP f) (hs : s.length ≤ 1000000) (hi : I64 i) : FSpec Tryz.prog 83 [.agg [.sl 5 false (f.l.map nodA), aI f.next], aI dir, aS s, aI i] (.tup [.agg (fsyA (giveF f dir s i)), aI (giveErr f dir s i)]) := by
  have hl := hp.1
  have hr := rows_rise hp
  exact spec_vc (F := Tryz.f83) 400 (
 .new fun b1 => .new fun b2 => .new fun b3 => .new fun b4 => .new fun b5 => .r 1 <| .run 2 [b1 = b1, b2 = b2] ⟨rfl, rfl, trivial⟩ <|
 .call (dir_spec f dir hp) <|
 .r 3 <| .new fun b6 => .run 2 [b6 = b6] ⟨rfl, trivial⟩ <|
 .run 2 [b1 = b1, b4 = b4] ⟨rfl, rfl, trivial⟩ <|
 .call (tfind_spec f i (by omega) hr) <|
 .r 3 <| .new fun b7 => .run 2 [b7 = b7] ⟨rfl, trivial⟩ <|
 .run 3 [b6 = b6, b3 = b3] ⟨rfl, rfl, trivial⟩ <|
 .call (nfind_spec ((dirN f dir).l) s (by have := (dir_srt hp dir).2; omega) (dir_srt hp dir).1) <|
 .r 5 <| .ord [0, 1, 2, 4, 5, 6, 8, 10, 12, 13, 14, 15, 3, 7, 9, 11, 16, 17, 18, 19, 20, 21, 22, 23, 24] <| .run 11 [b7 = b7, b3 = b3, b6 = b6] ⟨rfl, rfl, rfl, trivial⟩ <|
 .val 49 (show (aI (((dirN f dir).l.map entA).length : Int) : AV) = aI (((dirN f dir).l).length : Int) from by rw [List.length_map]) <| .r 1 <| .call (when_spec (!(findB f i)) 6) <|
 .call (when_spec (((findN f i).kind) == 2) 9) <|
 .call (check_spec s (by omega)) <|
 .call (when_spec (isB ((dirN f dir).l) s) 7) <|
 .r 1 <| .br 51 (decide ((((dirN f dir).l).length : Int) ≥ 256)) (fun q1 => have p1 := decT q1; .r 4 <| .call (when_spec true 12) <|
 .r 1 <| .callS (args0 := [.sl 1 true ([[aI (dirE f dir)], [aI (whenE (!(findB f i)) 6)], [aI (whenE (((findN f i).kind) == 2) 9)], [aI (checkE s)], [aI (whenE (isB ((dirN f dir).l) s) 7)], [aI (whenE true 12)]])]) (args := [.sl 1 false ([(dirE f dir), (whenE (!(findB f i)) 6), (whenE (((findN f i).kind) == 2) 9), (checkE s), (whenE (isB ((dirN f dir).l) s) 7), (whenE true 12)].map intA)]) ⟨first_lit6 (dirE f dir) (whenE (!(findB f i)) 6) (whenE (((findN f i).kind) == 2) 9) (checkE s) (whenE (isB ((dirN f dir).l) s) 7) (whenE true 12), trivial⟩ (first_spec [(dirE f dir), (whenE (!(findB f i)) 6), (whenE (((findN f i).kind) == 2) 9), (checkE s), (whenE (isB ((dirN f dir).l) s) 7), (whenE true 12)] (by simp)) <|
 .r 1 <| .frz 4 [4, 5, 6, 7, 8, 9, 11, 12, 51, 55] [5, 6, 7, 8, 12] [b1 = b1] ⟨rfl, trivial⟩ <|
 .frz 5 [4, 5, 6, 7, 8, 9, 11, 12, 51, 55] [6, 7, 8, 12] [b2 = b2] ⟨rfl, trivial⟩ <|
 .frz 6 [4, 5, 6, 7, 8, 9, 11, 12, 51, 55] [7, 8, 12] [b3 = b3] ⟨rfl, trivial⟩ <|
 .frz 7 [4, 5, 6, 7, 8, 9, 11, 12, 51, 55] [8, 12] [b4 = b4] ⟨rfl, trivial⟩ <|
 .lent 3 <| .r 3 <| .lop (lcR Tryz.prog 12) ((118, [.agg [.sl 5 false (f.l.map nodA), aI f.next], aI (firstE [(dirE f dir), (whenE (!(findB f i)) 6), (whenE (((findN f i).kind) == 2) 9), (checkE s), (whenE (isB ((dirN f dir).l) s) 7), (whenE true 12)]), .clo 119 [.ptr 12 b7 0, .dptr [.sl 5 false (f.l.map nodA), aI f.next], .dptr [aI dir], .dptr [aS s], .dptr [aI i]]], some 62), .box b7 59 [aI ((findN f i).ino), aI ((findN f i).kind), aI ((findN f i).links), aS ((findN f i).text), .sl 2 false ((findN f i).l.map entA)]) (fun (_ : Unit) σ => (σ.put (some 62) (.tup [.agg [.sl 5 false ((if firstE [(dirE f dir), (whenE (!(findB f i)) 6), (whenE (((findN f i).kind) == 2) 9), (checkE s), (whenE (isB ((dirN f dir).l) s) 7), (whenE true 12)] = 0 then giveF0 f dir s i (findN f i) else f).l.map nodA), aI ((if firstE [(dirE f dir), (whenE (!(findB f i)) 6), (whenE (((findN f i).kind) == 2) 9), (checkE s), (whenE (isB ((dirN f dir).l) s) 7), (whenE true 12)] = 0 then giveF0 f dir s i (findN f i) else f).next)], aI (firstE [(dirE f dir), (whenE (!(findB f i)) 6), (whenE (((findN f i).kind) == 2) 9), (checkE s), (whenE (isB ((dirN f dir).l) s) 7), (whenE true 12)])])).setB 12 gone) (rule_lent (args' := [.agg [.sl 5 false (f.l.map nodA), aI f.next], aI (firstE [(dirE f dir), (whenE (!(findB f i)) 6), (whenE (((findN f i).kind) == 2) 9), (checkE s), (whenE (isB ((dirN f dir).l) s) 7), (whenE true 12)]), .clo 119 [.ptr 12 b7 0, .dptr [.sl 5 false (f.l.map nodA), aI f.next], .dptr [aI dir], .dptr [aS s], .dptr [aI i]]]) ⟨Sub.refl _, Sub.refl _, Sub.refl _, trivial⟩ (unless3_spec (firstE [(dirE f dir), (whenE (!(findB f i)) 6), (whenE (((findN f i).kind) == 2) 9), (checkE s), (whenE (isB ((dirN f dir).l) s) 7), (whenE true 12)]) f dir s i (findN f i) b7 okf hp hs hi (find_I64 okf hp i) (by have := find_links hp i; omega))) fun _ =>
 .run 4 [b5 = b5] ⟨rfl, trivial⟩ <|
 .fin (x := .tup [.agg [.sl 5 false ((if firstE [(dirE f dir), (whenE (!(findB f i)) 6), (whenE (((findN f i).kind) == 2) 9), (checkE s), (whenE (isB ((dirN f dir).l) s) 7), (whenE true 12)] = 0 then giveF0 f dir s i (findN f i) else f).l.map nodA), aI ((if firstE [(dirE f dir), (whenE (!(findB f i)) 6), (whenE (((findN f i).kind) == 2) 9), (checkE s), (whenE (isB ((dirN f dir).l) s) 7), (whenE true 12)] = 0 then giveF0 f dir s i (findN f i) else f).next)], aI (firstE [(dirE f dir), (whenE (!(findB f i)) 6), (whenE (((findN f i).kind) == 2) 9), (checkE s), (whenE (isB ((dirN f dir).l) s) 7), (whenE true 12)])]) (r := .tup [.agg (fsyA (giveF f dir s i)), aI (giveErr f dir s i)]) [b5 = b5] ⟨rfl, trivial⟩ (by
    have e : giveErr f dir s i = firstE [(dirE f dir), (whenE (!(findB f i)) 6), (whenE (((findN f i).kind) == 2) 9), (checkE s), (whenE (isB ((dirN f dir).l) s) 7), (whenE true 12)] := by
      unfold giveErr
      simp only [q1, Bool.true_or, Bool.false_or, Bool.not_true, Bool.not_false]
    unfold giveF
    rw [e]
    exact Sub.refl _))
 <| fun q1 => have p1 := decF q1; .run 4 [b7 = b7] ⟨rfl, trivial⟩ <|
 .call (when_spec (decide (((findN f i).links) ≥ 64)) 12) <|
 .r 1 <| .callS (args0 := [.sl 1 true ([[aI (dirE f dir)], [aI (whenE (!(findB f i)) 6)], [aI (whenE (((findN f i).kind) == 2) 9)], [aI (checkE s)], [aI (whenE (isB ((dirN f dir).l) s) 7)], [aI (whenE (decide (((findN f i).links) ≥ 64)) 12)]])]) (args := [.sl 1 false ([(dirE f dir), (whenE (!(findB f i)) 6), (whenE (((findN f i).kind) == 2) 9), (checkE s), (whenE (isB ((dirN f dir).l) s) 7), (whenE (decide (((findN f i).links) ≥ 64)) 12)].map intA)]) ⟨first_lit6 (dirE f dir) (whenE (!(findB f i)) 6) (whenE (((findN f i).kind) == 2) 9) (checkE s) (whenE (isB ((dirN f dir).l) s) 7) (whenE (decide (((findN f i).links) ≥ 64)) 12), trivial⟩ (first_spec [(dirE f dir), (whenE (!(findB f i)) 6), (whenE (((findN f i).kind) == 2) 9), (checkE s), (whenE (isB ((dirN f dir).l) s) 7), (whenE (decide (((findN f i).links) ≥ 64)) 12)] (by simp)) <|
 .r 1 <| .frz 4 [4, 5, 6, 7, 8, 9, 11, 12, 51] [5, 6, 7, 8, 12] [b1 = b1] ⟨rfl, trivial⟩ <|
 .frz 5 [4, 5, 6, 7, 8, 9, 11, 12, 51] [6, 7, 8, 12] [b2 = b2] ⟨rfl, trivial⟩ <|
 .frz 6 [4, 5, 6, 7, 8, 9, 11, 12, 51] [7, 8, 12] [b3 = b3] ⟨rfl, trivial⟩ <|
 .frz 7 [4, 5, 6, 7, 8, 9, 11, 12, 51] [8, 12] [b4 = b4] ⟨rfl, trivial⟩ <|
 .lent 3 <| .r 3 <| .lop (lcR Tryz.prog 12) ((118, [.agg [.sl 5 false (f.l.map nodA), aI f.next], aI (firstE [(dirE f dir), (whenE (!(findB f i)) 6), (whenE (((findN f i).kind) == 2) 9), (checkE s), (whenE (isB ((dirN f dir).l) s) 7), (whenE (decide (((findN f i).links) ≥ 64)) 12)]), .clo 119 [.ptr 12 b7 0, .dptr [.sl 5 false (f.l.map nodA), aI f.next], .dptr [aI dir], .dptr [aS s], .dptr [aI i]]], some 62), .box b7 59 [aI ((findN f i).ino), aI ((findN f i).kind), aI ((findN f i).links), aS ((findN f i).text), .sl 2 false ((findN f i).l.map entA)]) (fun (_ : Unit) σ => (σ.put (some 62) (.tup [.agg [.sl 5 false ((if firstE [(dirE f dir), (whenE (!(findB f i)) 6), (whenE (((findN f i).kind) == 2) 9), (checkE s), (whenE (isB ((dirN f dir).l) s) 7), (whenE (decide (((findN f i).links) ≥ 64)) 12)] = 0 then giveF0 f dir s i (findN f i) else f).l.map nodA), aI ((if firstE [(dirE f dir), (whenE (!(findB f i)) 6), (whenE (((findN f i).kind) == 2) 9), (checkE s), (whenE (isB ((dirN f dir).l) s) 7), (whenE (decide (((findN f i).links) ≥ 64)) 12)] = 0 then giveF0 f dir s i (findN f i) else f).next)], aI (firstE [(dirE f dir), (whenE (!(findB f i)) 6), (whenE (((findN f i).kind) == 2) 9), (checkE s), (whenE (isB ((dirN f dir).l) s) 7), (whenE (decide (((findN f i).links) ≥ 64)) 12)])])).setB 12 gone) (rule_lent (args' := [.agg [.sl 5 false (f.l.map nodA), aI f.next], aI (firstE [(dirE f dir), (whenE (!(findB f i)) 6), (whenE (((findN f i).kind) == 2) 9), (checkE s), (whenE (isB ((dirN f dir).l) s) 7), (whenE (decide (((findN f i).links) ≥ 64)) 12)]), .clo 119 [.ptr 12 b7 0, .dptr [.sl 5 false (f.l.map nodA), aI f.next], .dptr [aI dir], .dptr [aS s], .dptr [aI i]]]) ⟨Sub.refl _, Sub.refl _, Sub.refl _, trivial⟩ (unless3_spec (firstE [(dirE f dir), (whenE (!(findB f i)) 6), (whenE (((findN f i).kind) == 2) 9), (checkE s), (whenE (isB ((dirN f dir).l) s) 7), (whenE (decide (((findN f i).links) ≥ 64)) 12)]) f dir s i (findN f i) b7 okf hp hs hi (find_I64 okf hp i) (by have := find_links hp i; omega))) fun _ =>
 .run 4 [b5 = b5] ⟨rfl, trivial⟩ <|
 .fin (x := .tup [.agg [.sl 5 false ((if firstE [(dirE f dir), (whenE (!(findB f i)) 6), (whenE (((findN f i).kind) == 2) 9), (checkE s), (whenE (isB ((dirN f dir).l) s) 7), (whenE (decide (((findN f i).links) ≥ 64)) 12)] = 0 then giveF0 f dir s i (findN f i) else f).l.map nodA), aI ((if firstE [(dirE f dir), (whenE (!(findB f i)) 6), (whenE (((findN f i).kind) == 2) 9), (checkE s), (whenE (isB ((dirN f dir).l) s) 7), (whenE (decide (((findN f i).links) ≥ 64)) 12)] = 0 then giveF0 f dir s i (findN f i) else f).next)], aI (firstE [(dirE f dir), (whenE (!(findB f i)) 6), (whenE (((findN f i).kind) == 2) 9), (checkE s), (whenE (isB ((dirN f dir).l) s) 7), (whenE (decide (((findN f i).links) ≥ 64)) 12)])]) (r := .tup [.agg (fsyA (giveF f dir s i)), aI (giveErr f dir s i)]) [b5 = b5] ⟨rfl, trivial⟩ (by
    have e : giveErr f dir s i = firstE [(dirE f dir), (whenE (!(findB f i)) 6), (whenE (((findN f i).kind) == 2) 9), (checkE s), (whenE (isB ((dirN f dir).l) s) 7), (whenE (decide (((findN f i).links) ≥ 64)) 12)] := by
      unfold giveErr
      simp only [q1, Bool.true_or, Bool.false_or, Bool.not_true, Bool.not_false]
    unfold giveF
    rw [e]
    exact Sub.refl _)) Tryz.func83 rfl (by kernel_rfl) (by kernel_rfl)
end Go.Proofs.YtkhnialfkndiiaaGreat

set_option linter.unusedVariables false
set_option linter.unusedSimpArgs false
namespace Go.Proofs.YtkhnialfkndiiaaGreat
open Go Go.RowKit Copyhold
open Copyhold.Name (Srt insE delE getE isAt)
theorem first5 {a b c d e : Int} : firstE [a, b, c, d, e] = if a = 0 then (if b = 0 then (if c = 0 then (if d = 0 then e else d) else c) else b) else a := by
  unfold firstE
  by_cases h : a = 0 <;> by_cases h2 : b = 0 <;> by_cases h3 : c = 0 <;> by_cases h4 : d = 0 <;> by_cases h5 : e = 0 <;> simp [h, h2, h3, h4, h5]
theorem first6 {a b c d e g : Int} : firstE [a, b, c, d, e, g] = if a = 0 then (if b = 0 then (if c = 0 then (if d = 0 then (if e = 0 then g else e) else d) else c) else b) else a := by
  unfold firstE
  by_cases h : a = 0 <;> by_cases h2 : b = 0 <;> by_cases h3 : c = 0 <;> by_cases h4 : d = 0 <;> by_cases h5 : e = 0 <;> by_cases h6 : g = 0 <;> simp [h, h2, h3, h4, h5, h6]
theorem when0 {b : Bool} {e : Int} (he : ¬ e = 0) : whenE b e = 0 ↔ b = false := by
  unfold whenE
  cases b <;> simp [he]
theorem find_dir {f : Fsy} {i : Int} {d : Nod} (h : atF f i = some d) : findN f i = d := (at_BN h).2
theorem withL_nod {d : Nod} {l : List Ent} (h : nodP d) (hk : d.kind = 2) (hl : rowP l) : nodP (withL d l) := ⟨h.1, h.2.1, h.2.2.1, .inl ⟨hk, (dir_row h hk).1, hl⟩⟩
def setL (f : Fsy) (d : Nod) (l : List Ent) : Fsy := putF f (withL d l)
theorem setL_rows {f : Fsy} {i : Int} {d : Nod} {l : List Ent} (h : rowsP f) (hd : atF f i = some d) (hk : d.kind = 2) (hl : rowP l) : rowsP (setL f d l) ∧ (setL f d l).l.length = f.l.length ∧ (setL f d l).next = f.next ∧ ∀ j, atF (setL f d l) j = if j = i then some (withL d l) else atF f j := by
  obtain ⟨g1, g2, g3⟩ := rows_at h hd
  have hb : findB f (withL d l).ino = true := by show findB f d.ino = true; rw [g3]; exact (at_BN hd).1
  refine ⟨put_rows2 h (withL_nod g1 hk hl) hb, put_len (rows_rise h) hb, put_next g2, fun j => ?_⟩
  have := at_put (n := withL d l) (j := j) (rows_rise h)
  rw [show (withL d l).ino = i from g3] at this
  exact this
theorem put_there {f : Fsy} {n m : Nod} {i : Int} (h : rowsP f) (hd : atF f i = some m) (hi : n.ino = i) (hn : nodP n) : rowsP (putF f n) ∧ (putF f n).l.length = f.l.length ∧ (putF f n).next = f.next ∧ ∀ j, atF (putF f n) j = if j = i then some n else atF f j := by
  obtain ⟨g1, g2, g3⟩ := rows_at h hd
  have hb : findB f n.ino = true := by rw [hi]; exact (at_BN hd).1
  exact ⟨put_rows2 h hn hb, put_len (rows_rise h) hb, put_next (by omega), fun j => by rw [at_put (rows_rise h), hi]⟩
structure AddsP (f : Fsy) (dir : Int) (s : Txt) (n : Nod) (d : Nod) : Prop where
  dir : atF f dir = some d
  kind : d.kind = 2
  check : checkE s = 0
  away : isB d.l s = false
  few : f.l.length < 256
  fewd : d.l.length < 256
  node : nodP (addN f n)
  nol : n.l = []
theorem adds_of {f : Fsy} {dir : Int} {s : Txt} {n : Nod} (h : addErr f dir s n = 0) : ∃ d, AddsP f dir s n d := by
  unfold addErr at h
  rw [first5] at h
  split at h
  · rename_i h1
    split at h
    · rename_i h2
      split at h
      · rename_i h3
        split at h
        · rename_i h4
          obtain ⟨d, g1, g2, g3, _, _⟩ := at_dir h1
          rw [g3] at h3 h4
          rw [when0 (by decide)] at h h3 h4
          simp only [Bool.or_eq_false_iff, decide_eq_false_iff_not, Bool.not_eq_false'] at h h4
          refine ⟨d, g1, g2, h2, h3, by omega, by omega, dP_true.1 h.1, List.eq_nil_of_length_eq_zero (by omega)⟩
        · exact absurd h (by assumption)
      · exact absurd h (by assumption)
    · exact absurd h (by assumption)
  · exact absurd h (by assumption)
theorem enter_set {f : Fsy} {dir : Int} {s : Txt} {i : Int} {d : Nod} (h : atF f dir = some d) : enterF f dir s i = setL f d (entL d.l s i) := by unfold enterF setL; rw [find_dir h]
theorem leave_set {f : Fsy} {dir : Int} {s : Txt} {d : Nod} (h : atF f dir = some d) : leaveF f dir s = setL f d (delL d.l s) := by unfold leaveF setL; rw [find_dir h]
theorem take_ok {f : Fsy} {dir : Int} {s : Txt} {d n : Nod} {j : Int} (h1 : atF f dir = some d) (h2 : d.kind = 2) (h3 : checkE s = 0) (h4 : getE (lI d.l) s = some j) (h5 : atF f j = some n) (hf : fullB n = false) :
    takeErr f dir s = 0 ∧ takeF f dir s = awayF f dir s n := by
  obtain ⟨g1, g2⟩ := look_at h1 h2 h3 h4 h5
  have e : takeErr f dir s = 0 := by unfold takeErr; rw [first2, if_pos g1, g2, hf]; rfl
  exact ⟨e, by unfold takeF; rw [if_pos e, g2]⟩
theorem at_next {f : Fsy} (h : rowsP f) : atF f f.next = none := by
  cases hc : atF f f.next with
  | none => rfl
  | some n => have := rows_at h hc; omega
theorem back_facts {f : Fsy} {dir : Int} {s : Txt} {n : Nod} (hp : rowsP f) (he : addErr f dir s n = 0) :
    rowsP (addF f dir s (addN f n)) ∧ lookE (addF f dir s (addN f n)) dir s = 0 ∧ lookN (addF f dir s (addN f n)) dir s = withL (addN f n) [] ∧ takeErr (addF f dir s (addN f n)) dir s = 0 ∧
      takeF (addF f dir s (addN f n)) dir s = ⟨f.l, f.next + 1⟩ ∧ rowsP ⟨f.l, f.next + 1⟩ ∧ lookE ⟨f.l, f.next + 1⟩ dir s = 6 := by
  obtain ⟨d, A⟩ := adds_of he
  obtain ⟨g1, g2, g3⟩ := rows_at hp A.dir
  have hr := rows_rise hp
  have hrow := (dir_row g1 A.kind).2
  have hnx : 1 ≤ f.next := hp.2.1
  have hn := at_next hp
  have hne : ¬ dir = f.next := fun e => by rw [← e, A.dir] at hn; cases hn
  have he0 := entE_cases (n := f.next) A.check hnx A.away A.fewd
  have hrow2 := ent_row (n := f.next) hrow A.check hnx A.away A.fewd
  obtain ⟨s1, s2, s3, s4⟩ := setL_rows hp A.dir A.kind hrow2
  have hX : nodP (withL (addN f n) []) := by
    have := A.node
    have hl : withL (addN f n) [] = addN f n := by unfold withL addN; rw [A.nol]
    rw [hl]; exact this
  have hXi : (withL (addN f n) []).ino = f.next := rfl
  have eA : addF f dir s (addN f n) = putF (setL f d (entL d.l s f.next)) (withL (addN f n) []) := by
    unfold addF
    rw [show (addN f n).ino = f.next from rfl, enter_set A.dir]
  have r1 : rowsP (addF f dir s (addN f n)) := by rw [eA]; exact put_rows s1 hX (by rw [s2]; exact A.few)
  have fA : ∀ j, atF (addF f dir s (addN f n)) j = if j = f.next then some (withL (addN f n) []) else if j = dir then some (withL d (entL d.l s f.next)) else atF f j := fun j => by
    rw [eA, at_put (rows_rise s1), hXi, s4]
  have nA : (addF f dir s (addN f n)).next = f.next + 1 := by rw [eA, put_next2 (by rw [hXi, s3]), s3]
  have dA : atF (addF f dir s (addN f n)) dir = some (withL d (entL d.l s f.next)) := by rw [fA, if_neg hne, if_pos rfl]
  have xA : atF (addF f dir s (addN f n)) f.next = some (withL (addN f n) []) := by rw [fA, if_pos rfl]
  have gA : getE (lI (withL d (entL d.l s f.next)).l) s = some f.next := by
    show getE (lI (entL d.l s f.next)) s = _
    rw [get_ent (row_srt hrow) he0 A.away, if_pos rfl]
  obtain ⟨l1, l2⟩ := look_at dA A.kind A.check gA xA
  have hfull : fullB (withL (addN f n) []) = false := by unfold fullB; simp [withL]
  obtain ⟨t1, t2⟩ := take_ok dA A.kind A.check gA xA hfull
  have eL : leaveF (addF f dir s (addN f n)) dir s = setL (addF f dir s (addN f n)) (withL d (entL d.l s f.next)) d.l := by
    rw [leave_set dA]
    show setL _ _ (delL (entL d.l s f.next) s) = _
    rw [del_ent (row_srt hrow) he0 A.away]
  obtain ⟨u1, u2, u3, u4⟩ := setL_rows r1 dA A.kind hrow
  have rN : rowsP ⟨f.l, f.next + 1⟩ := by
    obtain ⟨h1, h2, h3, h4⟩ := rowsP_iff.1 hp
    exact rowsP_iff.2 ⟨h1, by show 1 ≤ f.next + 1; omega, fun x hx => ⟨(h3 x hx).1, by have := (h3 x hx).2; show x.ino < f.next + 1; omega⟩, h4⟩
  have eT : takeF (addF f dir s (addN f n)) dir s = ⟨f.l, f.next + 1⟩ := by
    rw [t2]
    unfold awayF
    rw [if_pos (by show (1 : Int) - 1 < 1; omega), eL, hXi]
    refine fsy_ext (out_rise (rows_rise u1)) hr (fun j => ?_) (by show (setL _ _ _).next = f.next + 1; rw [u3, nA])
    rw [at_out (rows_rise u1), u4, fA]
    show _ = atF f j
    by_cases hj : j = f.next
    · rw [if_pos hj, hj, hn]
    · rw [if_neg hj, if_neg hj]
      by_cases hd : j = dir
      · rw [if_pos hd, hd, A.dir]; rfl
      · rw [if_neg hd, if_neg hd]
  refine ⟨r1, l1, l2, t1, eT, rN, ?_⟩
  refine look_gone (d := d) rN A.dir A.kind A.check ?_
  have := A.away
  rw [isB_get] at this
  cases hg : getE (lI d.l) s with
  | none => rfl
  | some j => rw [hg] at this; cases this
theorem add_ok {f : Fsy} {dir : Int} {s : Txt} {n : Nod} (okf : OkF f) (hp : rowsP f) (okn : OkN n) (hs : s.length ≤ 1000000) (he : addErr f dir s n = 0) (hx : f.next < 4611686018427387904) : OkF (addF f dir s (addN f n)) := by
  obtain ⟨d, A⟩ := adds_of he
  have h1 : f.l.length ≤ 256 := hp.1
  have h2 := (rows_at hp A.dir).2
  have okd := okf.2.2 d (at_mem A.dir)
  have hnx : 1 ≤ f.next := hp.2.1
  have he0 := entE_cases (n := f.next) A.check hnx A.away A.fewd
  have okl : OkN (withL d (entL d.l s f.next)) := by
    refine ⟨okd.1, okd.2.1, okd.2.2.1, okd.2.2.2.1, ?_, fun e hm => ?_⟩
    · have := ent_len (l := d.l) (s := s) (n := f.next); have := A.fewd; show (entL d.l s f.next).length ≤ _; omega
    · have hm' : e ∈ entL d.l s f.next := hm
      unfold entL at hm'
      rw [if_pos he0] at hm'
      rcases List.mem_append.1 hm' with h | h
      · exact okd.2.2.2.2.2 e (List.mem_of_mem_take h)
      · rcases List.mem_cons.1 h with rfl | h
        · exact ⟨by show s.length ≤ _; omega, okf.1⟩
        · exact okd.2.2.2.2.2 e (List.mem_of_mem_drop h)
  have hf := okf.1
  have hs1 := putN_le f.l (withL d (entL d.l s f.next))
  unfold addF
  rw [show (addN f n).ino = f.next from rfl, enter_set A.dir]
  refine put_ok (put_ok okf okl (by show d.ino < _; omega) (by omega)) ?_ (by show f.next < _; omega) (by show (putN f.l _).length ≤ _; omega)
  have := addN_ok (n := n) okf okn
  exact ⟨this.1, this.2.1, this.2.2.1, this.2.2.2.1, by show (0 : Nat) ≤ _; omega, fun e h => by cases h⟩
end Go.Proofs.YtkhnialfkndiiaaGreat

set_option linter.unusedVariables false
set_option linter.unusedSimpArgs false
namespace Go.Proofs.YtkhnialfkndiiaaGreat
open Go Go.RowKit Copyhold
theorem chk_a : checkE [97] = 0 := checkE0 ⟨by decide, by decide, by decide, by decide, by decide, by decide⟩
theorem dir_new : dirE newF 1 = 0 := rfl
def fileN : Nod := ⟨0, 1, 0, [], []⟩
theorem fileN_ok : OkN fileN := ⟨⟨by decide, by decide⟩, ⟨by decide, by decide⟩, ⟨by decide, by decide⟩, by show (0 : Nat) ≤ _; omega, by show (0 : Nat) ≤ _; omega, fun e h => by cases h⟩
theorem file_right : nodP (addN newF fileN) := ⟨by decide, by decide, by decide, .inr ⟨.inl rfl, by decide, rfl⟩⟩
theorem add_new : addErr newF 1 [97] fileN = 0 := by
  unfold addErr
  rw [chk_a, dir_new, dP_true.2 file_right]
  rfl
theorem add_len : ((if addErr newF 1 [97] fileN = 0 then addF newF 1 [97] (addN newF fileN) else newF).l.length : Int) = 2 := by
  rw [if_pos add_new]
  rfl
end Go.Proofs.YtkhnialfkndiiaaGreat

set_option linter.unusedVariables false
set_option linter.unusedSimpArgs false
namespace Go.Proofs.YtkhnialfkndiiaaGreat
open Go Go.RowKit Copyhold
structure Dfi where
  f : Fsy
  i : Int
  s : Txt
  p : Txt
end Go.Proofs.YtkhnialfkndiiaaGreat

set_option linter.unusedVariables false
set_option linter.unusedSimpArgs false
namespace Go.Proofs.YtkhnialfkndiiaaGreat
open Go Go.RowKit Copyhold
structure Dbk where
  f : Fsy
  i : Int
  s : Txt
  n : Nod
end Go.Proofs.YtkhnialfkndiiaaGreat

set_option linter.unusedVariables false
set_option linter.unusedSimpArgs false
namespace Go.Proofs.YtkhnialfkndiiaaGreat
open Go Go.RowKit Copyhold
open Copyhold.Name (Srt insE delE getE isAt)
structure GivesP (f : Fsy) (dir : Int) (s : Txt) (i : Int) (d n : Nod) : Prop where
  dir : atF f dir = some d
  kind : d.kind = 2
  node : atF f i = some n
  file : ¬ n.kind = 2
  check : checkE s = 0
  away : isB d.l s = false
  fewd : d.l.length < 256
  links : n.links < 64
theorem gives_of {f : Fsy} {dir : Int} {s : Txt} {i : Int} (h : giveErr f dir s i = 0) : ∃ d n, GivesP f dir s i d n := by
  unfold giveErr at h
  rw [first6] at h
  split at h
  · rename_i h1
    split at h
    · rename_i h2
      split at h
      · rename_i h3
        split at h
        · rename_i h4
          split at h
          · rename_i h5
            obtain ⟨d, g1, g2, g3, _, _⟩ := at_dir h1
            rw [g3] at h h5
            rw [when0 (by decide)] at h h2 h3 h5
            simp only [Bool.or_eq_false_iff, decide_eq_false_iff_not, Bool.not_eq_false'] at h h2
            have hn := at_some h2
            refine ⟨d, findN f i, g1, g2, hn, by simpa using h3, h4, h5, by omega, by omega⟩
          · exact absurd h (by assumption)
        · exact absurd h (by assumption)
      · exact absurd h (by assumption)
    · exact absurd h (by assumption)
  · exact absurd h (by assumption)
structure Dgv where
  f : Fsy
  i : Int
  s : Txt
  n : Int
end Go.Proofs.YtkhnialfkndiiaaGreat

set_option linter.unusedVariables false
set_option linter.unusedSimpArgs false
namespace Go.Proofs.YtkhnialfkndiiaaGreat
open Go Go.RowKit Copyhold
theorem names_nam {f : Fsy} (hp : rowsP f) (z : Int) : namesF f z = nam f z := by
  unfold namesF nam
  congr 1
  refine List.map_congr_left fun n hn => ?_
  unfold namK
  split
  · rfl
  · rename_i hk
    rw [show cntE z n = 0 from ?_]
    unfold cntE
    rw [file_none ((rowsP_iff.1 hp).2.2.1 n hn).1 hk]; rfl
theorem find_kids {f : Fsy} (hp : rowsP f) (i : Int) : (findN f i).l.map Ent.ino = kidsF f i := by
  unfold kidsF
  split
  · rfl
  · rename_i hk
    by_cases hb : findB f i = true
    · rw [file_none ((rowsP_iff.1 hp).2.2.1 _ (find_mem hb)).1 hk]; rfl
    · rw [(at_no (at_none (by simpa using hb))).2]; rfl
theorem addE_B {l : List Ent} : ∀ {U : List Int} {z : Int}, hasB (addE U l) z = true ↔ hasB U z = true ∨ z ∈ l.map Ent.ino := by
  induction l with
  | nil => intro U z; simp [addE]
  | cons e r ih =>
    intro U z
    show hasB (addE (if hasB U e.ino then U else U ++ [e.ino]) r) z = true ↔ _
    rw [ih]
    simp only [List.map_cons, List.mem_cons]
    split
    · rename_i h
      constructor
      · rintro (g | g)
        · exact .inl g
        · exact .inr (.inr g)
      · rintro (g | g | g)
        · exact .inl g
        · rw [g]; exact .inl h
        · exact .inr g
    · rw [hasB_app]
      constructor
      · rintro (g | g)
        · rcases Bool.or_eq_true _ _ ▸ g with g | g
          · exact .inl g
          · exact .inr (.inl (by simpa using (beq_iff_eq.1 g).symm))
        · exact .inr (.inr g)
      · rintro (g | g | g)
        · exact .inl (by rw [g]; rfl)
        · exact .inl (by rw [g]; simp)
        · exact .inr g
theorem goU_sound {f : Fsy} {i : Int} (hp : rowsP f) : ∀ (n : Nat) {U : List Int} (p : Nat), (∀ z, hasB U z = true → Reach f i z) → ∀ z, hasB (goU f n U p) z = true → Reach f i z
  | 0, U, p, h => h
  | n + 1, U, p, h => by
    simp only [goU]
    split
    · rename_i y hy
      refine goU_sound hp n (p + 1) fun z hz => ?_
      rcases addE_B.1 hz with hz | hz
      · exact h z hz
      · rw [find_kids hp] at hz
        exact (h y (hasB_mem.2 (List.mem_of_getElem? hy))).snoc hz
    · exact h
theorem addE_pre {l : List Ent} : ∀ {U : List Int} {k : Nat} {z : Int}, U[k]? = some z → (addE U l)[k]? = some z := by
  induction l with
  | nil => intro U k z h; exact h
  | cons e r ih =>
    intro U k z h
    show (addE (if hasB U e.ino then U else U ++ [e.ino]) r)[k]? = some z
    refine ih ?_
    split
    · exact h
    · rw [List.getElem?_append_left (lt_of_some h)]; exact h
theorem goU_full {f : Fsy} {i : Int} (hp : rowsP f) (hf : fewF f) : ∀ (n : Nat) {U : List Int} (p : Nat), Dst f U → 200 ≤ n + p → (∀ y ∈ kidsF f i, hasB U y = true) → (∀ k z, k < p → U[k]? = some z → ∀ y ∈ kidsF f z, hasB U y = true) →
    (∀ y ∈ kidsF f i, hasB (goU f n U p) y = true) ∧ ∀ z, hasB (goU f n U p) z = true → ∀ y ∈ kidsF f z, hasB (goU f n U p) y = true
  | 0, U, p, hd, hn, hi, h => by
    have hl := hd.le hf
    refine ⟨hi, fun z hz => ?_⟩
    obtain ⟨k, hk⟩ := List.getElem?_of_mem (hasB_mem.1 hz)
    have hk' : U[k]? = some z := hk
    exact h k z (by have := lt_of_some hk'; omega) hk'
  | n + 1, U, p, hd, hn, hi, h => by
    simp only [goU]
    split
    · rename_i y hy
      have mono : ∀ z, hasB U z = true → hasB (addE U (findN f y).l) z = true := fun z hz => addE_B.2 (.inl hz)
      refine goU_full hp hf n (p + 1) (addE_dst hd fun e he => find_ent he) (by omega) (fun z hz => mono z (hi z hz)) fun k z hk hz w hw => ?_
      by_cases hkp : k < p
      · have hk2 : k < U.length := by have := lt_of_some hy; omega
        have e : U[k]? = some z := by
          have := addE_pre (l := (findN f y).l) (List.getElem?_eq_getElem hk2)
          rw [this] at hz
          rw [List.getElem?_eq_getElem hk2]; exact hz
        exact mono w (h k z hkp e w hw)
      · have e : k = p := by omega
        subst e
        rw [addE_pre hy] at hz
        obtain rfl := Option.some.inj hz
        exact addE_B.2 (.inr (by rw [find_kids hp]; exact hw))
    · rename_i hnone
      refine ⟨hi, fun z hz => ?_⟩
      obtain ⟨k, hk⟩ := List.getElem?_of_mem (hasB_mem.1 hz)
      have : U.length ≤ p := by
        cases Nat.lt_or_ge p U.length with
        | inl hlt => rw [List.getElem?_eq_getElem hlt] at hnone; cases hnone
        | inr hge => exact hge
      exact h k z (by have := lt_of_some hk; omega) hk
theorem under_iff {f : Fsy} {i z : Int} (hp : rowsP f) (hf : fewF f) : hasB (underF f i) z = true ↔ Reach f i z := by
  have h0 : ∀ y, hasB (addE [] (findN f i).l) y = true ↔ y ∈ kidsF f i := fun y => by
    rw [addE_B, find_kids hp]
    simp [hasB]
  refine ⟨goU_sound hp 300 0 (fun y hy => .one ((h0 y).1 hy)) z, fun h => ?_⟩
  obtain ⟨g1, g2⟩ := goU_full (i := i) hp hf 300 0 (addE_dst (Dst.nil f) fun e he => find_ent he) (by omega) (fun y hy => (h0 y).2 hy) (fun k z hk => absurd hk (Nat.not_lt_zero k))
  have main : ∀ a b, Reach f a b → (∀ y ∈ kidsF f a, hasB (underF f i) y = true) → hasB (underF f i) b = true := by
    intro a b hab
    induction hab with
    | one h => exact fun hk => hk _ h
    | more h _ ih => exact fun hk => ih (g2 _ (hk _ h))
  exact main i z h g1
theorem rightP_tree {f : Fsy} (hf : fewF f) (h : rightP f) : TreeP f := by
  obtain ⟨h1, ⟨n0, h2, h3, h4, h5⟩, h6⟩ := h
  have hr := rows_rise h1
  have key : ∀ i n, atF f i = some n → n.links = (nam f i : Int) ∧ (∀ e ∈ n.l, findB f e.ino = true) ∧ (¬ i = 1 → 1 ≤ n.links ∧ (n.kind = 2 → n.links ≤ 1 ∧ Reach f 1 i)) := fun i n hn => by
    obtain ⟨j, hj⟩ := List.getElem?_of_mem (at_mem hn)
    obtain ⟨a, b, c⟩ := h6 j n hj
    rw [at_ino hn, names_nam h1] at a
    refine ⟨a, fun e he => by obtain ⟨k, hk⟩ := List.getElem?_of_mem he; exact c k e hk, fun hi => ?_⟩
    unfold lateR at b
    have hj0 : ¬ j = 0 := fun e => by
      rw [e, h2] at hj
      obtain rfl := Option.some.inj hj
      exact hi ((at_ino hn).symm.trans h3)
    rw [decide_eq_true (show (j : Int) > 0 from by omega)] at b
    simp only [Bool.true_and, Bool.not_eq_true', Bool.or_eq_false_iff, decide_eq_false_iff_not, Bool.and_eq_false_iff] at b
    refine ⟨by omega, fun hk => ?_⟩
    rcases b.2 with b2 | b2
    · simp [hk] at b2
    · have b3 := b2.2
      rw [at_ino hn] at b3
      simp only [Bool.not_eq_false'] at b3
      exact ⟨by omega, (under_iff h1 hf).1 b3⟩
  refine ⟨h1, ⟨n0, first_at1 h2 h3 hr, h4, h5⟩, fun i n hn => (key i n hn).1, fun i z hz => ?_, fun i n hn hi => ((key i n hn).2.2 hi).1, fun i n hn hk hi => ?_⟩
  · obtain ⟨d, hd, hk, e, he, hez⟩ := kids_some hz
    have hb := (key i d hd).2.1 e he
    rw [hez] at hb
    refine ⟨⟨_, at_some hb⟩, fun h1z => ?_⟩
    have g := (key 1 n0 (first_at1 h2 h3 hr)).1
    have := (nam_pos hr).2 ⟨i, hz⟩
    rw [h1z] at this
    omega
  · have := (key i n hn).2.2 hi
    have h2 := this.2 hk
    exact ⟨by omega, h2.2⟩
end Go.Proofs.YtkhnialfkndiiaaGreat

set_option linter.unusedVariables false
set_option linter.unusedSimpArgs false
namespace Go.Proofs.YtkhnialfkndiiaaGreat
open Go Go.RowKit Copyhold
def withinB (f : Fsy) (i : Int) (n : Nod) : Bool := n.kind == 2 && (i == n.ino || hasB (reachF f n.ino) i)
def overE (n m : Nod) : Int := firstE [whenE (((n.kind == 2) != (m.kind == 2)) && (n.kind == 2)) 8, whenE (((n.kind == 2) != (m.kind == 2)) && !(n.kind == 2)) 9, whenE (fullB m) 11]
set_option maxRecDepth 100000 in
set_option maxHeartbeats 4000000 in
theorem within_spec (f : Fsy) (i : Int) (n : Nod) (okf : OkF f) (hl : f.l.length ≤ 100000) (hr : RiseN f.l) : FSpec Tryz.prog 121 [.agg [.sl 5 false (f.l.map nodA), aI f.next], aI i, .agg [aI n.ino, aI n.kind, aI n.links, aS n.text, .sl 2 false (n.l.map entA)]] (aB (withinB f i n)) := by
  exact spec_vc (F := Tryz.f121) 400 (
 .new fun b1 => .new fun b2 => .r 1 <| .run 4 [b2 = b2] ⟨rfl, trivial⟩ <|
 .br 10 (n.kind == 2) (fun q1 => have p1 := beqT q1; .run 5 [b2 = b2] ⟨rfl, trivial⟩ <|
 .br 15 (i == n.ino) (fun q2 => have p2 := beqT q2; .r 8 <| .fin (x := aB true) (r := aB (withinB f i n)) [] trivial (by exact Sub.of_eq (congrArg aB (by unfold withinB; simp [*]))))
 <| fun q2 => have p2 := beqF q2; .run 4 [b1 = b1, b2 = b2] ⟨rfl, rfl, trivial⟩ <|
 .call (below_spec f i n.ino okf hl hr) <|
 .r 3 <| .fin (x := aB (hasB (reachF f n.ino) i)) (r := aB (withinB f i n)) [] trivial (by exact Sub.of_eq (congrArg aB (by unfold withinB; simp [*]))))
 <| fun q1 => have p1 := beqF q1; .r 13 <| .fin (x := aB false) (r := aB (withinB f i n)) [] trivial (by exact Sub.of_eq (congrArg aB (by unfold withinB; simp [*])))) Tryz.func121 rfl (by kernel_rfl) (by kernel_rfl)
set_option maxRecDepth 100000 in
set_option maxHeartbeats 4000000 in
theorem over_spec (n m : Nod) (hm : m.l.length ≤ 8796093022207) : FSpec Tryz.prog 122 [.agg [aI n.ino, aI n.kind, aI n.links, aS n.text, .sl 2 false (n.l.map entA)], .agg [aI m.ino, aI m.kind, aI m.links, aS m.text, .sl 2 false (m.l.map entA)]] (aI (overE n m)) := by
  exact spec_vc (F := Tryz.f122) 400 (
 .new fun b1 => .new fun b2 => .r 1 <| .ord [0, 1, 2, 3, 4, 5, 6, 7, 8, 9, 10, 11] <| .run 12 [b1 = b1, b1 = b1, b2 = b2] ⟨rfl, rfl, rfl, trivial⟩ <|
 .ord [0, 1, 2, 3, 5, 11, 4, 6, 7, 8, 9, 10, 12, 13, 14, 15, 16] <| .r 2 <| .br 18 (!((n.kind == 2) == (m.kind == 2))) (fun q1 => have q1 := notT q1; have p1 := beqF q1; .run 4 [b2 = b2] ⟨rfl, trivial⟩ <|
 .call (when_spec (n.kind == 2) 8) <|
 .r 1 <| .is 23 (show (!((n.kind == 2) == (m.kind == 2))) = true from by rw [q1]; rfl) <| .r 3 <| .call (when_spec (!(n.kind == 2)) 9) <|
 .call (full_spec m hm) <|
 .call (when_spec (fullB m) 11) <|
 .r 1 <| .callS (args0 := [.sl 1 true ([[aI (whenE (n.kind == 2) 8)], [aI (whenE (!(n.kind == 2)) 9)], [aI (whenE (fullB m) 11)]])]) (args := [.sl 1 false ([(whenE (n.kind == 2) 8), (whenE (!(n.kind == 2)) 9), (whenE (fullB m) 11)].map intA)]) ⟨first_lit (whenE (n.kind == 2) 8) (whenE (!(n.kind == 2)) 9) (whenE (fullB m) 11), trivial⟩ (first_spec [(whenE (n.kind == 2) 8), (whenE (!(n.kind == 2)) 9), (whenE (fullB m) 11)] (by simp)) <|
 .r 1 <| .fin (x := aI (firstE [(whenE (n.kind == 2) 8), (whenE (!(n.kind == 2)) 9), (whenE (fullB m) 11)])) (r := aI (overE n m)) [] trivial (by exact Sub.of_eq (congrArg aI (by unfold overE; simp only [bne, q1]; rfl))))
 <| fun q1 => have q1 := notF q1; have p1 := beqT q1; .run 4 [b2 = b2] ⟨rfl, trivial⟩ <|
 .call (when_spec false 8) <|
 .r 1 <| .is 23 (show (!((n.kind == 2) == (m.kind == 2))) = false from by rw [q1]; rfl) <| .r 3 <| .call (when_spec false 9) <|
 .call (full_spec m hm) <|
 .call (when_spec (fullB m) 11) <|
 .r 1 <| .callS (args0 := [.sl 1 true ([[aI (whenE false 8)], [aI (whenE false 9)], [aI (whenE (fullB m) 11)]])]) (args := [.sl 1 false ([(whenE false 8), (whenE false 9), (whenE (fullB m) 11)].map intA)]) ⟨first_lit (whenE false 8) (whenE false 9) (whenE (fullB m) 11), trivial⟩ (first_spec [(whenE false 8), (whenE false 9), (whenE (fullB m) 11)] (by simp)) <|
 .r 1 <| .fin (x := aI (firstE [(whenE false 8), (whenE false 9), (whenE (fullB m) 11)])) (r := aI (overE n m)) [] trivial (by exact Sub.of_eq (congrArg aI (by unfold overE; simp only [bne, q1]; rfl)))) Tryz.func122 rfl (by kernel_rfl) (by kernel_rfl)
end Go.Proofs.YtkhnialfkndiiaaGreat
