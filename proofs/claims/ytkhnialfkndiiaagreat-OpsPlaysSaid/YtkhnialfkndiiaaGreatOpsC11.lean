import Derived.Test.YtkhnialfkndiiaaGreatOpsB11
set_option maxRecDepth 100000
set_option maxHeartbeats 8000000
set_option linter.unusedVariables false
set_option linter.unusedSimpArgs false
namespace Go.Proofs.YtkhnialfkndiiaaGreat
open Go Go.RowKit Copyhold
theorem dadd_o (f : Fsy) (c : Cal) (okf : OkF f) (okc : OkCal c) (hp : rowsP f) (n : Nod) (okn : OkN n) (hx : f.next < 9223372036854775807) : FSpec Tryz.prog 76 [.agg (fsyA f), .agg (calA c), .agg (nodA n)] (.tup [.agg (fsyA (addO f c n).1), .agg (repA (addO f c n).2)]) := by
 have hl := hp.1
 have hr := rows_rise hp
 have hcn := okc.name
 have hcn2 := okc.name2
 have hct := okc.text
 exact spec_vc (F := Tryz.f76) 400 (
 .new fun b1 => .new fun b2 => .new fun b3 => .new fun b4 => .new fun b5 => .run 6 [b1 = b1, b2 = b2, b2 = b2, b3 = b3] rt4 <|
 .call (add_spec f c.ino c.name n okf hp hcn okn hx) <|
 .r 3 <| .new fun b6 => .run 2 [b6 = b6] rt1 <|
 let J1 : Jn (Unit) := ⟨fun j1 => ⟨[(6, .ptr 6 b4 0), (7, .ptr 7 b5 0)], [(6, .box b4 24 [.sl 5 false ((if addErr f c.ino c.name n = 0 then addF f c.ino c.name (addN f n) else f).l.map nodA), aI ((if addErr f c.ino c.name n = 0 then addF f c.ino c.name (addN f n) else f).next)]), (7, .box b5 30 [aI (addErr f c.ino c.name n), aI f.next, aI 0, aI 0, aS ([]), aN])]⟩, fun _ => True⟩
 .cut J1 (.pick [0, 1, 2] <| .run 3 [b6 = b6] rt1 <|
 .fork <| .alt (.run 1 [b1 = b1] rt1 <|
 .pick [4, 5, 6] <| .run 3 [b4 = b4, b5 = b5] rt2 <|
 .join J1 () trivial ⟨[(6, .ptr 6 b4 0), (7, .ptr 7 b5 0)], [(6, .box b4 24 [.sl 5 false ((if addErr f c.ino c.name n = 0 then addF f c.ino c.name (addN f n) else f).l.map nodA), aI ((if addErr f c.ino c.name n = 0 then addF f c.ino c.name (addN f n) else f).next)]), (7, .box b5 30 [aI (addErr f c.ino c.name n), aI f.next, aI 0, aI 0, aS ([]), aN])]⟩ sr2 ⟨⟨_, rfl, SubB.refl _⟩, ⟨_, rfl, SubB.refl _⟩, trivial⟩)
 <| .run 1 [b4 = b4] rt1 <|
 .pick [3, 4, 6] <| .run 3 [b1 = b1, b5 = b5] rt2 <|
 .join J1 () trivial ⟨[(6, .ptr 6 b4 0), (7, .ptr 7 b5 0)], [(6, .box b4 24 [.sl 5 false ((if addErr f c.ino c.name n = 0 then addF f c.ino c.name (addN f n) else f).l.map nodA), aI ((if addErr f c.ino c.name n = 0 then addF f c.ino c.name (addN f n) else f).next)]), (7, .box b5 30 [aI (addErr f c.ino c.name n), aI f.next, aI 0, aI 0, aS ([]), aN])]⟩ sr2 ⟨⟨_, rfl, SubB.refl _⟩, ⟨_, rfl, SubB.refl _⟩, trivial⟩)
 <| fun _ _ => .fin (x := .tup [.agg [.sl 5 false ((if addErr f c.ino c.name n = 0 then addF f c.ino c.name (addN f n) else f).l.map nodA), aI ((if addErr f c.ino c.name n = 0 then addF f c.ino c.name (addN f n) else f).next)], .agg [aI (addErr f c.ino c.name n), aI f.next, aI 0, aI 0, aS ([]), aN]]) (r := .tup [.agg (fsyA (addO f c n).1), .agg (repA (addO f c n).2)]) [b4 = b4, b5 = b5] rt2 (by exact Sub.tups ⟨sR, (rep_sub _ _ _ _ _), trivial⟩)) Tryz.func76 rfl (by kernel_rfl) (by kernel_rfl)
theorem kfile_ok : OkN ⟨0, 1, 0, [], []⟩ := ⟨⟨by decide, by decide⟩, ⟨by decide, by decide⟩, ⟨by decide, by decide⟩, by show (0 : Nat) ≤ _; omega, by show (0 : Nat) ≤ _; omega, fun e h => by cases h⟩
theorem kdir_ok : OkN ⟨0, 2, 0, [], []⟩ := ⟨⟨by decide, by decide⟩, ⟨by decide, by decide⟩, ⟨by decide, by decide⟩, by show (0 : Nat) ≤ _; omega, by show (0 : Nat) ≤ _; omega, fun e h => by cases h⟩
theorem klink_ok {t : Txt} (h : t.length ≤ 1000000) : OkN ⟨0, 3, 0, t, []⟩ := ⟨⟨by show (_ : Int) ≤ 0; omega, by show (0 : Int) ≤ _; omega⟩, ⟨by show (_ : Int) ≤ 3; omega, by show (3 : Int) ≤ _; omega⟩, ⟨by show (_ : Int) ≤ 0; omega, by show (0 : Int) ≤ _; omega⟩, by show t.length ≤ _; omega, by show (0 : Nat) ≤ _; omega, fun e h => by cases h⟩
theorem deed6_o (f : Fsy) (c : Cal) (okf : OkF f) (okc : OkCal c) (hp : rowsP f) (hx : f.next < 9223372036854775807) : FSpec Tryz.prog 75 [.agg (fsyA f), .agg (calA c)] (.tup [.agg (fsyA (addO f c ⟨0, 1, 0, [], []⟩).1), .agg (repA (addO f c ⟨0, 1, 0, [], []⟩).2)]) := by
 have hl := hp.1
 have hr := rows_rise hp
 have hcn := okc.name
 have hcn2 := okc.name2
 have hct := okc.text
 exact spec_vc (F := Tryz.f75) 400 (
 .new fun b1 => .new fun b2 => .new fun b3 => .new fun b4 => .run 3 [b1 = b1, b2 = b2] rt2 <|
 .callS (args0 := [.agg (fsyA f), .agg (calA c), .agg [aI 0, aI 1, aI 0, aS ([]), aN]]) (args := [.agg (fsyA f), .agg (calA c), .agg [aI 0, aI 1, aI 0, aS ([]), .sl 2 false (([] : List Ent).map entA)]]) ⟨sR, sR, Sub.aggs ⟨sR, sR, sR, sR, Sub.nil _ _, trivial⟩, trivial⟩ (dadd_o f c okf okc hp ⟨0, 1, 0, [], []⟩ kfile_ok hx) <|
 .run 4 [b3 = b3, b4 = b4] rt2 <|
 .fin (x := .tup [.agg [.sl 5 false ((addO f c ⟨0, 1, 0, [], []⟩).1.l.map nodA), aI ((addO f c ⟨0, 1, 0, [], []⟩).1.next)], .agg [aI ((addO f c ⟨0, 1, 0, [], []⟩).2.e), aI ((addO f c ⟨0, 1, 0, [], []⟩).2.a), aI ((addO f c ⟨0, 1, 0, [], []⟩).2.b), aI ((addO f c ⟨0, 1, 0, [], []⟩).2.n), aS ((addO f c ⟨0, 1, 0, [], []⟩).2.text), .sl 1 false ((addO f c ⟨0, 1, 0, [], []⟩).2.names.map txA)]]) (r := .tup [.agg (fsyA (addO f c ⟨0, 1, 0, [], []⟩).1), .agg (repA (addO f c ⟨0, 1, 0, [], []⟩).2)]) [b3 = b3, b4 = b4] rt2 (by exact sR)) Tryz.func75 rfl (by kernel_rfl) (by kernel_rfl)
theorem deed7_o (f : Fsy) (c : Cal) (okf : OkF f) (okc : OkCal c) (hp : rowsP f) (hx : f.next < 9223372036854775807) : FSpec Tryz.prog 77 [.agg (fsyA f), .agg (calA c)] (.tup [.agg (fsyA (addO f c ⟨0, 2, 0, [], []⟩).1), .agg (repA (addO f c ⟨0, 2, 0, [], []⟩).2)]) := by
 have hl := hp.1
 have hr := rows_rise hp
 have hcn := okc.name
 have hcn2 := okc.name2
 have hct := okc.text
 exact spec_vc (F := Tryz.f77) 400 (
 .new fun b1 => .new fun b2 => .new fun b3 => .new fun b4 => .run 3 [b1 = b1, b2 = b2] rt2 <|
 .callS (args0 := [.agg (fsyA f), .agg (calA c), .agg [aI 0, aI 2, aI 0, aS ([]), aN]]) (args := [.agg (fsyA f), .agg (calA c), .agg [aI 0, aI 2, aI 0, aS ([]), .sl 2 false (([] : List Ent).map entA)]]) ⟨sR, sR, Sub.aggs ⟨sR, sR, sR, sR, Sub.nil _ _, trivial⟩, trivial⟩ (dadd_o f c okf okc hp ⟨0, 2, 0, [], []⟩ kdir_ok hx) <|
 .run 4 [b3 = b3, b4 = b4] rt2 <|
 .fin (x := .tup [.agg [.sl 5 false ((addO f c ⟨0, 2, 0, [], []⟩).1.l.map nodA), aI ((addO f c ⟨0, 2, 0, [], []⟩).1.next)], .agg [aI ((addO f c ⟨0, 2, 0, [], []⟩).2.e), aI ((addO f c ⟨0, 2, 0, [], []⟩).2.a), aI ((addO f c ⟨0, 2, 0, [], []⟩).2.b), aI ((addO f c ⟨0, 2, 0, [], []⟩).2.n), aS ((addO f c ⟨0, 2, 0, [], []⟩).2.text), .sl 1 false ((addO f c ⟨0, 2, 0, [], []⟩).2.names.map txA)]]) (r := .tup [.agg (fsyA (addO f c ⟨0, 2, 0, [], []⟩).1), .agg (repA (addO f c ⟨0, 2, 0, [], []⟩).2)]) [b3 = b3, b4 = b4] rt2 (by exact sR)) Tryz.func77 rfl (by kernel_rfl) (by kernel_rfl)
theorem deed8_o (f : Fsy) (c : Cal) (okf : OkF f) (okc : OkCal c) (hp : rowsP f) (hx : f.next < 9223372036854775807) : FSpec Tryz.prog 78 [.agg (fsyA f), .agg (calA c)] (.tup [.agg (fsyA (symO f c).1), .agg (repA (symO f c).2)]) := by
 have hl := hp.1
 have hr := rows_rise hp
 have hcn := okc.name
 have hcn2 := okc.name2
 have hct := okc.text
 exact spec_vc (F := Tryz.f78) 400 (
 .new fun b1 => .new fun b2 => .new fun b3 => .new fun b4 => .run 4 [b2 = b2] rt1 <|
 .br 9 (decide (((c.text).length : Int) > 4096)) (fun q1 => have p1 := decT q1; .run 4 [b1 = b1, b3 = b3, b4 = b4] rt3 <|
 .fin (x := .tup [.agg (fsyA f), .agg [aI 5, aI 0, aI 0, aI 0, aS ([]), aN]]) (r := .tup [.agg (fsyA (symO f c).1), .agg (repA (symO f c).2)]) [b3 = b3, b4 = b4] rt2 (by
  have e : symO f c = _ := if_pos (by omega)
  rw [e]
  exact Sub.tups ⟨sR, (rep_sub _ _ _ _ _), trivial⟩))
 <| fun q1 => have p1 := decF q1; .run 5 [b1 = b1, b2 = b2, b2 = b2] rt3 <|
 .callS (args0 := [.agg (fsyA f), .agg (calA c), .agg [aI 0, aI 3, aI 0, aS c.text, aN]]) (args := [.agg (fsyA f), .agg (calA c), .agg [aI 0, aI 3, aI 0, aS c.text, .sl 2 false (([] : List Ent).map entA)]]) ⟨sR, sR, Sub.aggs ⟨sR, sR, sR, sR, Sub.nil _ _, trivial⟩, trivial⟩ (dadd_o f c okf okc hp ⟨0, 3, 0, c.text, []⟩ (klink_ok (by omega)) hx) <|
 .run 4 [b3 = b3, b4 = b4] rt2 <|
 .fin (x := .tup [.agg [.sl 5 false ((addO f c ⟨0, 3, 0, c.text, []⟩).1.l.map nodA), aI ((addO f c ⟨0, 3, 0, c.text, []⟩).1.next)], .agg [aI ((addO f c ⟨0, 3, 0, c.text, []⟩).2.e), aI ((addO f c ⟨0, 3, 0, c.text, []⟩).2.a), aI ((addO f c ⟨0, 3, 0, c.text, []⟩).2.b), aI ((addO f c ⟨0, 3, 0, c.text, []⟩).2.n), aS ((addO f c ⟨0, 3, 0, c.text, []⟩).2.text), .sl 1 false ((addO f c ⟨0, 3, 0, c.text, []⟩).2.names.map txA)]]) (r := .tup [.agg (fsyA (symO f c).1), .agg (repA (symO f c).2)]) [b3 = b3, b4 = b4] rt2 (by
  have e : symO f c = _ := if_neg (by omega)
  rw [e]
  exact sR)) Tryz.func78 rfl (by kernel_rfl) (by kernel_rfl)
theorem dtake_o (f : Fsy) (c : Cal) (okf : OkF f) (okc : OkCal c) (hp : rowsP f) (dir : Bool) (odd : Int) (ho : ¬ odd = 0) : FSpec Tryz.prog 80 [.agg (fsyA f), .agg (calA c), aB dir, aI odd] (.tup [.agg (fsyA (takeO f c dir odd).1), .agg (repA (takeO f c dir odd).2)]) := by
 have hl := hp.1
 have hr := rows_rise hp
 have hcn := okc.name
 have hcn2 := okc.name2
 have hct := okc.text
 exact spec_vc (F := Tryz.f80) 400 (
 .new fun b1 => .new fun b2 => .new fun b3 => .new fun b4 => .run 5 [b1 = b1, b2 = b2, b2 = b2] rt3 <|
 .call (look_spec f c.ino c.name hp hcn) <|
 .r 3 <| .new fun b5 => .run 2 [b5 = b5] rt1 <|
 .r 3 <| .br 24 ((lookE f c.ino c.name) == 0) (fun q1 => have p1 := beqT q1; .run 6 [b5 = b5] rt1 <|
 .br 30 (!((((lookN f c.ino c.name).kind) == 2) == dir)) (fun q2 => have q2 := notT q2; have p2 := beqF q2; .r 2 <| .r 2 <| .is 33 (show (odd != 0) = true from (by simpa using ho)) <| .run 5 [b1 = b1, b3 = b3, b4 = b4] rt3 <|
 .fin (x := .tup [.agg (fsyA f), .agg [aI odd, aI 0, aI 0, aI 0, aS ([]), aN]]) (r := .tup [.agg (fsyA (takeO f c dir odd).1), .agg (repA (takeO f c dir odd).2)]) [b3 = b3, b4 = b4] rt2 (by
  have e0 : lookE f c.ino c.name = 0 := beqT q1
  have e1 : (((lookN f c.ino c.name).kind == 2) != dir) = true := by simpa [bne] using q2
  have e : takeO f c dir odd = (f, errR odd) := by unfold takeO; rw [if_pos e0, if_pos e1]
  rw [e]
  exact Sub.tups ⟨sR, (rep_sub _ _ _ _ _), trivial⟩))
 <| fun q2 => have q2 := notF q2; have p2 := beqT q2; .r 2 <| .is 33 (show ((lookE f c.ino c.name) != 0) = false from (by simpa [bne] using q1)) <| .run 5 [b1 = b1, b2 = b2, b2 = b2] rt3 <|
 .call (take_spec f c.ino c.name okf hp hcn) <|
 .r 3 <| .new fun b6 => .run 2 [b6 = b6] rt1 <|
 .run 5 [b6 = b6, b3 = b3, b4 = b4] rt3 <|
 .fin (x := .tup [.agg [.sl 5 false ((takeF f c.ino c.name).l.map nodA), aI ((takeF f c.ino c.name).next)], .agg [aI (takeErr f c.ino c.name), aI 0, aI 0, aI 0, aS ([]), aN]]) (r := .tup [.agg (fsyA (takeO f c dir odd).1), .agg (repA (takeO f c dir odd).2)]) [b3 = b3, b4 = b4] rt2 (by
  have e0 : lookE f c.ino c.name = 0 := beqT q1
  have e1 : ¬ (((lookN f c.ino c.name).kind == 2) != dir) = true := by simpa [bne] using q2
  have e : takeO f c dir odd = (takeF f c.ino c.name, errR (takeErr f c.ino c.name)) := by unfold takeO; rw [if_pos e0, if_neg e1]
  rw [e]
  exact Sub.tups ⟨sR, (rep_sub _ _ _ _ _), trivial⟩))
 <| fun q1 => have p1 := beqF q1; .r 6 <| .r 2 <| .is 33 (show ((lookE f c.ino c.name) != 0) = true from (by simpa [bne] using q1)) <| .run 5 [b1 = b1, b3 = b3, b4 = b4] rt3 <|
 .fin (x := .tup [.agg (fsyA f), .agg [aI (lookE f c.ino c.name), aI 0, aI 0, aI 0, aS ([]), aN]]) (r := .tup [.agg (fsyA (takeO f c dir odd).1), .agg (repA (takeO f c dir odd).2)]) [b3 = b3, b4 = b4] rt2 (by
  have e : takeO f c dir odd = (f, errR (lookE f c.ino c.name)) := if_neg (beqF q1)
  rw [e]
  exact Sub.tups ⟨sR, (rep_sub _ _ _ _ _), trivial⟩)) Tryz.func80 rfl (by kernel_rfl) (by kernel_rfl)
theorem deed9_o (f : Fsy) (c : Cal) (okf : OkF f) (okc : OkCal c) (hp : rowsP f) : FSpec Tryz.prog 79 [.agg (fsyA f), .agg (calA c)] (.tup [.agg (fsyA (takeO f c false 9).1), .agg (repA (takeO f c false 9).2)]) := by
 have hl := hp.1
 have hr := rows_rise hp
 have hcn := okc.name
 have hcn2 := okc.name2
 have hct := okc.text
 exact spec_vc (F := Tryz.f79) 400 (
 .new fun b1 => .new fun b2 => .new fun b3 => .new fun b4 => .run 2 [b1 = b1, b2 = b2] rt2 <|
 .call (dtake_o f c okf okc hp false 9 (by decide)) <|
 .run 4 [b3 = b3, b4 = b4] rt2 <|
 .fin (x := .tup [.agg [.sl 5 false ((takeO f c false 9).1.l.map nodA), aI ((takeO f c false 9).1.next)], .agg [aI ((takeO f c false 9).2.e), aI ((takeO f c false 9).2.a), aI ((takeO f c false 9).2.b), aI ((takeO f c false 9).2.n), aS ((takeO f c false 9).2.text), .sl 1 false ((takeO f c false 9).2.names.map txA)]]) (r := .tup [.agg (fsyA (takeO f c false 9).1), .agg (repA (takeO f c false 9).2)]) [b3 = b3, b4 = b4] rt2 (by exact sR)) Tryz.func79 rfl (by kernel_rfl) (by kernel_rfl)
theorem deed10_o (f : Fsy) (c : Cal) (okf : OkF f) (okc : OkCal c) (hp : rowsP f) : FSpec Tryz.prog 81 [.agg (fsyA f), .agg (calA c)] (.tup [.agg (fsyA (takeO f c true 8).1), .agg (repA (takeO f c true 8).2)]) := by
 have hl := hp.1
 have hr := rows_rise hp
 have hcn := okc.name
 have hcn2 := okc.name2
 have hct := okc.text
 exact spec_vc (F := Tryz.f81) 400 (
 .new fun b1 => .new fun b2 => .new fun b3 => .new fun b4 => .run 2 [b1 = b1, b2 = b2] rt2 <|
 .call (dtake_o f c okf okc hp true 8 (by decide)) <|
 .run 4 [b3 = b3, b4 = b4] rt2 <|
 .fin (x := .tup [.agg [.sl 5 false ((takeO f c true 8).1.l.map nodA), aI ((takeO f c true 8).1.next)], .agg [aI ((takeO f c true 8).2.e), aI ((takeO f c true 8).2.a), aI ((takeO f c true 8).2.b), aI ((takeO f c true 8).2.n), aS ((takeO f c true 8).2.text), .sl 1 false ((takeO f c true 8).2.names.map txA)]]) (r := .tup [.agg (fsyA (takeO f c true 8).1), .agg (repA (takeO f c true 8).2)]) [b3 = b3, b4 = b4] rt2 (by exact sR)) Tryz.func81 rfl (by kernel_rfl) (by kernel_rfl)
theorem deed11_o (f : Fsy) (c : Cal) (okf : OkF f) (okc : OkCal c) (hp : rowsP f) : FSpec Tryz.prog 82 [.agg (fsyA f), .agg (calA c)] (.tup [.agg (fsyA (linkO f c).1), .agg (repA (linkO f c).2)]) := by
 have hl := hp.1
 have hr := rows_rise hp
 have hcn := okc.name
 have hcn2 := okc.name2
 have hct := okc.text
 exact spec_vc (F := Tryz.f82) 400 (
 .new fun b1 => .new fun b2 => .new fun b3 => .new fun b4 => .run 7 [b1 = b1, b2 = b2, b2 = b2, b2 = b2] rt4 <|
 .call (give_spec f c.ino c.name c.to okf hp hcn okc.to) <|
 .r 3 <| .new fun b5 => .run 2 [b5 = b5] rt1 <|
 .run 5 [b5 = b5, b3 = b3, b4 = b4] rt3 <|
 .fin (x := .tup [.agg [.sl 5 false ((giveF f c.ino c.name c.to).l.map nodA), aI ((giveF f c.ino c.name c.to).next)], .agg [aI (giveErr f c.ino c.name c.to), aI 0, aI 0, aI 0, aS ([]), aN]]) (r := .tup [.agg (fsyA (linkO f c).1), .agg (repA (linkO f c).2)]) [b3 = b3, b4 = b4] rt2 (by exact Sub.tups ⟨sR, (rep_sub _ _ _ _ _), trivial⟩)) Tryz.func82 rfl (by kernel_rfl) (by kernel_rfl)
theorem deed12_o (f : Fsy) (c : Cal) (okf : OkF f) (okc : OkCal c) (hp : rowsP f) : FSpec Tryz.prog 84 [.agg (fsyA f), .agg (calA c)] (.tup [.agg (fsyA (renO f c).1), .agg (repA (renO f c).2)]) := by
 have hl := hp.1
 have hr := rows_rise hp
 have hcn := okc.name
 have hcn2 := okc.name2
 have hct := okc.text
 exact spec_vc (F := Tryz.f84) 400 (
 .new fun b1 => .new fun b2 => .new fun b3 => .new fun b4 => .run 9 [b1 = b1, b2 = b2, b2 = b2, b2 = b2, b2 = b2] rt5 <|
 .call (move_spec f c.ino c.name c.to c.name2 okf hp hcn hcn2) <|
 .r 3 <| .new fun b5 => .run 2 [b5 = b5] rt1 <|
 .run 5 [b5 = b5, b3 = b3, b4 = b4] rt3 <|
 .fin (x := .tup [.agg [.sl 5 false ((movF f c.ino c.name c.to c.name2).l.map nodA), aI ((movF f c.ino c.name c.to c.name2).next)], .agg [aI (movErr f c.ino c.name c.to c.name2), aI 0, aI 0, aI 0, aS ([]), aN]]) (r := .tup [.agg (fsyA (renO f c).1), .agg (repA (renO f c).2)]) [b3 = b3, b4 = b4] rt2 (by exact Sub.tups ⟨sR, (rep_sub _ _ _ _ _), trivial⟩)) Tryz.func84 rfl (by kernel_rfl) (by kernel_rfl)
theorem deed13_o (f : Fsy) (c : Cal) (okf : OkF f) (okc : OkCal c) (hp : rowsP f) : FSpec Tryz.prog 86 [.agg (fsyA f), .agg (calA c)] (.tup [.agg (fsyA (rlnkO f c).1), .agg (repA (rlnkO f c).2)]) := by
 have hl := hp.1
 have hr := rows_rise hp
 have hcn := okc.name
 have hcn2 := okc.name2
 have hct := okc.text
 exact spec_vc (F := Tryz.f86) 400 (
 .new fun b1 => .new fun b2 => .new fun b3 => .new fun b4 => .run 3 [b1 = b1, b2 = b2] rt2 <|
 .call (of_spec f c.ino 3 hp) <|
 .r 3 <| .new fun b5 => .run 2 [b5 = b5] rt1 <|
 let J1 : Jn (Unit) := ⟨fun j1 => ⟨[(4, .ptr 4 b3 0), (5, .ptr 5 b4 0)], [(4, .box b3 24 (fsyA f)), (5, .box b4 30 [aI (ofE f c.ino 3), aI 0, aI 0, aI 0, aS ((ofN f c.ino 3).text), aN])]⟩, fun _ => True⟩
 .cut J1 (.pick [0, 1, 2] <| .run 3 [b1 = b1] rt1 <|
 .fork <| .alt (.run 1 [b5 = b5] rt1 <|
 .pick [4, 5, 6] <| .run 3 [b3 = b3, b4 = b4] rt2 <|
 .join J1 () trivial ⟨[(4, .ptr 4 b3 0), (5, .ptr 5 b4 0)], [(4, .box b3 24 (fsyA f)), (5, .box b4 30 [aI (ofE f c.ino 3), aI 0, aI 0, aI 0, aS ((ofN f c.ino 3).text), aN])]⟩ sr2 ⟨⟨_, rfl, SubB.refl _⟩, ⟨_, rfl, SubB.refl _⟩, trivial⟩)
 <| .run 1 [b3 = b3] rt1 <|
 .pick [3, 4, 6] <| .run 3 [b5 = b5, b4 = b4] rt2 <|
 .join J1 () trivial ⟨[(4, .ptr 4 b3 0), (5, .ptr 5 b4 0)], [(4, .box b3 24 (fsyA f)), (5, .box b4 30 [aI (ofE f c.ino 3), aI 0, aI 0, aI 0, aS ((ofN f c.ino 3).text), aN])]⟩ sr2 ⟨⟨_, rfl, SubB.refl _⟩, ⟨_, rfl, SubB.refl _⟩, trivial⟩)
 <| fun _ _ => .fin (x := .tup [.agg (fsyA f), .agg [aI (ofE f c.ino 3), aI 0, aI 0, aI 0, aS ((ofN f c.ino 3).text), aN]]) (r := .tup [.agg (fsyA (rlnkO f c).1), .agg (repA (rlnkO f c).2)]) [b3 = b3, b4 = b4] rt2 (by exact Sub.tups ⟨sR, (rep_sub _ _ _ _ _), trivial⟩)) Tryz.func86 rfl (by kernel_rfl) (by kernel_rfl)
theorem deed14_o (f : Fsy) (c : Cal) (okf : OkF f) (okc : OkCal c) (hp : rowsP f) : FSpec Tryz.prog 88 [.agg (fsyA f), .agg (calA c)] (.tup [.agg (fsyA (rdirO f c).1), .agg (repA (rdirO f c).2)]) := by
 have hl := hp.1
 have hr := rows_rise hp
 have hcn := okc.name
 have hcn2 := okc.name2
 have hct := okc.text
 exact spec_vc (F := Tryz.f88) 400 (
 .new fun b1 => .new fun b2 => .new fun b3 => .new fun b4 => .run 3 [b1 = b1, b2 = b2] rt2 <|
 .call (dir_spec f c.ino hp) <|
 .r 3 <| .new fun b5 => .run 2 [b5 = b5] rt1 <|
 .ord [0, 1, 2, 3, 4, 5, 6, 7] <| .run 4 [b1 = b1, b5 = b5] rt2 <|
 .call (dnames_spec (dirN f c.ino).l (by have := (dir_srt hp c.ino).2; omega)) <|
 .run 3 [b3 = b3, b4 = b4] rt2 <|
 .fin (x := .tup [.agg (fsyA f), .agg [aI (dirE f c.ino), aI 0, aI 0, aI 0, aS ([]), .sl 1 false (((dirN f c.ino).l.map Ent.name).map txA)]]) (r := .tup [.agg (fsyA (rdirO f c).1), .agg (repA (rdirO f c).2)]) [b3 = b3, b4 = b4] rt2 (by exact sR)) Tryz.func88 rfl (by kernel_rfl) (by kernel_rfl)
theorem deed15_o (f : Fsy) (c : Cal) (okf : OkF f) (okc : OkCal c) (hp : rowsP f) : FSpec Tryz.prog 90 [.agg (fsyA f), .agg (calA c)] (.tup [.agg (fsyA (sfsO f).1), .agg (repA (sfsO f).2)]) := by
 have hl := hp.1
 have hr := rows_rise hp
 have hcn := okc.name
 have hcn2 := okc.name2
 have hct := okc.text
 exact spec_vc (F := Tryz.f90) 400 (
 .new fun b1 => .new fun b2 => .new fun b3 => .new fun b4 => .run 3 [b1 = b1] rt1 <|
 .val 11 (show (aI ((f.l.map nodA).length : Int) : AV) = aI (f.l.length : Int) from by rw [List.length_map]) <| .r 1 <| .new fun b5 => .run 1 [b5 = b5] rt1 <|
 .run 3 [b1 = b1] rt1 <|
 .val 15 (show (aI ((f.l.map nodA).length : Int) : AV) = aI (f.l.length : Int) from by rw [List.length_map]) <| .r 1 <| let L1 : Lp (Nat) := ⟨fun a1 => ⟨[(2, .ptr 2 b1 0), (4, .ptr 4 b3 0), (5, .ptr 5 b4 0), (6, .ptr 6 b5 0), (14, .sl 5 false (f.l.map nodA)), (15, aI (f.l.length : Int)), (16, aI (a1 : Int))], [(2, .box b1 24 (fsyA f)), (4, .box b3 24 [aN, aI 0]), (5, .box b4 30 [aI 0, aI 0, aI 0, aI 0, aS ([]), aN]), (6, .box b5 30 [aI 0, aI (f.l.length : Int), aI (txtS (f.l.take a1) : Int), aI 0, aS ([]), aN])]⟩, fun a1 => f.l.length - a1, fun a1 => a1 ≤ f.l.length ∧ txtS (f.l.take a1) ≤ 4096 * a1⟩
 .loop L1 0 (show 0 ≤ f.l.length ∧ txtS (f.l.take 0) ≤ 4096 * 0 from ⟨Nat.zero_le _, Nat.le_refl _⟩) ⟨[(2, .ptr 2 b1 0), (4, .ptr 4 b3 0), (5, .ptr 5 b4 0), (6, .ptr 6 b5 0), (14, .sl 5 false (f.l.map nodA)), (15, aI (f.l.length : Int)), (16, aI 0)], [(2, .box b1 24 (fsyA f)), (4, .box b3 24 [aN, aI 0]), (5, .box b4 30 [aI 0, aI 0, aI 0, aI 0, aS ([]), aN]), (6, .box b5 30 [aI 0, aI (f.l.length : Int), aI 0, aI 0, aS ([]), aN])]⟩ ⟨sR, sR, sR, sR, sR, sR, Sub.of_eq (congrArg aI (by first | omega | rfl)), trivial⟩ ⟨⟨_, rfl, SubB.refl _⟩, ⟨_, rfl, SubB.refl _⟩, ⟨_, rfl, SubB.refl _⟩, ⟨_, rfl, SubB.of_eq rfl⟩, trivial⟩ fun a1 ha1 =>
 (fun (k : Nat) (hH1 : k ≤ f.l.length ∧ txtS (f.l.take k) ≤ 4096 * k) => .r 1 <| .br 17 (decide ((k : Int) < (f.l.length : Int))) (fun q1 => have p1 := decT q1; .idxM f.l nodA k (m := (k : Int)) rfl (by omega) fun x1 hx1 =>
 have tlx1 := txt_lenN hp (List.mem_of_getElem? hx1); .r 1 <| .new fun b6 => .run 1 [b6 = b6] rt1 <|
 .run 8 [b5 = b5, b6 = b6, rng .i64 ((txtS (f.l.take k) : Int) + ((x1.text).length : Int)), b5 = b5] ⟨rfl, rfl, rng64 (by omega) (by omega), rfl, trivial⟩ <|
 .run 2 [rng .i64 ((k : Int) + 1)] ⟨rng64 (by omega) (by omega), trivial⟩ <|
 .back L1 k (k + 1) (show (k + 1) ≤ f.l.length ∧ txtS (f.l.take (k + 1)) ≤ 4096 * (k + 1) from ⟨by omega, by rw [show txtS (f.l.take (k + 1)) = txtS (f.l.take k) + x1.text.length from by unfold txtS; rw [take_step hx1]; simp]; have := txt_lenN hp (List.mem_of_getElem? hx1); omega⟩) (show f.l.length - (k + 1) < f.l.length - k from (by omega)) ⟨[(2, .ptr 2 b1 0), (4, .ptr 4 b3 0), (5, .ptr 5 b4 0), (6, .ptr 6 b5 0), (14, .sl 5 false (f.l.map nodA)), (15, aI (f.l.length : Int)), (16, aI ((k : Int) + 1))], [(2, .box b1 24 (fsyA f)), (4, .box b3 24 [aN, aI 0]), (5, .box b4 30 [aI 0, aI 0, aI 0, aI 0, aS ([]), aN]), (6, .box b5 30 [aI 0, aI (f.l.length : Int), aI ((txtS (f.l.take k) : Int) + ((x1.text).length : Int)), aI 0, aS ([]), aN])]⟩ ⟨sR, sR, sR, sR, sR, sR, Sub.of_eq (congrArg aI (by first | omega | rfl)), trivial⟩ ⟨⟨_, rfl, SubB.refl _⟩, ⟨_, rfl, SubB.refl _⟩, ⟨_, rfl, SubB.refl _⟩, ⟨_, rfl, SubB.of_eq (by rw [show txtS (f.l.take (k + 1)) = txtS (f.l.take k) + x1.text.length from by unfold txtS; rw [take_step hx1]; simp]; simp)⟩, trivial⟩)
 <| fun q1 => have p1 := decF q1; .pick [0] <| .run 1 [b1 = b1] rt1 <|
 .fork <| .alt (.run 1 [b5 = b5] rt1 <|
 .pick [2, 3] <| .run 2 [b3 = b3, b4 = b4] rt2 <|
 .fin (x := .tup [.agg (fsyA f), .agg [aI 0, aI (f.l.length : Int), aI (txtS (f.l.take k) : Int), aI 0, aS ([]), aN]]) (r := .tup [.agg (fsyA (sfsO f).1), .agg (repA (sfsO f).2)]) [b3 = b3, b4 = b4] rt2 (by
  rw [show k = f.l.length from by omega, take_all (Nat.le_refl _)]
  exact Sub.tups ⟨sR, (rep_sub _ _ _ _ _), trivial⟩))
 <| .run 1 [b3 = b3] rt1 <|
 .pick [1, 3] <| .run 2 [b5 = b5, b4 = b4] rt2 <|
 .fin (x := .tup [.agg (fsyA f), .agg [aI 0, aI (f.l.length : Int), aI (txtS (f.l.take k) : Int), aI 0, aS ([]), aN]]) (r := .tup [.agg (fsyA (sfsO f).1), .agg (repA (sfsO f).2)]) [b3 = b3, b4 = b4] rt2 (by
  rw [show k = f.l.length from by omega, take_all (Nat.le_refl _)]
  exact Sub.tups ⟨sR, (rep_sub _ _ _ _ _), trivial⟩)) a1 ha1) Tryz.func90 rfl (by kernel_rfl) (by kernel_rfl)
end Go.Proofs.YtkhnialfkndiiaaGreat
