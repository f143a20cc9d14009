import Derived.Test.YtkhnialfkndiiaaGreatMrgO
import Derived.Test.YtkhnialfkndiiaaGreatMrgM
set_option maxRecDepth 100000
set_option maxHeartbeats 8000000
set_option linter.unusedVariables false
set_option linter.unusedSimpArgs false
namespace Go.Proofs.YtkhnialfkndiiaaGreat
open Go Go.RowKit Copyhold
def withL (n : Nod) (l : List Ent) : Nod := ⟨n.ino, n.kind, n.links, n.text, l⟩
noncomputable def enterF (f : Fsy) (d : Int) (s : Txt) (i : Int) : Fsy := putF f (withL (findN f d) (entL (findN f d).l s i))
theorem find_I64 {f : Fsy} (okf : OkF f) (hp : rowsP f) (i : Int) : I64 (findN f i).ino ∧ (findN f i).ino < 9223372036854775807 := by
 refine ⟨(findN_ok okf i).1, ?_⟩
 by_cases h : findB f i = true
 ·have := ((rowsP_iff.1 hp).2.2.1 _ (find_mem h)).2
  have := okf.1.2
  omega
 ·have h' : findB f i = false := by simpa using h
  unfold findN findB at *
  rw [List.find?_eq_none.2 fun x hx => by simpa using List.any_eq_false.1 h' x hx]
  decide
theorem find_srt {f : Fsy} (h : rowsP f) (i : Int) : Name.Srt (lI (findN f i).l) ∧ (findN f i).l.length ≤ 256 := by
 by_cases hb : findB f i = true
 ·exact node_srt ((rowsP_iff.1 h).2.2.1 _ (find_mem hb)).1
 ·have h' : findB f i = false := by simpa using hb
  unfold findN findB at *
  rw [List.find?_eq_none.2 fun x hx => by simpa using List.any_eq_false.1 h' x hx]
  exact ⟨List.Pairwise.nil, by decide⟩
theorem denter_spec (f : Fsy) (dir : Int) (s : Txt) (ino : Int) (okf : OkF f) (hp : rowsP f) (hs : s.length ≤ 1000000) (hi : I64 ino) : FSpec Tryz.prog 120 [.agg (fsyA f), aI dir, aS s, aI ino] (.agg (fsyA (enterF f dir s ino))) := by
 have hl := hp.1
 have hr := rows_rise hp
 exact spec_vc (F := Tryz.f120) 400 (
 .new fun b1 => .new fun b2 => .run 2 [b1 = b1] rt1 <|
 .call (tfind_spec f dir (by omega) hr) <|
 .r 3 <| .new fun b3 => .run 2 [b3 = b3] rt1 <|
 .run 4 [b3 = b3] rt1 <|
 .call (enter_spec ((findN f dir).l) s ino (find_srt hp dir).2 (find_srt hp dir).1 (by omega) hi) <|
 .run 5 [b3 = b3] rt1 <|
 .run 2 [b1 = b1, b3 = b3] rt2 <|
 .callS (args0 := [.agg (fsyA f), .agg [aI ((findN f dir).ino), aI ((findN f dir).kind), aI ((findN f dir).links), aS ((findN f dir).text), .sl 2 false ((entL ((findN f dir).l) s ino).map entA)]]) (args := [.agg (fsyA f), .agg [aI ((withL (findN f dir) (entL (findN f dir).l s ino)).ino), aI ((withL (findN f dir) (entL (findN f dir).l s ino)).kind), aI ((withL (findN f dir) (entL (findN f dir).l s ino)).links), aS ((withL (findN f dir) (entL (findN f dir).l s ino)).text), .sl 2 false ((withL (findN f dir) (entL (findN f dir).l s ino)).l.map entA)]]) sr2 (put_spec f (withL (findN f dir) (entL (findN f dir).l s ino)) (find_I64 okf hp dir) (by omega) hr) <|
 .run 1 [b2 = b2] rt1 <|
 .fin (x := .agg [.sl 5 false ((putF f (withL (findN f dir) (entL (findN f dir).l s ino))).l.map nodA), aI ((putF f (withL (findN f dir) (entL (findN f dir).l s ino))).next)]) (r := .agg (fsyA (enterF f dir s ino))) [b2 = b2] rt1 (by exact sR)) Tryz.func120 rfl (by kernel_rfl) (by kernel_rfl)
theorem enter_le (f : Fsy) (d : Int) (s : Txt) (i : Int) : (enterF f d s i).l.length ≤ f.l.length + 1 := putN_le _ _
theorem enter_rise {f : Fsy} (h : rowsP f) (d : Int) (s : Txt) (i : Int) : RiseN (enterF f d s i).l := put_rise (rows_rise h)
noncomputable def addF (f : Fsy) (d : Int) (s : Txt) (n : Nod) : Fsy := putF (enterF f d s n.ino) (withL n [])
theorem add1_spec (f : Fsy) (dir : Int) (s : Txt) (n : Nod) (b : Nat) (okf : OkF f) (hp : rowsP f) (hs : s.length ≤ 1000000) (hn : I64 n.ino ∧ n.ino < 9223372036854775807) : LSpec Tryz.prog 138 [.ptr 7 b 0, .dptr (fsyA f), .dptr [aI dir], .dptr [aS s]] (.box b 59 (nodA n)) (.agg (fsyA (addF f dir s n))) := by
 have hl := hp.1
 have hr := rows_rise hp
 exact lspec_vc (q := 7) (F := Tryz.f138) 400 (
 .new fun b1 => .run 2 [b = b] rt1 <|
 .ord [0, 1, 2, 3, 4, 6, 5, 7, 8] <| .run 6 [b = b, b = b] rt2 <|
 .call (denter_spec f dir s n.ino okf hp (by omega) hn.1) <|
 .callS (args0 := [.agg [.sl 5 false ((enterF f dir s n.ino).l.map nodA), aI ((enterF f dir s n.ino).next)], .agg [aI n.ino, aI n.kind, aI n.links, aS n.text, aN]]) (args := [.agg [.sl 5 false ((enterF f dir s n.ino).l.map nodA), aI ((enterF f dir s n.ino).next)], .agg [aI ((withL n []).ino), aI ((withL n []).kind), aI ((withL n []).links), aS ((withL n []).text), .sl 2 false ((withL n []).l.map entA)]]) ⟨sR, Sub.aggs ⟨sR, sR, sR, sR, Sub.nil _ _, trivial⟩, trivial⟩ (put_spec (enterF f dir s n.ino) (withL n []) hn (by have := enter_le f dir s n.ino; omega) (enter_rise hp dir s n.ino)) <|
 .run 1 [b1 = b1] rt1 <|
 .fin (x := .agg [.sl 5 false ((putF (enterF f dir s n.ino) (withL n [])).l.map nodA), aI ((putF (enterF f dir s n.ino) (withL n [])).next)]) (r := .agg (fsyA (addF f dir s n))) [b1 = b1] rt1 (by exact sR)) Tryz.func138 rfl (by kernel_rfl) (by kernel_rfl)
theorem unless1_spec (e : Int) (f : Fsy) (dir : Int) (s : Txt) (n : Nod) (b : Nat) (okf : OkF f) (hp : rowsP f) (hs : s.length ≤ 1000000) (hn : I64 n.ino ∧ n.ino < 9223372036854775807) : LSpec Tryz.prog 118 [.agg (fsyA f), aI e, .clo 138 [.ptr 7 b 0, .dptr (fsyA f), .dptr [aI dir], .dptr [aS s]]] (.box b 59 (nodA n)) (.tup [.agg (fsyA (if e = 0 then addF f dir s n else f)), aI e]) := by
 exact lspec_vc (q := 7) (F := Tryz.f118) 400 (
 .new fun b1 => .new fun b2 => .r 1 <| .r 2 <| .br 9 (e != 0) (fun q1 => have p1 := bneT q1; .run 4 [b1 = b1, b2 = b2] rt2 <|
 .fin (x := .tup [.agg (fsyA f), aI e]) (r := .tup [.agg (fsyA (if e = 0 then addF f dir s n else f)), aI e]) [b2 = b2] rt1 (by
  rw [if_neg (show ¬ e = 0 from by omega)]
  exact sR))
 <| fun q1 => have p1 := bneF q1; .lent 1 <| .r 1 <| .lop (lcR Tryz.prog 7) ((138, [.ptr 7 b 0, .dptr (fsyA f), .dptr [aI dir], .dptr [aS s]], some 13), .box b 59 (nodA n)) (fun (_ : Unit) σ => (σ.put (some 13) (.agg [.sl 5 false ((addF f dir s n).l.map nodA), aI ((addF f dir s n).next)])).setB 7 gone) (rule_lent (args' := [.ptr 7 b 0, .dptr (fsyA f), .dptr [aI dir], .dptr [aS s]]) sr4 (add1_spec f dir s n b okf hp hs hn)) fun _ =>
 .run 2 [b2 = b2] rt1 <|
 .fin (x := .tup [.agg [.sl 5 false ((addF f dir s n).l.map nodA), aI ((addF f dir s n).next)], aI 0]) (r := .tup [.agg (fsyA (if e = 0 then addF f dir s n else f)), aI e]) [b2 = b2] rt1 (by
  rw [if_pos (show e = 0 from by omega), show e = 0 from by omega]
  exact sR)) Tryz.func118 rfl (by kernel_rfl) (by kernel_rfl)
theorem first_lit5 {t : Bool} (a b c d e : Int) : Sub (.sl 1 t [[aI a], [aI b], [aI c], [aI d], [aI e]]) (.sl 1 false ([a, b, c, d, e].map intA)) := Sub.loose _ _ _
def addN (f : Fsy) (n : Nod) : Nod := ⟨f.next, n.kind, 1, n.text, n.l⟩
noncomputable def addErr (f : Fsy) (d : Int) (s : Txt) (n : Nod) : Int := firstE [dirE f d, checkE s, whenE (isB (dirN f d).l s) 7, whenE (decide ((f.l.length : Int) ≥ 256) || decide (((dirN f d).l.length : Int) ≥ 256)) 12, whenE ((!(dP (nodP (addN f n)))) || decide ((n.l.length : Int) > 0)) 1]
theorem addN_ok {f : Fsy} {n : Nod} (okf : OkF f) (okn : OkN n) : OkN (addN f n) := ⟨okf.1, okn.2.1, ⟨by show (_ : Int) ≤ 1; omega, by show (1 : Int) ≤ _; omega⟩, okn.2.2.2.1, okn.2.2.2.2.1, okn.2.2.2.2.2⟩
theorem add_spec (f : Fsy) (dir : Int) (s : Txt) (n : Nod) (okf : OkF f) (hp : rowsP f) (hs : s.length ≤ 1000000) (okn : OkN n) (hx : f.next < 9223372036854775807) : FSpec Tryz.prog 113 [.agg (fsyA f), aI dir, aS s, .agg (nodA n)] (.tup [.agg (fsyA (if addErr f dir s n = 0 then addF f dir s (addN f n) else f)), aI (addErr f dir s n)]) := by
 have hl := hp.1
 have hr := rows_rise hp
 exact spec_vc (F := Tryz.f113) 400 (
 .new fun b1 => .new fun b2 => .new fun b3 => .new fun b4 => .new fun b5 => .r 1 <| .run 2 [b1 = b1, b2 = b2] rt2 <|
 .call (dir_spec f dir hp) <|
 .r 3 <| .new fun b6 => .run 2 [b6 = b6] rt1 <|
 .run 3 [b6 = b6, b3 = b3] rt2 <|
 .call (nfind_spec ((dirN f dir).l) s (by have := (dir_srt hp dir).2; omega) (dir_srt hp dir).1) <|
 .r 5 <| .run 6 [b1 = b1, b4 = b4, b4 = b4] rt3 <|
 .ord [0, 1, 3, 5, 6, 7, 8, 16, 2, 4, 9, 10, 11, 12, 13, 14, 15, 17, 18, 19, 20, 21, 22, 23, 24, 25, 26, 27, 28] <| .run 6 [b3 = b3, b1 = b1] rt2 <|
 .val 38 (show (aI ((f.l.map nodA).length : Int) : AV) = aI (f.l.length : Int) from by rw [List.length_map]) <| .run 2 [b4 = b4] rt1 <|
 .call (check_spec s (by omega)) <|
 .call (when_spec (isB ((dirN f dir).l) s) 7) <|
 .r 1 <| .br 40 (decide ((f.l.length : Int) ≥ 256)) (fun q1 => have p1 := decT q1; .r 5 <| .call (when_spec true 12) <|
 .callS (args0 := [.agg [aI f.next, aI n.kind, aI 1, aS n.text, .sl 2 false (n.l.map entA)]]) (args := [.agg [aI ((addN f n).ino), aI ((addN f n).kind), aI ((addN f n).links), aS ((addN f n).text), .sl 2 false ((addN f n).l.map entA)]]) sr1 (nright_spec (addN f n) (addN_ok okf okn)) <|
 .r 2 <| .br 50 (!(dP (nodP (addN f n)))) (fun q2 => have q2 := notT q2; have p2 := booF q2; .r 5 <| .call (when_spec true 1) <|
 .r 1 <| .callS (args0 := [.sl 1 true ([[aI (dirE f dir)], [aI (checkE s)], [aI (whenE (isB ((dirN f dir).l) s) 7)], [aI (whenE true 12)], [aI (whenE true 1)]])]) (args := [.sl 1 false ([(dirE f dir), (checkE s), (whenE (isB ((dirN f dir).l) s) 7), (whenE true 12), (whenE true 1)].map intA)]) ⟨first_lit5 (dirE f dir) (checkE s) (whenE (isB ((dirN f dir).l) s) 7) (whenE true 12) (whenE true 1), trivial⟩ (first_spec [(dirE f dir), (checkE s), (whenE (isB ((dirN f dir).l) s) 7), (whenE true 12), (whenE true 1)] (by simp)) <|
 .r 1 <| .frz 4 [4, 5, 6, 7, 8, 9, 11, 40, 45, 50, 55] [5, 6, 7, 8] [b1 = b1] rt1 <|
 .frz 5 [4, 5, 6, 7, 8, 9, 11, 40, 45, 50, 55] [6, 7, 8] [b2 = b2] rt1 <|
 .frz 6 [4, 5, 6, 7, 8, 9, 11, 40, 45, 50, 55] [7, 8] [b3 = b3] rt1 <|
 .lent 3 <| .r 3 <| .lop (lcR Tryz.prog 7) ((118, [.agg (fsyA f), aI (firstE [(dirE f dir), (checkE s), (whenE (isB ((dirN f dir).l) s) 7), (whenE true 12), (whenE true 1)]), .clo 138 [.ptr 7 b4 0, .dptr (fsyA f), .dptr [aI dir], .dptr [aS s]]], some 62), .box b4 59 [aI f.next, aI n.kind, aI 1, aS n.text, .sl 2 false (n.l.map entA)]) (fun (_ : Unit) σ => (σ.put (some 62) (.tup [.agg [.sl 5 false ((if firstE [(dirE f dir), (checkE s), (whenE (isB ((dirN f dir).l) s) 7), (whenE true 12), (whenE true 1)] = 0 then addF f dir s (addN f n) else f).l.map nodA), aI ((if firstE [(dirE f dir), (checkE s), (whenE (isB ((dirN f dir).l) s) 7), (whenE true 12), (whenE true 1)] = 0 then addF f dir s (addN f n) else f).next)], aI (firstE [(dirE f dir), (checkE s), (whenE (isB ((dirN f dir).l) s) 7), (whenE true 12), (whenE true 1)])])).setB 7 gone) (rule_lent (args' := [.agg (fsyA f), aI (firstE [(dirE f dir), (checkE s), (whenE (isB ((dirN f dir).l) s) 7), (whenE true 12), (whenE true 1)]), .clo 138 [.ptr 7 b4 0, .dptr (fsyA f), .dptr [aI dir], .dptr [aS s]]]) sr3 (unless1_spec (firstE [(dirE f dir), (checkE s), (whenE (isB ((dirN f dir).l) s) 7), (whenE true 12), (whenE true 1)]) f dir s (addN f n) b4 okf hp hs ⟨okf.1, hx⟩)) fun _ =>
 .run 4 [b5 = b5] rt1 <|
 .fin (x := .tup [.agg [.sl 5 false ((if firstE [(dirE f dir), (checkE s), (whenE (isB ((dirN f dir).l) s) 7), (whenE true 12), (whenE true 1)] = 0 then addF f dir s (addN f n) else f).l.map nodA), aI ((if firstE [(dirE f dir), (checkE s), (whenE (isB ((dirN f dir).l) s) 7), (whenE true 12), (whenE true 1)] = 0 then addF f dir s (addN f n) else f).next)], aI (firstE [(dirE f dir), (checkE s), (whenE (isB ((dirN f dir).l) s) 7), (whenE true 12), (whenE true 1)])]) (r := .tup [.agg (fsyA (if addErr f dir s n = 0 then addF f dir s (addN f n) else f)), aI (addErr f dir s n)]) [b5 = b5] rt1 (by
  have e : addErr f dir s n = firstE [(dirE f dir), (checkE s), (whenE (isB ((dirN f dir).l) s) 7), (whenE true 12), (whenE true 1)] := by
   unfold addErr
   simp only [q1, q2, Bool.true_or, Bool.false_or, Bool.not_true, Bool.not_false]
  rw [e]
  exact sR))
 <| fun q2 => have q2 := notF q2; have p2 := booT q2; .run 3 [b4 = b4] rt1 <|
 .val 53 (show (aI ((n.l.map entA).length : Int) : AV) = aI (n.l.length : Int) from by rw [List.length_map]) <| .r 2 <| .call (when_spec (decide ((n.l.length : Int) > 0)) 1) <|
 .r 1 <| .callS (args0 := [.sl 1 true ([[aI (dirE f dir)], [aI (checkE s)], [aI (whenE (isB ((dirN f dir).l) s) 7)], [aI (whenE true 12)], [aI (whenE (decide ((n.l.length : Int) > 0)) 1)]])]) (args := [.sl 1 false ([(dirE f dir), (checkE s), (whenE (isB ((dirN f dir).l) s) 7), (whenE true 12), (whenE (decide ((n.l.length : Int) > 0)) 1)].map intA)]) ⟨first_lit5 (dirE f dir) (checkE s) (whenE (isB ((dirN f dir).l) s) 7) (whenE true 12) (whenE (decide ((n.l.length : Int) > 0)) 1), trivial⟩ (first_spec [(dirE f dir), (checkE s), (whenE (isB ((dirN f dir).l) s) 7), (whenE true 12), (whenE (decide ((n.l.length : Int) > 0)) 1)] (by simp)) <|
 .r 1 <| .frz 4 [4, 5, 6, 7, 8, 9, 11, 40, 45, 50] [5, 6, 7, 8] [b1 = b1] rt1 <|
 .frz 5 [4, 5, 6, 7, 8, 9, 11, 40, 45, 50] [6, 7, 8] [b2 = b2] rt1 <|
 .frz 6 [4, 5, 6, 7, 8, 9, 11, 40, 45, 50] [7, 8] [b3 = b3] rt1 <|
 .lent 3 <| .r 3 <| .lop (lcR Tryz.prog 7) ((118, [.agg (fsyA f), aI (firstE [(dirE f dir), (checkE s), (whenE (isB ((dirN f dir).l) s) 7), (whenE true 12), (whenE (decide ((n.l.length : Int) > 0)) 1)]), .clo 138 [.ptr 7 b4 0, .dptr (fsyA f), .dptr [aI dir], .dptr [aS s]]], some 62), .box b4 59 [aI f.next, aI n.kind, aI 1, aS n.text, .sl 2 false (n.l.map entA)]) (fun (_ : Unit) σ => (σ.put (some 62) (.tup [.agg [.sl 5 false ((if firstE [(dirE f dir), (checkE s), (whenE (isB ((dirN f dir).l) s) 7), (whenE true 12), (whenE (decide ((n.l.length : Int) > 0)) 1)] = 0 then addF f dir s (addN f n) else f).l.map nodA), aI ((if firstE [(dirE f dir), (checkE s), (whenE (isB ((dirN f dir).l) s) 7), (whenE true 12), (whenE (decide ((n.l.length : Int) > 0)) 1)] = 0 then addF f dir s (addN f n) else f).next)], aI (firstE [(dirE f dir), (checkE s), (whenE (isB ((dirN f dir).l) s) 7), (whenE true 12), (whenE (decide ((n.l.length : Int) > 0)) 1)])])).setB 7 gone) (rule_lent (args' := [.agg (fsyA f), aI (firstE [(dirE f dir), (checkE s), (whenE (isB ((dirN f dir).l) s) 7), (whenE true 12), (whenE (decide ((n.l.length : Int) > 0)) 1)]), .clo 138 [.ptr 7 b4 0, .dptr (fsyA f), .dptr [aI dir], .dptr [aS s]]]) sr3 (unless1_spec (firstE [(dirE f dir), (checkE s), (whenE (isB ((dirN f dir).l) s) 7), (whenE true 12), (whenE (decide ((n.l.length : Int) > 0)) 1)]) f dir s (addN f n) b4 okf hp hs ⟨okf.1, hx⟩)) fun _ =>
 .run 4 [b5 = b5] rt1 <|
 .fin (x := .tup [.agg [.sl 5 false ((if firstE [(dirE f dir), (checkE s), (whenE (isB ((dirN f dir).l) s) 7), (whenE true 12), (whenE (decide ((n.l.length : Int) > 0)) 1)] = 0 then addF f dir s (addN f n) else f).l.map nodA), aI ((if firstE [(dirE f dir), (checkE s), (whenE (isB ((dirN f dir).l) s) 7), (whenE true 12), (whenE (decide ((n.l.length : Int) > 0)) 1)] = 0 then addF f dir s (addN f n) else f).next)], aI (firstE [(dirE f dir), (checkE s), (whenE (isB ((dirN f dir).l) s) 7), (whenE true 12), (whenE (decide ((n.l.length : Int) > 0)) 1)])]) (r := .tup [.agg (fsyA (if addErr f dir s n = 0 then addF f dir s (addN f n) else f)), aI (addErr f dir s n)]) [b5 = b5] rt1 (by
  have e : addErr f dir s n = firstE [(dirE f dir), (checkE s), (whenE (isB ((dirN f dir).l) s) 7), (whenE true 12), (whenE (decide ((n.l.length : Int) > 0)) 1)] := by
   unfold addErr
   simp only [q1, q2, Bool.true_or, Bool.false_or, Bool.not_true, Bool.not_false]
  rw [e]
  exact sR))
 <| fun q1 => have p1 := decF q1; .run 3 [b6 = b6] rt1 <|
 .val 43 (show (aI (((dirN f dir).l.map entA).length : Int) : AV) = aI (((dirN f dir).l).length : Int) from by rw [List.length_map]) <| .r 2 <| .call (when_spec (decide ((((dirN f dir).l).length : Int) ≥ 256)) 12) <|
 .callS (args0 := [.agg [aI f.next, aI n.kind, aI 1, aS n.text, .sl 2 false (n.l.map entA)]]) (args := [.agg [aI ((addN f n).ino), aI ((addN f n).kind), aI ((addN f n).links), aS ((addN f n).text), .sl 2 false ((addN f n).l.map entA)]]) sr1 (nright_spec (addN f n) (addN_ok okf okn)) <|
 .r 2 <| .br 50 (!(dP (nodP (addN f n)))) (fun q3 => have q3 := notT q3; have p3 := booF q3; .r 5 <| .call (when_spec true 1) <|
 .r 1 <| .callS (args0 := [.sl 1 true ([[aI (dirE f dir)], [aI (checkE s)], [aI (whenE (isB ((dirN f dir).l) s) 7)], [aI (whenE (decide ((((dirN f dir).l).length : Int) ≥ 256)) 12)], [aI (whenE true 1)]])]) (args := [.sl 1 false ([(dirE f dir), (checkE s), (whenE (isB ((dirN f dir).l) s) 7), (whenE (decide ((((dirN f dir).l).length : Int) ≥ 256)) 12), (whenE true 1)].map intA)]) ⟨first_lit5 (dirE f dir) (checkE s) (whenE (isB ((dirN f dir).l) s) 7) (whenE (decide ((((dirN f dir).l).length : Int) ≥ 256)) 12) (whenE true 1), trivial⟩ (first_spec [(dirE f dir), (checkE s), (whenE (isB ((dirN f dir).l) s) 7), (whenE (decide ((((dirN f dir).l).length : Int) ≥ 256)) 12), (whenE true 1)] (by simp)) <|
 .r 1 <| .frz 4 [4, 5, 6, 7, 8, 9, 11, 40, 50, 55] [5, 6, 7, 8] [b1 = b1] rt1 <|
 .frz 5 [4, 5, 6, 7, 8, 9, 11, 40, 50, 55] [6, 7, 8] [b2 = b2] rt1 <|
 .frz 6 [4, 5, 6, 7, 8, 9, 11, 40, 50, 55] [7, 8] [b3 = b3] rt1 <|
 .lent 3 <| .r 3 <| .lop (lcR Tryz.prog 7) ((118, [.agg (fsyA f), aI (firstE [(dirE f dir), (checkE s), (whenE (isB ((dirN f dir).l) s) 7), (whenE (decide ((((dirN f dir).l).length : Int) ≥ 256)) 12), (whenE true 1)]), .clo 138 [.ptr 7 b4 0, .dptr (fsyA f), .dptr [aI dir], .dptr [aS s]]], some 62), .box b4 59 [aI f.next, aI n.kind, aI 1, aS n.text, .sl 2 false (n.l.map entA)]) (fun (_ : Unit) σ => (σ.put (some 62) (.tup [.agg [.sl 5 false ((if firstE [(dirE f dir), (checkE s), (whenE (isB ((dirN f dir).l) s) 7), (whenE (decide ((((dirN f dir).l).length : Int) ≥ 256)) 12), (whenE true 1)] = 0 then addF f dir s (addN f n) else f).l.map nodA), aI ((if firstE [(dirE f dir), (checkE s), (whenE (isB ((dirN f dir).l) s) 7), (whenE (decide ((((dirN f dir).l).length : Int) ≥ 256)) 12), (whenE true 1)] = 0 then addF f dir s (addN f n) else f).next)], aI (firstE [(dirE f dir), (checkE s), (whenE (isB ((dirN f dir).l) s) 7), (whenE (decide ((((dirN f dir).l).length : Int) ≥ 256)) 12), (whenE true 1)])])).setB 7 gone) (rule_lent (args' := [.agg (fsyA f), aI (firstE [(dirE f dir), (checkE s), (whenE (isB ((dirN f dir).l) s) 7), (whenE (decide ((((dirN f dir).l).length : Int) ≥ 256)) 12), (whenE true 1)]), .clo 138 [.ptr 7 b4 0, .dptr (fsyA f), .dptr [aI dir], .dptr [aS s]]]) sr3 (unless1_spec (firstE [(dirE f dir), (checkE s), (whenE (isB ((dirN f dir).l) s) 7), (whenE (decide ((((dirN f dir).l).length : Int) ≥ 256)) 12), (whenE true 1)]) f dir s (addN f n) b4 okf hp hs ⟨okf.1, hx⟩)) fun _ =>
 .run 4 [b5 = b5] rt1 <|
 .fin (x := .tup [.agg [.sl 5 false ((if firstE [(dirE f dir), (checkE s), (whenE (isB ((dirN f dir).l) s) 7), (whenE (decide ((((dirN f dir).l).length : Int) ≥ 256)) 12), (whenE true 1)] = 0 then addF f dir s (addN f n) else f).l.map nodA), aI ((if firstE [(dirE f dir), (checkE s), (whenE (isB ((dirN f dir).l) s) 7), (whenE (decide ((((dirN f dir).l).length : Int) ≥ 256)) 12), (whenE true 1)] = 0 then addF f dir s (addN f n) else f).next)], aI (firstE [(dirE f dir), (checkE s), (whenE (isB ((dirN f dir).l) s) 7), (whenE (decide ((((dirN f dir).l).length : Int) ≥ 256)) 12), (whenE true 1)])]) (r := .tup [.agg (fsyA (if addErr f dir s n = 0 then addF f dir s (addN f n) else f)), aI (addErr f dir s n)]) [b5 = b5] rt1 (by
  have e : addErr f dir s n = firstE [(dirE f dir), (checkE s), (whenE (isB ((dirN f dir).l) s) 7), (whenE (decide ((((dirN f dir).l).length : Int) ≥ 256)) 12), (whenE true 1)] := by
   unfold addErr
   simp only [q1, q3, Bool.true_or, Bool.false_or, Bool.not_true, Bool.not_false]
  rw [e]
  exact sR))
 <| fun q3 => have q3 := notF q3; have p3 := booT q3; .run 3 [b4 = b4] rt1 <|
 .val 53 (show (aI ((n.l.map entA).length : Int) : AV) = aI (n.l.length : Int) from by rw [List.length_map]) <| .r 2 <| .call (when_spec (decide ((n.l.length : Int) > 0)) 1) <|
 .r 1 <| .callS (args0 := [.sl 1 true ([[aI (dirE f dir)], [aI (checkE s)], [aI (whenE (isB ((dirN f dir).l) s) 7)], [aI (whenE (decide ((((dirN f dir).l).length : Int) ≥ 256)) 12)], [aI (whenE (decide ((n.l.length : Int) > 0)) 1)]])]) (args := [.sl 1 false ([(dirE f dir), (checkE s), (whenE (isB ((dirN f dir).l) s) 7), (whenE (decide ((((dirN f dir).l).length : Int) ≥ 256)) 12), (whenE (decide ((n.l.length : Int) > 0)) 1)].map intA)]) ⟨first_lit5 (dirE f dir) (checkE s) (whenE (isB ((dirN f dir).l) s) 7) (whenE (decide ((((dirN f dir).l).length : Int) ≥ 256)) 12) (whenE (decide ((n.l.length : Int) > 0)) 1), trivial⟩ (first_spec [(dirE f dir), (checkE s), (whenE (isB ((dirN f dir).l) s) 7), (whenE (decide ((((dirN f dir).l).length : Int) ≥ 256)) 12), (whenE (decide ((n.l.length : Int) > 0)) 1)] (by simp)) <|
 .r 1 <| .frz 4 [4, 5, 6, 7, 8, 9, 11, 40, 50] [5, 6, 7, 8] [b1 = b1] rt1 <|
 .frz 5 [4, 5, 6, 7, 8, 9, 11, 40, 50] [6, 7, 8] [b2 = b2] rt1 <|
 .frz 6 [4, 5, 6, 7, 8, 9, 11, 40, 50] [7, 8] [b3 = b3] rt1 <|
 .lent 3 <| .r 3 <| .lop (lcR Tryz.prog 7) ((118, [.agg (fsyA f), aI (firstE [(dirE f dir), (checkE s), (whenE (isB ((dirN f dir).l) s) 7), (whenE (decide ((((dirN f dir).l).length : Int) ≥ 256)) 12), (whenE (decide ((n.l.length : Int) > 0)) 1)]), .clo 138 [.ptr 7 b4 0, .dptr (fsyA f), .dptr [aI dir], .dptr [aS s]]], some 62), .box b4 59 [aI f.next, aI n.kind, aI 1, aS n.text, .sl 2 false (n.l.map entA)]) (fun (_ : Unit) σ => (σ.put (some 62) (.tup [.agg [.sl 5 false ((if firstE [(dirE f dir), (checkE s), (whenE (isB ((dirN f dir).l) s) 7), (whenE (decide ((((dirN f dir).l).length : Int) ≥ 256)) 12), (whenE (decide ((n.l.length : Int) > 0)) 1)] = 0 then addF f dir s (addN f n) else f).l.map nodA), aI ((if firstE [(dirE f dir), (checkE s), (whenE (isB ((dirN f dir).l) s) 7), (whenE (decide ((((dirN f dir).l).length : Int) ≥ 256)) 12), (whenE (decide ((n.l.length : Int) > 0)) 1)] = 0 then addF f dir s (addN f n) else f).next)], aI (firstE [(dirE f dir), (checkE s), (whenE (isB ((dirN f dir).l) s) 7), (whenE (decide ((((dirN f dir).l).length : Int) ≥ 256)) 12), (whenE (decide ((n.l.length : Int) > 0)) 1)])])).setB 7 gone) (rule_lent (args' := [.agg (fsyA f), aI (firstE [(dirE f dir), (checkE s), (whenE (isB ((dirN f dir).l) s) 7), (whenE (decide ((((dirN f dir).l).length : Int) ≥ 256)) 12), (whenE (decide ((n.l.length : Int) > 0)) 1)]), .clo 138 [.ptr 7 b4 0, .dptr (fsyA f), .dptr [aI dir], .dptr [aS s]]]) sr3 (unless1_spec (firstE [(dirE f dir), (checkE s), (whenE (isB ((dirN f dir).l) s) 7), (whenE (decide ((((dirN f dir).l).length : Int) ≥ 256)) 12), (whenE (decide ((n.l.length : Int) > 0)) 1)]) f dir s (addN f n) b4 okf hp hs ⟨okf.1, hx⟩)) fun _ =>
 .run 4 [b5 = b5] rt1 <|
 .fin (x := .tup [.agg [.sl 5 false ((if firstE [(dirE f dir), (checkE s), (whenE (isB ((dirN f dir).l) s) 7), (whenE (decide ((((dirN f dir).l).length : Int) ≥ 256)) 12), (whenE (decide ((n.l.length : Int) > 0)) 1)] = 0 then addF f dir s (addN f n) else f).l.map nodA), aI ((if firstE [(dirE f dir), (checkE s), (whenE (isB ((dirN f dir).l) s) 7), (whenE (decide ((((dirN f dir).l).length : Int) ≥ 256)) 12), (whenE (decide ((n.l.length : Int) > 0)) 1)] = 0 then addF f dir s (addN f n) else f).next)], aI (firstE [(dirE f dir), (checkE s), (whenE (isB ((dirN f dir).l) s) 7), (whenE (decide ((((dirN f dir).l).length : Int) ≥ 256)) 12), (whenE (decide ((n.l.length : Int) > 0)) 1)])]) (r := .tup [.agg (fsyA (if addErr f dir s n = 0 then addF f dir s (addN f n) else f)), aI (addErr f dir s n)]) [b5 = b5] rt1 (by
  have e : addErr f dir s n = firstE [(dirE f dir), (checkE s), (whenE (isB ((dirN f dir).l) s) 7), (whenE (decide ((((dirN f dir).l).length : Int) ≥ 256)) 12), (whenE (decide ((n.l.length : Int) > 0)) 1)] := by
   unfold addErr
   simp only [q1, q3, Bool.true_or, Bool.false_or, Bool.not_true, Bool.not_false]
  rw [e]
  exact sR)) Tryz.func113 rfl (by kernel_rfl) (by kernel_rfl)
def rootN : Nod := ⟨1, 2, 0, [], []⟩
def newF : Fsy := ⟨[rootN], 2⟩
theorem sl1_of {k : Nat} {t : Bool} {e e' : List AV} (h : SubAll e e') : Sub (.sl k t [e]) (.sl k false [e']) :=
 (Sub.sl2 (t := t) (xs := [e]) (ys := [e']) rfl (fun i a b ha hb => by
  match i, ha, hb with
  | 0, ha, hb => simp at ha hb; rw [← ha, ← hb]; exact h
  | i + 1, ha, _ => simp at ha)).trans (Sub.loose _ _ _)
theorem rootN_ok : OkN rootN := ⟨⟨by decide, by decide⟩, ⟨by decide, by decide⟩, ⟨by decide, by decide⟩, by show (0 : Nat) ≤ _; omega, by show (0 : Nat) ≤ _; omega, fun e h => by cases h⟩
theorem newF_ok : OkF newF := ⟨⟨by decide, by decide⟩, by show (1 : Nat) ≤ _; omega, fun n h => by obtain rfl := List.mem_singleton.1 h; exact rootN_ok⟩
theorem newF_rise : RiseN newF.l := by simp [newF, RiseN, RiseF]
theorem newF_rows : rowsP newF := rowsP_iff.2 ⟨by decide, by decide, fun n h => by
 obtain rfl := List.mem_singleton.1 h
 exact ⟨⟨by decide, by decide, by decide, .inl ⟨rfl, rfl, rowP_nil⟩⟩, by decide⟩, newF_rise⟩
def fullB (n : Nod) : Bool := n.kind == 2 && decide ((n.l.length : Int) > 0)
theorem full_spec (n : Nod) (hl : n.l.length ≤ 8796093022207) : FSpec Tryz.prog 139 [.agg (nodA n)] (aB (fullB n)) := by
 exact spec_vc (F := Tryz.f139) 400 (
 .new fun b1 => .r 1 <| .run 4 [b1 = b1] rt1 <|
 .br 6 (n.kind == 2) (fun q1 => have p1 := beqT q1; .run 3 [b1 = b1] rt1 <|
 .val 9 (show (aI ((n.l.map entA).length : Int) : AV) = aI (n.l.length : Int) from by rw [List.length_map]) <| .r 3 <| .fin (x := aB (decide ((n.l.length : Int) > 0))) (r := aB (fullB n)) [] trivial (by exact Sub.of_eq (congrArg aB (by unfold fullB; simp_all))))
 <| fun q1 => have p1 := beqF q1; .r 6 <| .fin (x := aB false) (r := aB (fullB n)) [] trivial (by exact Sub.of_eq (congrArg aB (by unfold fullB; simp_all)))) Tryz.func139 rfl (by kernel_rfl) (by kernel_rfl)
theorem rnew_spec  : FSpec Tryz.prog 36 [] (.agg (fsyA newF)) := by
 exact spec_vc (F := Tryz.f36) 400 (
 .new fun b1 => .run 4 [b1 = b1] rt1 <|
 .fin (x := .agg [.sl 5 true ([[aI 1, aI 2, aI 0, aS ([]), aN]]), aI 2]) (r := .agg (fsyA newF)) [b1 = b1] rt1 (by exact Sub.aggs ⟨sl1_of ⟨sR, sR, sR, sR, Sub.nil _ _, trivial⟩, sR, trivial⟩)) Tryz.func36 rfl (by kernel_rfl) (by kernel_rfl)
end Go.Proofs.YtkhnialfkndiiaaGreat

namespace Go.Proofs.YtkhnialfkndiiaaGreat
open Go Go.RowKit Copyhold
open Copyhold.Name (Srt insE delE getE isAt)
def atF (f : Fsy) (i : Int) : Option Nod := f.l.find? (isNo i)
theorem at_B (f : Fsy) (i : Int) : findB f i = (atF f i).isSome := findBN f i
theorem at_N (f : Fsy) (i : Int) : findN f i = (atF f i).getD nod0 := rfl
theorem at_ino {f : Fsy} {i : Int} {n : Nod} (h : atF f i = some n) : n.ino = i := by simpa [isNo] using List.find?_some h
theorem at_mem {f : Fsy} {i : Int} {n : Nod} (h : atF f i = some n) : n ∈ f.l := List.mem_of_find?_eq_some h
theorem at_of {f : Fsy} {n : Nod} (hr : RiseN f.l) (h : n ∈ f.l) : atF f n.ino = some n := find_unique hr h rfl
theorem at_BN {f : Fsy} {i : Int} {n : Nod} (h : atF f i = some n) : findB f i = true ∧ findN f i = n := ⟨by rw [at_B, h]; rfl, by rw [at_N, h]; rfl⟩
theorem at_no {f : Fsy} {i : Int} (h : atF f i = none) : findB f i = false ∧ findN f i = nod0 := ⟨by rw [at_B, h]; rfl, by rw [at_N, h]; rfl⟩
theorem at_some {f : Fsy} {i : Int} (h : findB f i = true) : atF f i = some (findN f i) := by
 rw [at_B] at h
 cases hc : atF f i with
 | none => rw [hc] at h; cases h
 | some n => rw [at_N, hc]; rfl
theorem at_none {f : Fsy} {i : Int} (h : findB f i = false) : atF f i = none := by
 rw [at_B] at h
 cases hc : atF f i with
 | none => rfl
 | some n => rw [hc] at h; cases h
theorem opt_of {a b : Option Nod} {i : Int} (ha : ∀ n, a = some n → n.ino = i) (h1 : a.isSome = b.isSome) (h2 : a.getD nod0 = b.getD nod0) : a = b := by
 cases a <;> cases b <;> simp_all
theorem at_put {f : Fsy} {n : Nod} {j : Int} (hr : RiseN f.l) : atF (putF f n) j = if j = n.ino then some n else atF f j := by
 by_cases hj : j = n.ino
 ·rw [if_pos hj, hj]
  obtain ⟨h1, h2⟩ := find_put_self (n := n) hr
  rw [at_some h1, h2]
 ·rw [if_neg hj]
  obtain ⟨h1, h2⟩ := find_put_other (n := n) hr hj
  exact opt_of (i := j) (fun n => at_ino) (by rw [← at_B, ← at_B, h1]) (by rw [← at_N, ← at_N, h2])
theorem at_out {f : Fsy} {i j : Int} (hr : RiseN f.l) : atF (outF f i) j = if j = i then none else atF f j := by
 obtain ⟨h1, h2⟩ := find_out (i := i) (j := j) hr
 by_cases hj : j = i
 ·rw [if_pos hj]; rw [if_pos hj] at h1; exact at_none h1
 ·rw [if_neg hj]; rw [if_neg hj] at h1 h2
  exact opt_of (i := j) (fun n => at_ino) (by rw [← at_B, ← at_B, h1]) (by rw [← at_N, ← at_N, h2])
theorem rise_ext : ∀ {a b : List Nod}, RiseN a → RiseN b → (∀ x, x ∈ a ↔ x ∈ b) → a = b
 | [], [], _, _, _ => rfl
 | [], y :: s, _, _, h => absurd ((h y).2 (by simp)) (by simp)
 | x :: r, [], _, _, h => absurd ((h x).1 (by simp)) (by simp)
 | x :: r, y :: s, ha, hb, h => by
  obtain ⟨ha1, ha2⟩ := List.pairwise_cons.1 ha
  obtain ⟨hb1, hb2⟩ := List.pairwise_cons.1 hb
  have e : x = y := by
   rcases List.mem_cons.1 ((h x).1 (by simp)) with e | e
   ·exact e
   ·rcases List.mem_cons.1 ((h y).2 (by simp)) with e2 | e2
    ·exact e2.symm
    ·have g1 : y.ino < x.ino := hb1 x e
     have g2 : x.ino < y.ino := ha1 y e2
     omega
  subst e
  rw [rise_ext ha2 hb2 fun z => ⟨fun hz => ?_, fun hz => ?_⟩]
  ·rcases List.mem_cons.1 ((h z).1 (by simp [hz])) with e | e
   ·subst e; have g : z.ino < z.ino := ha1 z hz; omega
   ·exact e
  ·rcases List.mem_cons.1 ((h z).2 (by simp [hz])) with e | e
   ·subst e; have g : z.ino < z.ino := hb1 z hz; omega
   ·exact e
theorem fsy_ext {f g : Fsy} (hf : RiseN f.l) (hg : RiseN g.l) (h : ∀ i, atF f i = atF g i) (hn : f.next = g.next) : f = g := by
 have e : f.l = g.l := rise_ext hf hg fun x => ⟨fun hx => by
  have := at_of hf hx; rw [h] at this; exact at_mem this, fun hx => by
  have := at_of hg hx; rw [← h] at this; exact at_mem this⟩
 cases f; cases g; simp_all
theorem rows_at {f : Fsy} (h : rowsP f) {i : Int} {n : Nod} (hn : atF f i = some n) : nodP n ∧ n.ino < f.next ∧ n.ino = i := by
 have := (rowsP_iff.1 h).2.2.1 n (at_mem hn)
 exact ⟨this.1, this.2, at_ino hn⟩
theorem putN_len {l : List Nod} {n : Nod} (h : thN l n.ino = true) : (putN l n).length = l.length := by
 have := plN_lt h
 unfold putN
 rw [if_pos h]
 simp only [List.length_append, List.length_cons, List.length_take, List.length_drop]
 omega
theorem put_len {f : Fsy} {n : Nod} (hr : RiseN f.l) (h : findB f n.ino = true) : (putF f n).l.length = f.l.length := putN_len (by rw [findB_eq hr] at h; exact h)
theorem put_next {f : Fsy} {n : Nod} (h : n.ino < f.next) : (putF f n).next = f.next := by
 show (if n.ino + 1 > f.next then n.ino + 1 else f.next) = f.next
 rw [if_neg (by omega)]
theorem put_next2 {f : Fsy} {n : Nod} (h : n.ino = f.next) : (putF f n).next = f.next + 1 := by
 show (if n.ino + 1 > f.next then n.ino + 1 else f.next) = _
 rw [if_pos (by omega), h]
theorem put_rows2 {f : Fsy} {n : Nod} (h : rowsP f) (hn : nodP n) (hb : findB f n.ino = true) : rowsP (putF f n) := by
 obtain ⟨h1, h2, h3, h4⟩ := rowsP_iff.1 h
 have hnx : f.next ≤ (putF f n).next ∧ n.ino + 1 ≤ (putF f n).next := by
  show f.next ≤ (if n.ino + 1 > f.next then n.ino + 1 else f.next) ∧ n.ino + 1 ≤ (if n.ino + 1 > f.next then n.ino + 1 else f.next)
  split <;> omega
 refine rowsP_iff.2 ⟨by rw [put_len h4 hb]; exact h1, by omega, fun x hx => ?_, put_rise h4⟩
 rcases mem_put hx with rfl | hx
 ·exact ⟨hn, by omega⟩
 ·have := h3 x hx
  exact ⟨this.1, by omega⟩
theorem lI_inj {a b : List Ent} (h : lI a = lI b) : a = b := by rw [← lI_O a, ← lI_O b, h]
theorem lI_len (l : List Ent) : (lI l).length = l.length := by simp [lI]
noncomputable def delL (l : List Ent) (s : Txt) : List Ent := if isB l s = true then l.take (posI l s) ++ l.drop (posI l s + 1) else l
def leaveE (l : List Ent) (s : Txt) : Int := if isB l s = true then 0 else 6
theorem lI_del {l : List Ent} (h : Srt (lI l)) (s : Txt) : lI (delL l s) = delE (lI l) s := by
 unfold delL
 split
 ·rename_i hi
  rw [← Name.take_del h hi]
  simp [lI, posI, List.map_take, List.map_drop]
 ·rename_i hi
  exact (Name.del_none (by simpa [isB] using hi)).symm
theorem entE_cases {l : List Ent} {s : Txt} {n : Int} (h : checkE s = 0) (hn : 1 ≤ n) (hi : isB l s = false) (hl : l.length < 256) : entE l s n = 0 := by
 unfold entE
 rw [if_neg (by rw [h]; decide), if_neg (by omega), if_neg (by rw [hi]; decide), if_neg (by omega)]
theorem lI_ent {l : List Ent} {s : Txt} {n : Int} (h : Srt (lI l)) (he : entE l s n = 0) : lI (entL l s n) = insE (lI l) (s, n) := by
 unfold entL
 rw [if_pos he, ← Name.take_ins h]
 simp [lI, posI, List.map_take, List.map_drop]
theorem del_ent {l : List Ent} {s : Txt} {n : Int} (h : Srt (lI l)) (he : entE l s n = 0) (hi : isB l s = false) : delL (entL l s n) s = l := by
 have hs : Srt (lI (entL l s n)) := by rw [lI_ent h he]; exact Name.srt_ins h hi
 apply lI_inj
 rw [lI_del hs, lI_ent h he, Name.del_ins hi]
theorem get_ent {l : List Ent} {s t : Txt} {n : Int} (h : Srt (lI l)) (he : entE l s n = 0) (hi : isB l s = false) : getE (lI (entL l s n)) t = if t = s then some n else getE (lI l) t := by
 rw [lI_ent h he, Name.get_ins hi]
theorem get_del {l : List Ent} {s t : Txt} (h : Srt (lI l)) : getE (lI (delL l s)) t = if t = s then none else getE (lI l) t := by
 rw [lI_del h, Name.get_del]
theorem isB_get (l : List Ent) (s : Txt) : isB l s = (getE (lI l) s).isSome := Name.get_some
theorem getI_get (l : List Ent) (s : Txt) : getI l s = (getE (lI l) s).getD 0 := rfl
theorem right_iffE {l : List Ent} : Name.rightE (lI l) = true ↔ rowP l := by rw [rowP_iff, lI_O]
theorem ent_row {l : List Ent} {s : Txt} {n : Int} (h : rowP l) (hc : checkE s = 0) (hn : 1 ≤ n) (hi : isB l s = false) (hl : l.length < 256) : rowP (entL l s n) := by
 rw [← right_iffE, lI_ent (row_srt h) (entE_cases hc hn hi hl)]
 exact Name.right_ins (right_iffE.2 h) (checkP_iff.2 (checkE_iff.1 hc)) hn hi (by rw [lI_len]; exact hl)
theorem del_row {l : List Ent} {s : Txt} (h : rowP l) : rowP (delL l s) := by
 have h2 := right_iffE.2 h
 rw [← right_iffE, lI_del (row_srt h)]
 obtain ⟨h3, h4, h5⟩ := (Name.rightE_iff _).1 h2
 exact (Name.rightE_iff _).2 ⟨Nat.le_trans (List.length_filter_le _ _) h3, fun x hx => h4 x (List.mem_filter.1 hx).1, Name.srt_del h5 s⟩
theorem ent_len {l : List Ent} {s : Txt} {n : Int} : (entL l s n).length ≤ l.length + 1 := by
 unfold entL
 split
 ·simp only [List.length_append, List.length_cons, List.length_take, List.length_drop]; omega
 ·omega
theorem del_len {l : List Ent} {s : Txt} : (delL l s).length ≤ l.length := by
 unfold delL
 split
 ·simp only [List.length_append, List.length_take, List.length_drop]; omega
 ·omega
theorem at_dir {f : Fsy} {i : Int} (h : dirE f i = 0) : ∃ d, atF f i = some d ∧ d.kind = 2 ∧ dirN f i = d ∧ findN f i = d ∧ findB f i = true := by
 unfold dirE at h
 split at h
 ·rename_i hb
  split at h
  ·rename_i hk
   exact ⟨findN f i, at_some hb, hk, (dirE_0 hb hk).2, rfl, hb⟩
  ·cases h
 ·cases h
theorem dir_of {f : Fsy} {i : Int} {d : Nod} (h : atF f i = some d) (hk : d.kind = 2) : dirE f i = 0 ∧ dirN f i = d := by
 obtain ⟨h1, h2⟩ := at_BN h
 have := dirE_0 h1 (by rw [h2]; exact hk)
 rw [h2] at this
 exact this
theorem dir_row {n : Nod} (h : nodP n) (hk : n.kind = 2) : n.text = [] ∧ rowP n.l := by
 rcases h.2.2.2 with ⟨_, h1, h2⟩ | ⟨h1, _⟩
 ·exact ⟨h1, h2⟩
 ·omega
theorem file_none {n : Nod} (h : nodP n) (hk : ¬ n.kind = 2) : n.l = [] := by
 rcases h.2.2.2 with ⟨h1, _⟩ | ⟨_, _, h1⟩
 ·exact absurd h1 hk
 ·exact h1
theorem look_iff {f : Fsy} {i : Int} {s : Txt} (hp : rowsP f) : lookE f i s = 0 ↔ ∃ d j n, atF f i = some d ∧ d.kind = 2 ∧ checkE s = 0 ∧ getE (lI d.l) s = some j ∧ atF f j = some n := by
 constructor
 ·intro h
  unfold lookE at h
  rw [first3] at h
  split at h
  ·rename_i h1
   split at h
   ·rename_i h2
    obtain ⟨d, g1, g2, g3, g4⟩ := at_dir h1
    cases hb : findB f (lookI f i s) with
    | false => rw [hb] at h; cases h
    | true =>
     have hl := at_some hb
     unfold lookI at hl
     rw [g3, getI_get] at hl
     cases hg : getE (lI d.l) s with
     | none => rw [hg] at hl; rw [show (none : Option Int).getD 0 = 0 from rfl, at_none (find_0 hp)] at hl; cases hl
     | some j => rw [hg] at hl; exact ⟨d, j, _, g1, g2, h2, hg, hl⟩
   ·exact absurd h (by assumption)
  ·exact absurd h (by assumption)
 ·rintro ⟨d, j, n, h1, h2, h3, h4, h5⟩
  obtain ⟨g1, g2⟩ := dir_of h1 h2
  unfold lookE
  rw [first3, if_pos g1, if_pos h3]
  have : findB f (lookI f i s) = true := by unfold lookI; rw [g2, getI_get, h4]; exact (at_BN h5).1
  rw [this]
  rfl
theorem look_at {f : Fsy} {i : Int} {s : Txt} {d n : Nod} {j : Int} (h1 : atF f i = some d) (h2 : d.kind = 2) (h3 : checkE s = 0) (h4 : getE (lI d.l) s = some j) (h5 : atF f j = some n) : lookE f i s = 0 ∧ lookN f i s = n := by
 obtain ⟨g1, g2⟩ := dir_of h1 h2
 have hi : lookI f i s = j := by unfold lookI; rw [g2, getI_get, h4]; rfl
 have he : lookE f i s = 0 := by
  unfold lookE
  rw [first3, if_pos g1, if_pos h3, hi, (at_BN h5).1]
  rfl
 exact ⟨he, by rw [look_yes he, hi, (at_BN h5).2]⟩
theorem look_gone {f : Fsy} {i : Int} {s : Txt} {d : Nod} (hp : rowsP f) (h1 : atF f i = some d) (h2 : d.kind = 2) (h3 : checkE s = 0) (h4 : getE (lI d.l) s = none) : lookE f i s = 6 := by
 obtain ⟨g1, g2⟩ := dir_of h1 h2
 have hi : lookI f i s = 0 := by unfold lookI; rw [g2, getI_get, h4]; rfl
 unfold lookE
 rw [first3, if_pos g1, if_pos h3, hi, find_0 hp]
 rfl
end Go.Proofs.YtkhnialfkndiiaaGreat
