/- dirs.Add. dirs.full, Take where it finds nothing; a new tree; the example. The document's example of directories. The law DirsFinds over data. What comes in, by its type: an abstract value that describes it. Over any program. No conditions beyond each law's own. -/
import Derived.Test.YtkepkbgebickiaaMrgP
import Derived.Test.YtkepkbgebickiaaMrgH
set_option linter.unusedVariables false
set_option linter.unusedSimpArgs false
namespace Go.Proofs.Ytkepkbgebickiaa
open Go Go.RowKit Copyhold
theorem first_lit5 {t : Bool} (a b c d e : Int) : Sub (.sl 1 t [[aI a], [aI b], [aI c], [aI d], [aI e]]) (.sl 1 false ([a, b, c, d, e].map intA)) := Sub.loose _ _ _
def addN (f : Fsy) (n : Nod) : Nod := ⟨f.next, n.kind, 1, n.text, n.l⟩
noncomputable def addErr (f : Fsy) (d : Int) (s : Txt) (n : Nod) : Int := firstE [dirE f d, checkE s, whenE (isB (dirN f d).l s) 7, whenE (decide ((f.l.length : Int) ≥ 256) || decide (((dirN f d).l.length : Int) ≥ 256)) 12, whenE ((!(dP (nodP (addN f n)))) || decide ((n.l.length : Int) > 0)) 1]
theorem addN_ok {f : Fsy} {n : Nod} (okf : OkF f) (okn : OkN n) : OkN (addN f n) := ⟨okf.1, okn.2.1, ⟨by show (_ : Int) ≤ 1; omega, by show (1 : Int) ≤ _; omega⟩, okn.2.2.2.1, okn.2.2.2.2.1, okn.2.2.2.2.2⟩
set_option maxRecDepth 100000 in
set_option maxHeartbeats 4000000 in
theorem add_spec (f : Fsy) (dir : Int) (s : Txt) (n : Nod) (okf : OkF f) (hp : rowsP f) (hs : s.length ≤ 1000000) (okn : OkN n) (hx : f.next < 9223372036854775807) : FSpec Try.prog 17 [.agg [.sl 5 false (f.l.map nodA), aI f.next], aI dir, aS s, .agg [aI n.ino, aI n.kind, aI n.links, aS n.text, .sl 2 false (n.l.map entA)]] (.tup [.agg (fsyA (if addErr f dir s n = 0 then addF f dir s (addN f n) else f)), aI (addErr f dir s n)]) := by
  have hl := hp.1
  have hr := rows_rise hp
  exact spec_vc (F := Try.f17) 400 (
 .new fun b1 => .new fun b2 => .new fun b3 => .new fun b4 => .new fun b5 => .r 1 <| .run 2 [b1 = b1, b2 = b2] ⟨rfl, rfl, trivial⟩ <|
 .call (dir_spec f dir hp) <|
 .r 3 <| .new fun b6 => .run 2 [b6 = b6] ⟨rfl, trivial⟩ <|
 .run 3 [b6 = b6, b3 = b3] ⟨rfl, rfl, trivial⟩ <|
 .call (nfind_spec ((dirN f dir).l) s (by have := (dir_srt hp dir).2; omega) (dir_srt hp dir).1) <|
 .r 5 <| .run 6 [b1 = b1, b4 = b4, b4 = b4] ⟨rfl, rfl, rfl, trivial⟩ <|
 .ord [0, 1, 3, 5, 6, 7, 8, 16, 2, 4, 9, 10, 11, 12, 13, 14, 15, 17, 18, 19, 20, 21, 22, 23, 24, 25, 26, 27, 28] <| .run 6 [b3 = b3, b1 = b1] ⟨rfl, rfl, trivial⟩ <|
 .val 38 (show (aI ((f.l.map nodA).length : Int) : AV) = aI (f.l.length : Int) from by rw [List.length_map]) <| .run 2 [b4 = b4] ⟨rfl, trivial⟩ <|
 .call (check_spec s (by omega)) <|
 .call (when_spec (isB ((dirN f dir).l) s) 7) <|
 .r 1 <| .br 40 (decide ((f.l.length : Int) ≥ 256)) (fun q1 => have p1 := decT q1; .r 5 <| .call (when_spec true 12) <|
 .callS (args0 := [.agg [aI f.next, aI n.kind, aI 1, aS n.text, .sl 2 false (n.l.map entA)]]) (args := [.agg [aI ((addN f n).ino), aI ((addN f n).kind), aI ((addN f n).links), aS ((addN f n).text), .sl 2 false ((addN f n).l.map entA)]]) ⟨Sub.refl _, trivial⟩ (nright_spec (addN f n) (addN_ok okf okn)) <|
 .r 2 <| .br 50 (!(dP (nodP (addN f n)))) (fun q2 => have q2 := notT q2; have p2 := booF q2; .r 5 <| .call (when_spec true 1) <|
 .r 1 <| .callS (args0 := [.sl 1 true ([[aI (dirE f dir)], [aI (checkE s)], [aI (whenE (isB ((dirN f dir).l) s) 7)], [aI (whenE true 12)], [aI (whenE true 1)]])]) (args := [.sl 1 false ([(dirE f dir), (checkE s), (whenE (isB ((dirN f dir).l) s) 7), (whenE true 12), (whenE true 1)].map intA)]) ⟨first_lit5 (dirE f dir) (checkE s) (whenE (isB ((dirN f dir).l) s) 7) (whenE true 12) (whenE true 1), trivial⟩ (first_spec [(dirE f dir), (checkE s), (whenE (isB ((dirN f dir).l) s) 7), (whenE true 12), (whenE true 1)] (by simp)) <|
 .r 1 <| .frz 4 [4, 5, 6, 7, 8, 9, 11, 40, 45, 50, 55] [5, 6, 7, 8] [b1 = b1] ⟨rfl, trivial⟩ <|
 .frz 5 [4, 5, 6, 7, 8, 9, 11, 40, 45, 50, 55] [6, 7, 8] [b2 = b2] ⟨rfl, trivial⟩ <|
 .frz 6 [4, 5, 6, 7, 8, 9, 11, 40, 45, 50, 55] [7, 8] [b3 = b3] ⟨rfl, trivial⟩ <|
 .lent 3 <| .r 3 <| .lop (lcR Try.prog 7) ((37, [.agg [.sl 5 false (f.l.map nodA), aI f.next], aI (firstE [(dirE f dir), (checkE s), (whenE (isB ((dirN f dir).l) s) 7), (whenE true 12), (whenE true 1)]), .clo 38 [.ptr 7 b4 0, .dptr [.sl 5 false (f.l.map nodA), aI f.next], .dptr [aI dir], .dptr [aS s]]], some 62), .box b4 31 [aI f.next, aI n.kind, aI 1, aS n.text, .sl 2 false (n.l.map entA)]) (fun (_ : Unit) σ => (σ.put (some 62) (.tup [.agg [.sl 5 false ((if firstE [(dirE f dir), (checkE s), (whenE (isB ((dirN f dir).l) s) 7), (whenE true 12), (whenE true 1)] = 0 then addF f dir s (addN f n) else f).l.map nodA), aI ((if firstE [(dirE f dir), (checkE s), (whenE (isB ((dirN f dir).l) s) 7), (whenE true 12), (whenE true 1)] = 0 then addF f dir s (addN f n) else f).next)], aI (firstE [(dirE f dir), (checkE s), (whenE (isB ((dirN f dir).l) s) 7), (whenE true 12), (whenE true 1)])])).setB 7 gone) (rule_lent (args' := [.agg [.sl 5 false (f.l.map nodA), aI f.next], aI (firstE [(dirE f dir), (checkE s), (whenE (isB ((dirN f dir).l) s) 7), (whenE true 12), (whenE true 1)]), .clo 38 [.ptr 7 b4 0, .dptr [.sl 5 false (f.l.map nodA), aI f.next], .dptr [aI dir], .dptr [aS s]]]) ⟨Sub.refl _, Sub.refl _, Sub.refl _, trivial⟩ (unless1_spec (firstE [(dirE f dir), (checkE s), (whenE (isB ((dirN f dir).l) s) 7), (whenE true 12), (whenE true 1)]) f dir s (addN f n) b4 okf hp hs ⟨okf.1, hx⟩)) fun _ =>
 .run 4 [b5 = b5] ⟨rfl, trivial⟩ <|
 .fin (x := .tup [.agg [.sl 5 false ((if firstE [(dirE f dir), (checkE s), (whenE (isB ((dirN f dir).l) s) 7), (whenE true 12), (whenE true 1)] = 0 then addF f dir s (addN f n) else f).l.map nodA), aI ((if firstE [(dirE f dir), (checkE s), (whenE (isB ((dirN f dir).l) s) 7), (whenE true 12), (whenE true 1)] = 0 then addF f dir s (addN f n) else f).next)], aI (firstE [(dirE f dir), (checkE s), (whenE (isB ((dirN f dir).l) s) 7), (whenE true 12), (whenE true 1)])]) (r := .tup [.agg (fsyA (if addErr f dir s n = 0 then addF f dir s (addN f n) else f)), aI (addErr f dir s n)]) [b5 = b5] ⟨rfl, trivial⟩ (by
    have e : addErr f dir s n = firstE [(dirE f dir), (checkE s), (whenE (isB ((dirN f dir).l) s) 7), (whenE true 12), (whenE true 1)] := by
      unfold addErr
      simp only [q1, q2, Bool.true_or, Bool.false_or, Bool.not_true, Bool.not_false]
    rw [e]
    exact Sub.refl _))
 <| fun q2 => have q2 := notF q2; have p2 := booT q2; .run 3 [b4 = b4] ⟨rfl, trivial⟩ <|
 .val 53 (show (aI ((n.l.map entA).length : Int) : AV) = aI (n.l.length : Int) from by rw [List.length_map]) <| .r 2 <| .call (when_spec (decide ((n.l.length : Int) > 0)) 1) <|
 .r 1 <| .callS (args0 := [.sl 1 true ([[aI (dirE f dir)], [aI (checkE s)], [aI (whenE (isB ((dirN f dir).l) s) 7)], [aI (whenE true 12)], [aI (whenE (decide ((n.l.length : Int) > 0)) 1)]])]) (args := [.sl 1 false ([(dirE f dir), (checkE s), (whenE (isB ((dirN f dir).l) s) 7), (whenE true 12), (whenE (decide ((n.l.length : Int) > 0)) 1)].map intA)]) ⟨first_lit5 (dirE f dir) (checkE s) (whenE (isB ((dirN f dir).l) s) 7) (whenE true 12) (whenE (decide ((n.l.length : Int) > 0)) 1), trivial⟩ (first_spec [(dirE f dir), (checkE s), (whenE (isB ((dirN f dir).l) s) 7), (whenE true 12), (whenE (decide ((n.l.length : Int) > 0)) 1)] (by simp)) <|
 .r 1 <| .frz 4 [4, 5, 6, 7, 8, 9, 11, 40, 45, 50] [5, 6, 7, 8] [b1 = b1] ⟨rfl, trivial⟩ <|
 .frz 5 [4, 5, 6, 7, 8, 9, 11, 40, 45, 50] [6, 7, 8] [b2 = b2] ⟨rfl, trivial⟩ <|
 .frz 6 [4, 5, 6, 7, 8, 9, 11, 40, 45, 50] [7, 8] [b3 = b3] ⟨rfl, trivial⟩ <|
 .lent 3 <| .r 3 <| .lop (lcR Try.prog 7) ((37, [.agg [.sl 5 false (f.l.map nodA), aI f.next], aI (firstE [(dirE f dir), (checkE s), (whenE (isB ((dirN f dir).l) s) 7), (whenE true 12), (whenE (decide ((n.l.length : Int) > 0)) 1)]), .clo 38 [.ptr 7 b4 0, .dptr [.sl 5 false (f.l.map nodA), aI f.next], .dptr [aI dir], .dptr [aS s]]], some 62), .box b4 31 [aI f.next, aI n.kind, aI 1, aS n.text, .sl 2 false (n.l.map entA)]) (fun (_ : Unit) σ => (σ.put (some 62) (.tup [.agg [.sl 5 false ((if firstE [(dirE f dir), (checkE s), (whenE (isB ((dirN f dir).l) s) 7), (whenE true 12), (whenE (decide ((n.l.length : Int) > 0)) 1)] = 0 then addF f dir s (addN f n) else f).l.map nodA), aI ((if firstE [(dirE f dir), (checkE s), (whenE (isB ((dirN f dir).l) s) 7), (whenE true 12), (whenE (decide ((n.l.length : Int) > 0)) 1)] = 0 then addF f dir s (addN f n) else f).next)], aI (firstE [(dirE f dir), (checkE s), (whenE (isB ((dirN f dir).l) s) 7), (whenE true 12), (whenE (decide ((n.l.length : Int) > 0)) 1)])])).setB 7 gone) (rule_lent (args' := [.agg [.sl 5 false (f.l.map nodA), aI f.next], aI (firstE [(dirE f dir), (checkE s), (whenE (isB ((dirN f dir).l) s) 7), (whenE true 12), (whenE (decide ((n.l.length : Int) > 0)) 1)]), .clo 38 [.ptr 7 b4 0, .dptr [.sl 5 false (f.l.map nodA), aI f.next], .dptr [aI dir], .dptr [aS s]]]) ⟨Sub.refl _, Sub.refl _, Sub.refl _, trivial⟩ (unless1_spec (firstE [(dirE f dir), (checkE s), (whenE (isB ((dirN f dir).l) s) 7), (whenE true 12), (whenE (decide ((n.l.length : Int) > 0)) 1)]) f dir s (addN f n) b4 okf hp hs ⟨okf.1, hx⟩)) fun _ =>
 .run 4 [b5 = b5] ⟨rfl, trivial⟩ <|
 .fin (x := .tup [.agg [.sl 5 false ((if firstE [(dirE f dir), (checkE s), (whenE (isB ((dirN f dir).l) s) 7), (whenE true 12), (whenE (decide ((n.l.length : Int) > 0)) 1)] = 0 then addF f dir s (addN f n) else f).l.map nodA), aI ((if firstE [(dirE f dir), (checkE s), (whenE (isB ((dirN f dir).l) s) 7), (whenE true 12), (whenE (decide ((n.l.length : Int) > 0)) 1)] = 0 then addF f dir s (addN f n) else f).next)], aI (firstE [(dirE f dir), (checkE s), (whenE (isB ((dirN f dir).l) s) 7), (whenE true 12), (whenE (decide ((n.l.length : Int) > 0)) 1)])]) (r := .tup [.agg (fsyA (if addErr f dir s n = 0 then addF f dir s (addN f n) else f)), aI (addErr f dir s n)]) [b5 = b5] ⟨rfl, trivial⟩ (by
    have e : addErr f dir s n = firstE [(dirE f dir), (checkE s), (whenE (isB ((dirN f dir).l) s) 7), (whenE true 12), (whenE (decide ((n.l.length : Int) > 0)) 1)] := by
      unfold addErr
      simp only [q1, q2, Bool.true_or, Bool.false_or, Bool.not_true, Bool.not_false]
    rw [e]
    exact Sub.refl _))
 <| fun q1 => have p1 := decF q1; .run 3 [b6 = b6] ⟨rfl, trivial⟩ <|
 .val 43 (show (aI (((dirN f dir).l.map entA).length : Int) : AV) = aI (((dirN f dir).l).length : Int) from by rw [List.length_map]) <| .r 2 <| .call (when_spec (decide ((((dirN f dir).l).length : Int) ≥ 256)) 12) <|
 .callS (args0 := [.agg [aI f.next, aI n.kind, aI 1, aS n.text, .sl 2 false (n.l.map entA)]]) (args := [.agg [aI ((addN f n).ino), aI ((addN f n).kind), aI ((addN f n).links), aS ((addN f n).text), .sl 2 false ((addN f n).l.map entA)]]) ⟨Sub.refl _, trivial⟩ (nright_spec (addN f n) (addN_ok okf okn)) <|
 .r 2 <| .br 50 (!(dP (nodP (addN f n)))) (fun q3 => have q3 := notT q3; have p3 := booF q3; .r 5 <| .call (when_spec true 1) <|
 .r 1 <| .callS (args0 := [.sl 1 true ([[aI (dirE f dir)], [aI (checkE s)], [aI (whenE (isB ((dirN f dir).l) s) 7)], [aI (whenE (decide ((((dirN f dir).l).length : Int) ≥ 256)) 12)], [aI (whenE true 1)]])]) (args := [.sl 1 false ([(dirE f dir), (checkE s), (whenE (isB ((dirN f dir).l) s) 7), (whenE (decide ((((dirN f dir).l).length : Int) ≥ 256)) 12), (whenE true 1)].map intA)]) ⟨first_lit5 (dirE f dir) (checkE s) (whenE (isB ((dirN f dir).l) s) 7) (whenE (decide ((((dirN f dir).l).length : Int) ≥ 256)) 12) (whenE true 1), trivial⟩ (first_spec [(dirE f dir), (checkE s), (whenE (isB ((dirN f dir).l) s) 7), (whenE (decide ((((dirN f dir).l).length : Int) ≥ 256)) 12), (whenE true 1)] (by simp)) <|
 .r 1 <| .frz 4 [4, 5, 6, 7, 8, 9, 11, 40, 50, 55] [5, 6, 7, 8] [b1 = b1] ⟨rfl, trivial⟩ <|
 .frz 5 [4, 5, 6, 7, 8, 9, 11, 40, 50, 55] [6, 7, 8] [b2 = b2] ⟨rfl, trivial⟩ <|
 .frz 6 [4, 5, 6, 7, 8, 9, 11, 40, 50, 55] [7, 8] [b3 = b3] ⟨rfl, trivial⟩ <|
 .lent 3 <| .r 3 <| .lop (lcR Try.prog 7) ((37, [.agg [.sl 5 false (f.l.map nodA), aI f.next], aI (firstE [(dirE f dir), (checkE s), (whenE (isB ((dirN f dir).l) s) 7), (whenE (decide ((((dirN f dir).l).length : Int) ≥ 256)) 12), (whenE true 1)]), .clo 38 [.ptr 7 b4 0, .dptr [.sl 5 false (f.l.map nodA), aI f.next], .dptr [aI dir], .dptr [aS s]]], some 62), .box b4 31 [aI f.next, aI n.kind, aI 1, aS n.text, .sl 2 false (n.l.map entA)]) (fun (_ : Unit) σ => (σ.put (some 62) (.tup [.agg [.sl 5 false ((if firstE [(dirE f dir), (checkE s), (whenE (isB ((dirN f dir).l) s) 7), (whenE (decide ((((dirN f dir).l).length : Int) ≥ 256)) 12), (whenE true 1)] = 0 then addF f dir s (addN f n) else f).l.map nodA), aI ((if firstE [(dirE f dir), (checkE s), (whenE (isB ((dirN f dir).l) s) 7), (whenE (decide ((((dirN f dir).l).length : Int) ≥ 256)) 12), (whenE true 1)] = 0 then addF f dir s (addN f n) else f).next)], aI (firstE [(dirE f dir), (checkE s), (whenE (isB ((dirN f dir).l) s) 7), (whenE (decide ((((dirN f dir).l).length : Int) ≥ 256)) 12), (whenE true 1)])])).setB 7 gone) (rule_lent (args' := [.agg [.sl 5 false (f.l.map nodA), aI f.next], aI (firstE [(dirE f dir), (checkE s), (whenE (isB ((dirN f dir).l) s) 7), (whenE (decide ((((dirN f dir).l).length : Int) ≥ 256)) 12), (whenE true 1)]), .clo 38 [.ptr 7 b4 0, .dptr [.sl 5 false (f.l.map nodA), aI f.next], .dptr [aI dir], .dptr [aS s]]]) ⟨Sub.refl _, Sub.refl _, Sub.refl _, trivial⟩ (unless1_spec (firstE [(dirE f dir), (checkE s), (whenE (isB ((dirN f dir).l) s) 7), (whenE (decide ((((dirN f dir).l).length : Int) ≥ 256)) 12), (whenE true 1)]) f dir s (addN f n) b4 okf hp hs ⟨okf.1, hx⟩)) fun _ =>
 .run 4 [b5 = b5] ⟨rfl, trivial⟩ <|
 .fin (x := .tup [.agg [.sl 5 false ((if firstE [(dirE f dir), (checkE s), (whenE (isB ((dirN f dir).l) s) 7), (whenE (decide ((((dirN f dir).l).length : Int) ≥ 256)) 12), (whenE true 1)] = 0 then addF f dir s (addN f n) else f).l.map nodA), aI ((if firstE [(dirE f dir), (checkE s), (whenE (isB ((dirN f dir).l) s) 7), (whenE (decide ((((dirN f dir).l).length : Int) ≥ 256)) 12), (whenE true 1)] = 0 then addF f dir s (addN f n) else f).next)], aI (firstE [(dirE f dir), (checkE s), (whenE (isB ((dirN f dir).l) s) 7), (whenE (decide ((((dirN f dir).l).length : Int) ≥ 256)) 12), (whenE true 1)])]) (r := .tup [.agg (fsyA (if addErr f dir s n = 0 then addF f dir s (addN f n) else f)), aI (addErr f dir s n)]) [b5 = b5] ⟨rfl, trivial⟩ (by
    have e : addErr f dir s n = firstE [(dirE f dir), (checkE s), (whenE (isB ((dirN f dir).l) s) 7), (whenE (decide ((((dirN f dir).l).length : Int) ≥ 256)) 12), (whenE true 1)] := by
      unfold addErr
      simp only [q1, q3, Bool.true_or, Bool.false_or, Bool.not_true, Bool.not_false]
    rw [e]
    exact Sub.refl _))
 <| fun q3 => have q3 := notF q3; have p3 := booT q3; .run 3 [b4 = b4] ⟨rfl, trivial⟩ <|
 .val 53 (show (aI ((n.l.map entA).length : Int) : AV) = aI (n.l.length : Int) from by rw [List.length_map]) <| .r 2 <| .call (when_spec (decide ((n.l.length : Int) > 0)) 1) <|
 .r 1 <| .callS (args0 := [.sl 1 true ([[aI (dirE f dir)], [aI (checkE s)], [aI (whenE (isB ((dirN f dir).l) s) 7)], [aI (whenE (decide ((((dirN f dir).l).length : Int) ≥ 256)) 12)], [aI (whenE (decide ((n.l.length : Int) > 0)) 1)]])]) (args := [.sl 1 false ([(dirE f dir), (checkE s), (whenE (isB ((dirN f dir).l) s) 7), (whenE (decide ((((dirN f dir).l).length : Int) ≥ 256)) 12), (whenE (decide ((n.l.length : Int) > 0)) 1)].map intA)]) ⟨first_lit5 (dirE f dir) (checkE s) (whenE (isB ((dirN f dir).l) s) 7) (whenE (decide ((((dirN f dir).l).length : Int) ≥ 256)) 12) (whenE (decide ((n.l.length : Int) > 0)) 1), trivial⟩ (first_spec [(dirE f dir), (checkE s), (whenE (isB ((dirN f dir).l) s) 7), (whenE (decide ((((dirN f dir).l).length : Int) ≥ 256)) 12), (whenE (decide ((n.l.length : Int) > 0)) 1)] (by simp)) <|
 .r 1 <| .frz 4 [4, 5, 6, 7, 8, 9, 11, 40, 50] [5, 6, 7, 8] [b1 = b1] ⟨rfl, trivial⟩ <|
 .frz 5 [4, 5, 6, 7, 8, 9, 11, 40, 50] [6, 7, 8] [b2 = b2] ⟨rfl, trivial⟩ <|
 .frz 6 [4, 5, 6, 7, 8, 9, 11, 40, 50] [7, 8] [b3 = b3] ⟨rfl, trivial⟩ <|
 .lent 3 <| .r 3 <| .lop (lcR Try.prog 7) ((37, [.agg [.sl 5 false (f.l.map nodA), aI f.next], aI (firstE [(dirE f dir), (checkE s), (whenE (isB ((dirN f dir).l) s) 7), (whenE (decide ((((dirN f dir).l).length : Int) ≥ 256)) 12), (whenE (decide ((n.l.length : Int) > 0)) 1)]), .clo 38 [.ptr 7 b4 0, .dptr [.sl 5 false (f.l.map nodA), aI f.next], .dptr [aI dir], .dptr [aS s]]], some 62), .box b4 31 [aI f.next, aI n.kind, aI 1, aS n.text, .sl 2 false (n.l.map entA)]) (fun (_ : Unit) σ => (σ.put (some 62) (.tup [.agg [.sl 5 false ((if firstE [(dirE f dir), (checkE s), (whenE (isB ((dirN f dir).l) s) 7), (whenE (decide ((((dirN f dir).l).length : Int) ≥ 256)) 12), (whenE (decide ((n.l.length : Int) > 0)) 1)] = 0 then addF f dir s (addN f n) else f).l.map nodA), aI ((if firstE [(dirE f dir), (checkE s), (whenE (isB ((dirN f dir).l) s) 7), (whenE (decide ((((dirN f dir).l).length : Int) ≥ 256)) 12), (whenE (decide ((n.l.length : Int) > 0)) 1)] = 0 then addF f dir s (addN f n) else f).next)], aI (firstE [(dirE f dir), (checkE s), (whenE (isB ((dirN f dir).l) s) 7), (whenE (decide ((((dirN f dir).l).length : Int) ≥ 256)) 12), (whenE (decide ((n.l.length : Int) > 0)) 1)])])).setB 7 gone) (rule_lent (args' := [.agg [.sl 5 false (f.l.map nodA), aI f.next], aI (firstE [(dirE f dir), (checkE s), (whenE (isB ((dirN f dir).l) s) 7), (whenE (decide ((((dirN f dir).l).length : Int) ≥ 256)) 12), (whenE (decide ((n.l.length : Int) > 0)) 1)]), .clo 38 [.ptr 7 b4 0, .dptr [.sl 5 false (f.l.map nodA), aI f.next], .dptr [aI dir], .dptr [aS s]]]) ⟨Sub.refl _, Sub.refl _, Sub.refl _, trivial⟩ (unless1_spec (firstE [(dirE f dir), (checkE s), (whenE (isB ((dirN f dir).l) s) 7), (whenE (decide ((((dirN f dir).l).length : Int) ≥ 256)) 12), (whenE (decide ((n.l.length : Int) > 0)) 1)]) f dir s (addN f n) b4 okf hp hs ⟨okf.1, hx⟩)) fun _ =>
 .run 4 [b5 = b5] ⟨rfl, trivial⟩ <|
 .fin (x := .tup [.agg [.sl 5 false ((if firstE [(dirE f dir), (checkE s), (whenE (isB ((dirN f dir).l) s) 7), (whenE (decide ((((dirN f dir).l).length : Int) ≥ 256)) 12), (whenE (decide ((n.l.length : Int) > 0)) 1)] = 0 then addF f dir s (addN f n) else f).l.map nodA), aI ((if firstE [(dirE f dir), (checkE s), (whenE (isB ((dirN f dir).l) s) 7), (whenE (decide ((((dirN f dir).l).length : Int) ≥ 256)) 12), (whenE (decide ((n.l.length : Int) > 0)) 1)] = 0 then addF f dir s (addN f n) else f).next)], aI (firstE [(dirE f dir), (checkE s), (whenE (isB ((dirN f dir).l) s) 7), (whenE (decide ((((dirN f dir).l).length : Int) ≥ 256)) 12), (whenE (decide ((n.l.length : Int) > 0)) 1)])]) (r := .tup [.agg (fsyA (if addErr f dir s n = 0 then addF f dir s (addN f n) else f)), aI (addErr f dir s n)]) [b5 = b5] ⟨rfl, trivial⟩ (by
    have e : addErr f dir s n = firstE [(dirE f dir), (checkE s), (whenE (isB ((dirN f dir).l) s) 7), (whenE (decide ((((dirN f dir).l).length : Int) ≥ 256)) 12), (whenE (decide ((n.l.length : Int) > 0)) 1)] := by
      unfold addErr
      simp only [q1, q3, Bool.true_or, Bool.false_or, Bool.not_true, Bool.not_false]
    rw [e]
    exact Sub.refl _)) Try.func17 rfl (by kernel_rfl) (by kernel_rfl)
end Go.Proofs.Ytkepkbgebickiaa

set_option linter.unusedVariables false
set_option linter.unusedSimpArgs false
namespace Go.Proofs.Ytkepkbgebickiaa
open Go Go.RowKit Copyhold
def rootN : Nod := ⟨1, 2, 0, [], []⟩
def newF : Fsy := ⟨[rootN], 2⟩
theorem sl1_of {k : Nat} {t : Bool} {e e' : List AV} (h : SubAll e e') : Sub (.sl k t [e]) (.sl k false [e']) :=
  (Sub.sl2 (t := t) (xs := [e]) (ys := [e']) rfl (fun i a b ha hb => by
    match i, ha, hb with
    | 0, ha, hb => simp at ha hb; rw [← ha, ← hb]; exact h
    | i + 1, ha, _ => simp at ha)).trans (Sub.loose _ _ _)
theorem rootN_ok : OkN rootN := ⟨⟨by decide, by decide⟩, ⟨by decide, by decide⟩, ⟨by decide, by decide⟩, by show (0 : Nat) ≤ _; omega, by show (0 : Nat) ≤ _; omega, fun e h => by cases h⟩
theorem newF_ok : OkF newF := ⟨⟨by decide, by decide⟩, by show (1 : Nat) ≤ _; omega, fun n h => by obtain rfl := List.mem_singleton.1 h; exact rootN_ok⟩
theorem newF_rise : RiseN newF.l := by simp [newF, RiseN, RiseF]
theorem newF_rows : rowsP newF := rowsP_iff.2 ⟨by decide, by decide, fun n h => by
  obtain rfl := List.mem_singleton.1 h
  exact ⟨⟨by decide, by decide, by decide, .inl ⟨rfl, rfl, rowP_nil⟩⟩, by decide⟩, newF_rise⟩
def fullB (n : Nod) : Bool := n.kind == 2 && decide ((n.l.length : Int) > 0)
set_option maxRecDepth 100000 in
set_option maxHeartbeats 4000000 in
theorem full_spec (n : Nod) (hl : n.l.length ≤ 8796093022207) : FSpec Try.prog 41 [.agg [aI n.ino, aI n.kind, aI n.links, aS n.text, .sl 2 false (n.l.map entA)]] (aB (fullB n)) := by
  exact spec_vc (F := Try.f41) 400 (
 .new fun b1 => .r 1 <| .run 4 [b1 = b1] ⟨rfl, trivial⟩ <|
 .br 6 (n.kind == 2) (fun q1 => have p1 := beqT q1; .run 3 [b1 = b1] ⟨rfl, trivial⟩ <|
 .val 9 (show (aI ((n.l.map entA).length : Int) : AV) = aI (n.l.length : Int) from by rw [List.length_map]) <| .r 3 <| .fin (x := aB (decide ((n.l.length : Int) > 0))) (r := aB (fullB n)) [] trivial (by exact Sub.of_eq (congrArg aB (by unfold fullB; simp_all))))
 <| fun q1 => have p1 := beqF q1; .r 6 <| .fin (x := aB false) (r := aB (fullB n)) [] trivial (by exact Sub.of_eq (congrArg aB (by unfold fullB; simp_all)))) Try.func41 rfl (by kernel_rfl) (by kernel_rfl)
set_option maxRecDepth 100000 in
set_option maxHeartbeats 4000000 in
theorem unless_no (f : Fsy) (e : Int) (he : ¬ e = 0) : FSpec Try.prog 37 [.agg [.sl 5 false (f.l.map nodA), aI f.next], aI e, .any] (.tup [.agg (fsyA f), aI e]) := by
  exact spec_vc (F := Try.f37) 400 (
 .new fun b1 => .new fun b2 => .r 1 <| .r 2 <| .is 9 (show (e != 0) = true from (by simp [he])) <| .run 4 [b1 = b1, b2 = b2] ⟨rfl, rfl, trivial⟩ <|
 .fin (x := .tup [.agg [.sl 5 false (f.l.map nodA), aI f.next], aI e]) (r := .tup [.agg (fsyA f), aI e]) [b2 = b2] ⟨rfl, trivial⟩ (by exact Sub.refl _)) Try.func37 rfl (by kernel_rfl) (by kernel_rfl)
set_option maxRecDepth 100000 in
set_option maxHeartbeats 4000000 in
theorem take_no (f : Fsy) (dir : Int) (s : Txt) (hp : rowsP f) (hs : s.length ≤ 1000000) (hne : ¬ lookE f dir s = 0) (hll : (lookN f dir s).l.length ≤ 8796093022207) : FSpec Try.prog 18 [.agg [.sl 5 false (f.l.map nodA), aI f.next], aI dir, aS s] (.tup [.agg (fsyA f), aI (lookE f dir s)]) := by
  have hl := hp.1
  have hr := rows_rise hp
  exact spec_vc (F := Try.f18) 400 (
 .new fun b1 => .new fun b2 => .new fun b3 => .new fun b4 => .r 1 <| .run 3 [b1 = b1, b2 = b2, b3 = b3] ⟨rfl, rfl, rfl, trivial⟩ <|
 .call (look_spec f dir s hp hs) <|
 .r 3 <| .new fun b5 => .run 2 [b5 = b5] ⟨rfl, trivial⟩ <|
 .run 2 [b5 = b5] ⟨rfl, trivial⟩ <|
 .call (full_spec (lookN f dir s) hll) <|
 .call (when_spec (fullB (lookN f dir s)) 11) <|
 .r 1 <| .callS (args0 := [.sl 1 true ([[aI (lookE f dir s)], [aI (whenE (fullB (lookN f dir s)) 11)]])]) (args := [.sl 1 false ([(lookE f dir s), (whenE (fullB (lookN f dir s)) 11)].map intA)]) ⟨first_lit2 (lookE f dir s) (whenE (fullB (lookN f dir s)) 11), trivial⟩ (first_spec [(lookE f dir s), (whenE (fullB (lookN f dir s)) 11)] (by simp)) <|
 .r 1 <| .frz 3 [3, 4, 5, 6, 7, 8, 9] [4, 5, 6, 8] [b1 = b1] ⟨rfl, trivial⟩ <|
 .frz 4 [3, 4, 5, 6, 7, 8, 9] [5, 6, 8] [b2 = b2] ⟨rfl, trivial⟩ <|
 .frz 5 [3, 4, 5, 6, 7, 8, 9] [6, 8] [b3 = b3] ⟨rfl, trivial⟩ <|
 .frz 8 [3, 4, 5, 6, 7, 8, 9] [6] [b5 = b5] ⟨rfl, trivial⟩ <|
 .r 3 <| .callS (args0 := [.agg [.sl 5 false (f.l.map nodA), aI f.next], aI (firstE [(lookE f dir s), (whenE (fullB (lookN f dir s)) 11)]), .clo 42 [.dptr [.sl 5 false (f.l.map nodA), aI f.next], .dptr [aI dir], .dptr [aS s], .dptr [aI ((lookN f dir s).ino), aI ((lookN f dir s).kind), aI ((lookN f dir s).links), aS ((lookN f dir s).text), .sl 2 false ((lookN f dir s).l.map entA)]]]) (args := [.agg [.sl 5 false (f.l.map nodA), aI f.next], aI (firstE [(lookE f dir s), (whenE (fullB (lookN f dir s)) 11)]), .any]) ⟨Sub.refl _, Sub.refl _, Sub.any _, trivial⟩ (unless_no f (firstE [(lookE f dir s), (whenE (fullB (lookN f dir s)) 11)]) (by rw [first2, if_neg hne]; exact hne)) <|
 .run 4 [b4 = b4] ⟨rfl, trivial⟩ <|
 .fin (x := .tup [.agg [.sl 5 false (f.l.map nodA), aI f.next], aI (firstE [(lookE f dir s), (whenE (fullB (lookN f dir s)) 11)])]) (r := .tup [.agg (fsyA f), aI (lookE f dir s)]) [b4 = b4] ⟨rfl, trivial⟩ (by
    rw [show firstE [lookE f dir s, _] = lookE f dir s from by rw [first2, if_neg hne]]
    exact Sub.refl _)) Try.func18 rfl (by kernel_rfl) (by kernel_rfl)
set_option maxRecDepth 100000 in
set_option maxHeartbeats 4000000 in
theorem rnew_spec  : FSpec Try.prog 22 [] (.agg (fsyA newF)) := by
  exact spec_vc (F := Try.f22) 400 (
 .new fun b1 => .run 4 [b1 = b1] ⟨rfl, trivial⟩ <|
 .fin (x := .agg [.sl 5 true ([[aI 1, aI 2, aI 0, aS ([]), aN]]), aI 2]) (r := .agg (fsyA newF)) [b1 = b1] ⟨rfl, trivial⟩ (by exact Sub.aggs ⟨sl1_of ⟨Sub.refl _, Sub.refl _, Sub.refl _, Sub.refl _, Sub.nil _ _, trivial⟩, Sub.refl _, trivial⟩)) Try.func22 rfl (by kernel_rfl) (by kernel_rfl)
end Go.Proofs.Ytkepkbgebickiaa

set_option linter.unusedVariables false
set_option linter.unusedSimpArgs false
namespace Go.Proofs.Ytkepkbgebickiaa
open Go Go.RowKit Copyhold
theorem chk_a : checkE [97] = 0 := checkE0 ⟨by decide, by decide, by decide, by decide, by decide, by decide⟩
theorem dir_new : dirE newF 1 = 0 := rfl
theorem look_new : lookE newF 1 [97] = 6 := by
  unfold lookE
  rw [first3, chk_a, dir_new]
  rfl
theorem lookN_new : lookN newF 1 [97] = nod0 := look_no (by rw [look_new]; decide)
theorem walk_new : walkF newF [47] = (rootN, 0) := rfl
def fileN : Nod := ⟨0, 1, 0, [], []⟩
theorem fileN_ok : OkN fileN := ⟨⟨by decide, by decide⟩, ⟨by decide, by decide⟩, ⟨by decide, by decide⟩, by show (0 : Nat) ≤ _; omega, by show (0 : Nat) ≤ _; omega, fun e h => by cases h⟩
theorem file_right : nodP (addN newF fileN) := ⟨by decide, by decide, by decide, .inr ⟨.inl rfl, by decide, rfl⟩⟩
theorem add_new : addErr newF 1 [97] fileN = 0 := by
  unfold addErr
  rw [chk_a, dir_new, dP_true.2 file_right]
  rfl
theorem add_len : ((if addErr newF 1 [97] fileN = 0 then addF newF 1 [97] (addN newF fileN) else newF).l.length : Int) = 2 := by
  rw [if_pos add_new]
  rfl
set_option maxRecDepth 100000 in
set_option maxHeartbeats 4000000 in
theorem shown_spec  : FSpec Try.prog 8 [] (aB true) := by
  exact spec_vc (F := Try.f8) 400 (
 .r 1 <| .call (rnew_spec) <|
 .new fun b1 => .run 1 [b1 = b1] ⟨rfl, trivial⟩ <|
 .run 1 [b1 = b1] ⟨rfl, trivial⟩ <|
 .call (take_no newF 1 [97] newF_rows (by decide) (by rw [look_new]; decide) (by rw [lookN_new]; show (0 : Nat) ≤ _; omega)) <|
 .r 3 <| .new fun b2 => .run 2 [b2 = b2] ⟨rfl, trivial⟩ <|
 .run 1 [b1 = b1] ⟨rfl, trivial⟩ <|
 .call (walk_spec newF [47] newF_rows (by decide)) <|
 .r 3 <| .new fun b3 => .run 2 [b3 = b3] ⟨rfl, trivial⟩ <|
 .run 2 [b1 = b1] ⟨rfl, trivial⟩ <|
 .callS (args0 := [.agg [.sl 5 false (newF.l.map nodA), aI newF.next], aI 1, aS ([97]), .agg [aI 0, aI 1, aI 0, aS ([]), aN]]) (args := [.agg [.sl 5 false (newF.l.map nodA), aI newF.next], aI 1, aS ([97]), .agg [aI fileN.ino, aI fileN.kind, aI fileN.links, aS fileN.text, .sl 2 false (fileN.l.map entA)]]) ⟨Sub.refl _, Sub.refl _, Sub.refl _, Sub.aggs ⟨Sub.refl _, Sub.refl _, Sub.refl _, Sub.refl _, Sub.nil _ _, trivial⟩, trivial⟩ (add_spec newF 1 [97] fileN newF_ok newF_rows (by decide) fileN_ok (by decide)) <|
 .r 3 <| .new fun b4 => .run 2 [b4 = b4] ⟨rfl, trivial⟩ <|
 .r 3 <| .is 27 (show ((lookE newF 1 [97]) == 6) = true from (by rw [look_new]; rfl)) <| .r 4 <| .is 31 (show (((walkF newF [47]).2) == 0) = true from (by rw [walk_new]; rfl)) <| .run 5 [b3 = b3] ⟨rfl, trivial⟩ <|
 .is 36 (show (((walkF newF [47]).1.ino) == 1) = true from (by rw [walk_new]; rfl)) <| .r 4 <| .is 40 (show ((addErr newF 1 [97] fileN) == 0) = true from (by rw [add_new]; rfl)) <| .run 3 [b4 = b4] ⟨rfl, trivial⟩ <|
 .val 43 (show (aI (((if addErr newF 1 [97] fileN = 0 then addF newF 1 [97] (addN newF fileN) else newF).l.map nodA).length : Int) : AV) = aI (((if addErr newF 1 [97] fileN = 0 then addF newF 1 [97] (addN newF fileN) else newF).l).length : Int) from by rw [List.length_map]) <| .r 3 <| .fin (x := aB ((((if addErr newF 1 [97] fileN = 0 then addF newF 1 [97] (addN newF fileN) else newF).l).length : Int) == 2)) (r := aB true) [] trivial (by exact Sub.of_eq (congrArg aB (by first | rfl | (rw [add_len]; rfl) | simp [add_len])))) Try.func8 rfl (by kernel_rfl) (by kernel_rfl)
set_option maxRecDepth 100000 in
set_option maxHeartbeats 4000000 in
theorem fewr_spec (f : Fsy) (okf : OkF f) : FSpec Try.prog 9 [.agg [.sl 5 false (f.l.map nodA), aI f.next]] (aB (dP (fewF f ∧ rightP f))) := by
  exact spec_vc (F := Try.f9) 400 (
 .new fun b1 => .r 1 <| .run 1 [b1 = b1] ⟨rfl, trivial⟩ <|
 .call (few_spec f okf) <|
 .r 1 <| .br 5 (dP (fewF f)) (fun q1 => have p1 := booT q1; .run 1 [b1 = b1] ⟨rfl, trivial⟩ <|
 .call (right_spec f okf (dP_true.1 q1)) <|
 .r 2 <| .fin (x := aB (dP (rightP f))) (r := aB (dP (fewF f ∧ rightP f))) [] trivial (by exact sE (dP_true.trans ⟨fun h => ⟨dP_true.1 q1, h⟩, fun h => h.2⟩)))
 <| fun q1 => have p1 := booF q1; .r 4 <| .fin (x := aB false) (r := aB (dP (fewF f ∧ rightP f))) [] trivial (by exact sF (fun h => dP_false.1 q1 h.1))) Try.func9 rfl (by kernel_rfl) (by kernel_rfl)
end Go.Proofs.Ytkepkbgebickiaa

set_option linter.unusedVariables false
set_option linter.unusedSimpArgs false
namespace Go.Proofs.Ytkepkbgebickiaa
open Go Go.RowKit Copyhold
structure Dfi where
  f : Fsy
  i : Int
  s : Txt
  p : Txt
def dfiA (a : Dfi) : List AV := [.sl 5 false (a.f.l.map nodA), aI a.f.next, aI a.i, aS a.s, aS a.p]
def OkDfi (a : Dfi) : Prop := OkF a.f
theorem dirN_ok {f : Fsy} (okf : OkF f) (i : Int) : OkN (dirN f i) := by
  unfold dirN
  split
  · exact findN_ok okf i
  · exact nod0_ok
theorem lookN_ok {f : Fsy} (okf : OkF f) (i : Int) (s : Txt) : OkN (lookN f i s) := by
  unfold lookN
  split
  · exact findN_ok okf _
  · exact nod0_ok
theorem walkA_ok {f : Fsy} (okf : OkF f) : ∀ (l : List Txt) (n : Nod) (e : Int), OkN n → OkN (walkA f l n e).1
  | [], n, e, h => by
    unfold walkA
    split
    · exact h
    · exact nod0_ok
  | x :: r, n, e, h => by
    unfold walkA
    split
    · exact walkA_ok okf r _ _ (lookN_ok okf _ _)
    · exact nod0_ok
theorem walkF_ok {f : Fsy} (okf : OkF f) (p : Txt) : OkN (walkF f p).1 := walkA_ok okf _ _ _ (dirN_ok okf 1)
set_option maxRecDepth 100000 in
set_option maxHeartbeats 4000000 in
theorem dirsFinds_data (f : Fsy) (i : Int) (s p : Txt) (okf : OkF f) : FSpec Try.prog 3 [.agg [.sl 5 false (f.l.map nodA), aI f.next, aI i, aS s, aS p]] (aB true) := by
  exact spec_vc (F := Try.f3) 400 (
 .new fun b1 => .r 1 <| .run 2 [b1 = b1] ⟨rfl, trivial⟩ <|
 .new fun b2 => .run 1 [b2 = b2] ⟨rfl, trivial⟩ <|
 .run 3 [b1 = b1] ⟨rfl, trivial⟩ <|
 .run 3 [b1 = b1] ⟨rfl, trivial⟩ <|
 .run 3 [b1 = b1] ⟨rfl, trivial⟩ <|
 .call (shown_spec) <|
 .r 1 <| .run 1 [b2 = b2] ⟨rfl, trivial⟩ <|
 .call (fewr_spec f okf) <|
 .r 1 <| .r 3 <| .br 35 (!(dP (fewF f ∧ rightP f))) (fun q1 => have q1 := notT q1; have p1 := booF q1; .r 9 <| .r 2 <| .fin (x := aB true) (r := aB true) [] trivial (by exact Sub.of_eq (by first | rfl | (exact congrArg aB (dP_true.2 rfl)) | (simp; done))))
 <| fun q1 => have q1 := notF q1; have p1 := booT q1; have hfr := dP_true.1 q1; have hf := hfr.1; have hp := hfr.2.1; have hd := right_dir hfr.2; .r 5 <| .br 40 (decide (((s).length : Int) > 1000)) (fun q2 => have p2 := decT q2; .r 4 <| .r 2 <| .fin (x := aB true) (r := aB true) [] trivial (by exact Sub.of_eq (by first | rfl | (exact congrArg aB (dP_true.2 rfl)) | (simp; done))))
 <| fun q2 => have p2 := decF q2; .r 4 <| .br 44 (decide (((p).length : Int) > 1000)) (fun q3 => have p3 := decT q3; .r 2 <| .fin (x := aB true) (r := aB true) [] trivial (by exact Sub.of_eq (by first | rfl | (exact congrArg aB (dP_true.2 rfl)) | (simp; done))))
 <| fun q3 => have p3 := decF q3; .run 2 [b2 = b2] ⟨rfl, trivial⟩ <|
 .call (dir_spec f i hp) <|
 .r 3 <| .new fun b3 => .run 2 [b3 = b3] ⟨rfl, trivial⟩ <|
 .run 2 [b2 = b2] ⟨rfl, trivial⟩ <|
 .call (rdir_spec f i hp) <|
 .r 3 <| .new fun b4 => .run 2 [b4 = b4] ⟨rfl, trivial⟩ <|
 .run 3 [b2 = b2] ⟨rfl, trivial⟩ <|
 .call (look_spec f i s hp (by omega)) <|
 .r 3 <| .new fun b5 => .run 2 [b5 = b5] ⟨rfl, trivial⟩ <|
 .run 3 [b2 = b2] ⟨rfl, trivial⟩ <|
 .call (rlook_spec f i s hp (by omega)) <|
 .r 3 <| .new fun b6 => .run 2 [b6 = b6] ⟨rfl, trivial⟩ <|
 .run 2 [b2 = b2] ⟨rfl, trivial⟩ <|
 .call (walk_spec f p hp (by omega)) <|
 .r 3 <| .new fun b7 => .run 2 [b7 = b7] ⟨rfl, trivial⟩ <|
 .run 2 [b2 = b2] ⟨rfl, trivial⟩ <|
 .call (rwalk_spec f p hp hd (by omega)) <|
 .r 3 <| .new fun b8 => .run 2 [b8 = b8] ⟨rfl, trivial⟩ <|
 .run 2 [b3 = b3, b4 = b4] ⟨rfl, rfl, trivial⟩ <|
 .call (rnsame_spec (dirN f i) (dirN f i) (dirN_ok okf i) (dirN_ok okf i)) <|
 .r 1 <| .is 87 (show (dP ((dirN f i) = (dirN f i))) = true from (dP_true.2 rfl)) <| .run 2 [b5 = b5, b6 = b6] ⟨rfl, rfl, trivial⟩ <|
 .call (rnsame_spec (lookN f i s) (lookN f i s) (lookN_ok okf i s) (lookN_ok okf i s)) <|
 .r 2 <| .is 92 (show (dP ((lookN f i s) = (lookN f i s))) = true from (dP_true.2 rfl)) <| .run 2 [b7 = b7, b8 = b8] ⟨rfl, rfl, trivial⟩ <|
 .call (rnsame_spec (walkF f p).1 (walkF f p).1 (walkF_ok okf p) (walkF_ok okf p)) <|
 .r 2 <| .r 5 <| .is 101 (show (dP ((walkF f p).1 = (walkF f p).1)) = true from (dP_true.2 rfl)) <| .r 5 <| .is 106 (show ((dirE f i) == (dirE f i)) = true from (by simp)) <| .r 5 <| .is 111 (show ((lookE f i s) == (lookE f i s)) = true from (by simp)) <| .r 5 <| .fin (x := aB (((walkF f p).2) == ((walkF f p).2))) (r := aB true) [] trivial (by exact Sub.of_eq (by first | rfl | (exact congrArg aB (dP_true.2 rfl)) | (simp; done)))) Try.func3 rfl (by kernel_rfl) (by kernel_rfl)
theorem dirsFinds_spec (a : Dfi) (h : OkDfi a) : FSpec Try.prog 3 [.agg (dfiA a)] (aB true) := dirsFinds_data a.f a.i a.s a.p h
end Go.Proofs.Ytkepkbgebickiaa

set_option linter.unusedVariables false
set_option linter.unusedSimpArgs false
namespace Copyhold
open Go Go.RowKit Go.ChangeShapes Go.WideShapes Go.ChangeAt Go.Deep
structure Opn {α : Type} (P : Program) (W : World) (t : TypeId) (en : α → List AV) (ok : α → Prop) : Prop where
  run : ∀ (H : Type) (enc : TypeId × Value → H) (fuel : Nat) (cs : List Value) (x : DataW H × List MemPlace),
    DataW.trod enc P W 0 (fun _ => true) true fuel t cs = some x → (∀ p ∈ x.2, p.block < W.heap.size) → (∀ n ∈ DataW.weights P t x.1, n ≤ 140737488351232) →
    ∃ a, CellsR (· < W.heap.size) W (en a) cs ∧ (∀ u ∈ cs, u.oneCell' = true) ∧ ok a
section
variable {P : Program} {W : World} {t : TypeId}
theorem Opn.map {α β : Type} {en : α → List AV} {ok : α → Prop} {en' : β → List AV} {ok' : β → Prop} (h : Opn P W t en ok) (f : α → β) (he : ∀ a, en' (f a) = en a) (ho : ∀ a, ok a → ok' (f a)) : Opn P W t en' ok' := Opn.mk fun H enc fuel cs x h1 h2 h3 => by
  obtain ⟨a, g1, g2, g3⟩ := h.run H enc fuel cs x h1 h2 h3
  exact ⟨f a, by rw [he]; exact g1, g2, ho a g3⟩
theorem cells_one {D : Nat → Prop} {w : World} {a : AV} {v : Value} (h : Ra D w a v) : CellsR D w [a] [v] := ⟨rfl, fun j x u hx hu => by
  match j, hx, hu with
  | 0, hx, hu => simp at hx hu; subst hx hu; exact h
  | j + 1, hx, _ => simp at hx⟩
theorem wf_i64 {z : Int} (w : (Lit.int .i64 z).wf = true) : -9223372036854775808 ≤ z ∧ z ≤ 9223372036854775807 := by
  simpa [Lit.wf, IntKind.min, IntKind.max, IntKind.signed, IntKind.bits] using w
theorem opn_int (hu : P.underlying t = some (.int .i64)) : Opn P W t (fun n : Int => [aI n]) (fun n => -9223372036854775808 ≤ n ∧ n ≤ 9223372036854775807) := Opn.mk fun H enc fuel cs x h1 h2 h3 => by
  obtain ⟨n, rfl, rfl, hw⟩ := DataW.trod_int hu h1
  exact ⟨n, cells_one (.val _), fun u hu => by obtain rfl := List.mem_singleton.1 hu; rfl, wf_i64 hw⟩
theorem opn_string (hu : P.underlying t = some .string) : Opn P W t (fun n : List UInt8 => [aS n]) (fun n => n.length ≤ 140737488351232) := Opn.mk fun H enc fuel cs x h1 h2 h3 => by
  obtain ⟨s, rfl, rfl, _⟩ := DataW.trod_string hu h1
  exact ⟨s.data.toList, cells_one (.val _), fun u hu => by obtain rfl := List.mem_singleton.1 hu; rfl, h3 _ (by simp [DataW.weights])⟩
theorem opn_slice {α : Type} {en : α → List AV} {ok : α → Prop} {e : TypeId} {k : Nat} (h : Opn P W e en ok) (a0 : α) (hu : P.underlying t = some (.slice e)) (hc : P.cellsOf e = k) (hk : 0 < k) (hb : 16 ≤ P.bytesOf e) :
    Opn P W t (fun l : List α => [.sl k false (l.map en)]) (fun l => l.length ≤ 8796093022207 ∧ ∀ a ∈ l, ok a) := Opn.mk fun H enc fuel cs x h1 h2 h3 => by
  obtain ⟨v, rs, rfl, hr, hd⟩ := open_slice_of (k := k) (R := fun a cs => CellsR (· < W.heap.size) W (en a) cs ∧ (∀ u ∈ cs, u.oneCell' = true) ∧ ok a) hu hc hk a0 (fun n cs' y hy hl hcl hww => h.run H enc n cs' y hy hl hww) h1 h2 h3
  have hsz := rows_sized hu hd h3
  have := Nat.le_trans (Nat.mul_le_mul_left rs.length hb) hsz
  have hra : Ra (· < W.heap.size) W (.sl k false (rs.map en)) v := ra_of_slOf hr (· < W.heap.size) (fun _ h => h) (fun a _ cs _ hR => ⟨hR.2.1, hR.1⟩)
  obtain ⟨A, c, rfl⟩ := hr.shape
  refine ⟨rs, cells_one hra, fun u hu => by obtain rfl := List.mem_singleton.1 hu; rfl, by omega, fun a ha => ?_⟩
  obtain ⟨css, g1, g2, g3⟩ := hr
  obtain ⟨i, hi, rfl⟩ := List.mem_iff_getElem.1 ha
  exact (g3 i _ _ (List.getElem?_eq_getElem (by omega)) (List.getElem?_eq_getElem hi)).2.2.2
structure OpnFs {γ : Type} (P : Program) (W : World) (N : Nat) (fs : List Field) (off : Nat) (en : γ → List AV) (ok : γ → Prop) : Prop where
  run : ∀ (H : Type) (enc : TypeId × Value → H) (m : Nat) (cs : List Value) (xs : List (DataW H × List MemPlace)), cs.length = N → xs.length = fs.length →
    (∀ (i : Nat) (f : Field), fs[i]? = some f → DataW.trod enc P W 0 (fun _ => true) true m f.type ((cs.drop f.offset).take (P.cellsOf f.type)) = xs[i]?) →
    (∀ x ∈ xs, ∀ p ∈ x.2, p.block < W.heap.size) → (∀ n ∈ DataW.weightsEach P (fs.map (·.type)) (xs.map (·.1)), n ≤ 140737488351232) →
    ∃ g, CellsR (· < W.heap.size) W (en g) (cs.drop off) ∧ (∀ u ∈ cs.drop off, u.oneCell' = true) ∧ ok g
theorem opnF_nil (N : Nat) : OpnFs P W N [] N (fun _ : Unit => []) (fun _ => True) := OpnFs.mk fun H enc m cs xs h1 h2 h3 h4 h5 => by
  have : cs.drop N = [] := List.drop_eq_nil_of_le (by omega)
  rw [this]
  exact ⟨(), ⟨rfl, fun j a u ha => by simp at ha⟩, fun u hu => by simp at hu, trivial⟩
theorem cells_append {D : Nat → Prop} {w : World} {xs ys : List AV} {cs ds : List Value} (h : CellsR D w xs cs) (k : CellsR D w ys ds) : CellsR D w (xs ++ ys) (cs ++ ds) := by
  refine ⟨by simp [h.1, k.1], fun j a u ha hu => ?_⟩
  by_cases hj : j < xs.length
  · rw [List.getElem?_append_left hj] at ha
    rw [List.getElem?_append_left (by rw [h.1]; exact hj)] at hu
    exact h.2 j a u ha hu
  · rw [List.getElem?_append_right (by omega)] at ha
    rw [List.getElem?_append_right (by rw [h.1]; omega), h.1] at hu
    exact k.2 _ a u ha hu
theorem opnF_cons {α γ : Type} {N off k : Nat} {f : Field} {fs : List Field} {en : α → List AV} {ok : α → Prop} {en2 : γ → List AV} {ok2 : γ → Prop} (h : Opn P W f.type en ok) (ho : f.offset = off) (hk : P.cellsOf f.type = k)
    (hr : OpnFs P W N fs (off + k) en2 ok2) : OpnFs P W N (f :: fs) off (fun g : α × γ => en g.1 ++ en2 g.2) (fun g => ok g.1 ∧ ok2 g.2) := OpnFs.mk fun H enc m cs xs h1 h2 h3 h4 h5 => by
  obtain ⟨x0, xr, rfl⟩ : ∃ a r, xs = a :: r := by
    cases xs with
    | nil => simp at h2
    | cons a r => exact ⟨a, r, rfl⟩
  have g0 := h3 0 f rfl
  rw [ho, hk] at g0
  simp only [List.map_cons, DataW.weightsEach] at h5
  obtain ⟨a, ha, ha2, ha3⟩ := h.run H enc m _ x0 (by simpa using g0) (h4 x0 (by simp)) (fun n hn => h5 n (by simp [hn]))
  obtain ⟨g, hg, hg2, hg3⟩ := hr.run H enc m cs xr h1 (by simpa using h2) (fun i f' hf => by have := h3 (i + 1) f' (by simpa using hf); simpa using this) (fun x hx => h4 x (by simp [hx])) (fun n hn => h5 n (by simp [hn]))
  have e : cs.drop off = (cs.drop off).take k ++ cs.drop (off + k) := by
    rw [← List.drop_drop, List.take_append_drop]
  refine ⟨(a, g), ?_, ?_, ha3, hg3⟩
  · rw [e]; exact cells_append ha hg
  · intro u hu
    rw [e] at hu
    rcases List.mem_append.1 hu with h | h
    · exact ha2 u h
    · exact hg2 u h
theorem opn_struct {γ : Type} {N : Nat} {fs : Array Field} {en : γ → List AV} {ok : γ → Prop} (hu : P.underlying t = some (.struct fs)) (hc : P.cellsOf t = N) (h : OpnFs P W N fs.toList 0 en ok) : Opn P W t en ok := Opn.mk fun H enc fuel cs x h1 h2 h3 => by
  obtain ⟨xs, m, _, rfl, hl, hlen, hfl⟩ := DataW.trod_struct hu h1
  obtain ⟨g, g1, g2, g3⟩ := h.run H enc m cs xs (by rw [hl, hc]) (by simpa using hlen) (fun i f hf => hfl i f (by simpa using hf)) (fun x hx p hp => h2 p (by simp only [List.mem_flatMap]; exact ⟨x, hx, hp⟩))
    (fun n hn => h3 n (by simp only [DataW.weights, hu]; exact hn))
  exact ⟨g, by simpa using g1, by simpa using g2, g3⟩
theorem arg_struct {α : Type} {en : α → List AV} {ok : α → Prop} {fs : Array Field} {H : Type} {enc : TypeId × Value → H} {base : Nat} {v : Value} {d : DataW H} {p : List MemPlace} (h : Opn P W t en ok) (hu : P.underlying t = some (.struct fs)) (hv : Value.okWide P W .any base t v)
    (ht : ∃ fuel, DataW.trod enc P W 0 (fun _ => true) true fuel t v.cells.toList = some (d, p)) (hlt : ∀ x ∈ p, x.block < W.heap.size) (hw : ∀ n ∈ DataW.weights P t d, n ≤ 140737488351232) : ∃ a, Ra (· < W.heap.size) W (.agg (en a)) v ∧ ok a := by
  obtain ⟨cs, rfl, _⟩ := okWide_struct hu hv
  obtain ⟨fuel, ht⟩ := ht
  obtain ⟨a, g1, g2, g3⟩ := h.run H enc fuel _ _ ht hlt hw
  refine ⟨a, .agg _ _ (by have := g1.1; simp [Value.cells] at this; omega) (fun j u hj => g2 u (by have := Array.mem_of_getElem? hj; simpa [Value.cells] using this)) (fun j x u hx hj => g1.2 j x u hx (by simpa [Value.cells] using hj)), g3⟩
def RaL (D : Nat → Prop) (w : World) : List AV → List Value → Prop
  | [], [] => True
  | x :: xs, v :: vs => Ra D w x v ∧ RaL D w xs vs
  | _, _ => False
theorem raAllL {D : Nat → Prop} {w : World} : ∀ (xs : List AV) (vs : List Value), RaL D w xs vs → RaAll D w xs vs.toArray
  | [], [], _ => ⟨rfl, fun j a u ha => by simp at ha⟩
  | x :: xs, v :: vs, h => by
    have ih := raAllL xs vs h.2
    refine ⟨by have := ih.1; simp at this ⊢; exact this, fun j a u ha hu => ?_⟩
    cases j with
    | zero => simp at ha hu; subst ha hu; exact h.1
    | succ j => exact ih.2 j a u (by simpa using ha) (by simpa using hu)
  | [], _ :: _, h => h.elim
  | _ :: _, [], h => h.elim
theorem law_callsV {f : FuncId} {args : List AV} {vs : Array Value} {w : World} (h : FSpec P f args (aB true)) (hv : RaAll (· < w.heap.size) w args vs) :
    Calls P f vs w (fun e w' => e = .returned (.bool true) ∧ Below w.heap.size w w') := by
  refine (h _ w vs (fun _ h => h) hv).mono ?_
  rintro e w' ⟨v, D', rfl, hb, _, _, hr⟩
  cases hr
  exact ⟨rfl, hb⟩
end
end Copyhold
