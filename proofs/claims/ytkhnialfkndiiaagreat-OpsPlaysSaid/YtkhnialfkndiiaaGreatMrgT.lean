import Derived.Test.YtkhnialfkndiiaaGreatMrgS
set_option maxRecDepth 100000
set_option maxHeartbeats 8000000
set_option linter.unusedVariables false
set_option linter.unusedSimpArgs false
namespace Go.Proofs.YtkhnialfkndiiaaGreat
open Go Go.RowKit Copyhold
open Copyhold.Name (Srt insE delE getE isAt)
theorem first_p {a : Int} {l : List Int} (h : ¬ a = 0) : firstE (a :: l) = a := by unfold firstE; rw [List.find?_cons, show (a != 0) = true from by simpa using h]; rfl
theorem first_z {a : Int} {l : List Int} (h : a = 0) : firstE (a :: l) = firstE l := by unfold firstE; rw [List.find?_cons, show (a != 0) = false from by simpa using h]
theorem less_away {f : Fsy} {d : Int} {s : Txt} {n : Nod} (h : findN (leaveF f d s) n.ino = n) : lessF (leaveF f d s) n.ino = awayF f d s n := by
 unfold lessF awayF
 rw [h]
 by_cases hl : n.links ≤ 1
 ·rw [if_pos hl, if_pos (by omega)]
 ·rw [if_neg hl, if_neg (by omega)]
theorem radd_spec (f : Fsy) (d : Int) (s : Txt) (n : Nod) (okf : OkF f) (hp : rowsP f) (hs : s.length ≤ 1000000) (okn : OkN n) (hx : f.next < 9223372036854775807) : FSpec Tryz.prog 35 [.agg (fsyA f), aI d, aS s, .agg (nodA n)] (.tup [.agg (fsyA (if addErr f d s n = 0 then addF f d s (addN f n) else f)), aI (addErr f d s n)]) := by
 have hl := hp.1
 have hr := rows_rise hp
 exact spec_vc (F := Tryz.f35) 400 (
 .new fun b1 => .new fun b2 => .new fun b3 => .r 1 <| .run 2 [b1 = b1] rt1 <|
 .call (rdir_spec f d hp) <|
 .r 3 <| .new fun b4 => .run 2 [b4 = b4] rt1 <|
 .r 2 <| .br 23 ((dirE f d) != 0) (fun q1 => have p1 := bneT q1; .run 4 [b1 = b1, b3 = b3] rt2 <|
 .fin (x := .tup [.agg (fsyA f), aI (dirE f d)]) (r := .tup [.agg (fsyA (if addErr f d s n = 0 then addF f d s (addN f n) else f)), aI (addErr f d s n)]) [b3 = b3] rt1 (by
  have e : addErr f d s n = dirE f d := by
   unfold addErr
   rw [first_p (bneT q1)]
  rw [if_neg (by rw [e]; exact bneT q1), e]
  exact sR))
 <| fun q1 => have p1 := bneF q1; .r 1 <| .call (rcheck_spec s (by omega)) <|
 .r 1 <| .r 2 <| .br 29 ((checkE s) != 0) (fun q2 => have p2 := bneT q2; .run 4 [b1 = b1, b3 = b3] rt2 <|
 .fin (x := .tup [.agg (fsyA f), aI (checkE s)]) (r := .tup [.agg (fsyA (if addErr f d s n = 0 then addF f d s (addN f n) else f)), aI (addErr f d s n)]) [b3 = b3] rt1 (by
  have e : addErr f d s n = checkE s := by
   unfold addErr
   rw [first_z (bneF q1)]
   rw [first_p (bneT q2)]
  rw [if_neg (by rw [e]; exact bneT q2), e]
  exact sR))
 <| fun q2 => have p2 := bneF q2; .run 3 [b4 = b4] rt1 <|
 .call (rnfind_spec (dirN f d).l s (by have := (dir_srt hp d).2; omega)) <|
 .r 5 <| .r 1 <| .br 39 (isB (dirN f d).l s) (fun q3 => have p3 := booT q3; .run 3 [b1 = b1, b3 = b3] rt2 <|
 .fin (x := .tup [.agg (fsyA f), aI 7]) (r := .tup [.agg (fsyA (if addErr f d s n = 0 then addF f d s (addN f n) else f)), aI (addErr f d s n)]) [b3 = b3] rt1 (by
  have e : addErr f d s n = 7 := by
   unfold addErr
   rw [first_z (bneF q1)]
   rw [first_z (bneF q2)]
   rw [first_p (by simp only [q3, Bool.true_or, Bool.false_or, Bool.or_true, Bool.or_false, Bool.not_true, Bool.not_false]; decide)]
   simp only [q3, Bool.true_or, Bool.false_or, Bool.or_true, Bool.or_false, Bool.not_true, Bool.not_false]
   rfl
  rw [if_neg (by rw [e]; decide), e]
  exact sR))
 <| fun q3 => have p3 := booF q3; .run 3 [b1 = b1] rt1 <|
 .val 43 (show (aI ((f.l.map nodA).length : Int) : AV) = aI (f.l.length : Int) from by rw [List.length_map]) <| .r 2 <| .br 45 (decide ((f.l.length : Int) ≥ 256)) (fun q4 => have p4 := decT q4; .r 5 <| .run 3 [b1 = b1, b3 = b3] rt2 <|
 .fin (x := .tup [.agg (fsyA f), aI 12]) (r := .tup [.agg (fsyA (if addErr f d s n = 0 then addF f d s (addN f n) else f)), aI (addErr f d s n)]) [b3 = b3] rt1 (by
  have e : addErr f d s n = 12 := by
   unfold addErr
   rw [first_z (bneF q1)]
   rw [first_z (bneF q2)]
   rw [first_z (by simp only [q3, Bool.true_or, Bool.false_or, Bool.or_true, Bool.or_false, Bool.not_true, Bool.not_false]; rfl)]
   rw [first_p (by simp only [q4, Bool.true_or, Bool.false_or, Bool.or_true, Bool.or_false, Bool.not_true, Bool.not_false]; decide)]
   simp only [q4, Bool.true_or, Bool.false_or, Bool.or_true, Bool.or_false, Bool.not_true, Bool.not_false]
   rfl
  rw [if_neg (by rw [e]; decide), e]
  exact sR))
 <| fun q4 => have p4 := decF q4; .run 3 [b4 = b4] rt1 <|
 .val 48 (show (aI (((dirN f d).l.map entA).length : Int) : AV) = aI (((dirN f d).l).length : Int) from by rw [List.length_map]) <| .r 2 <| .br 50 (decide ((((dirN f d).l).length : Int) ≥ 256)) (fun q5 => have p5 := decT q5; .run 3 [b1 = b1, b3 = b3] rt2 <|
 .fin (x := .tup [.agg (fsyA f), aI 12]) (r := .tup [.agg (fsyA (if addErr f d s n = 0 then addF f d s (addN f n) else f)), aI (addErr f d s n)]) [b3 = b3] rt1 (by
  have e : addErr f d s n = 12 := by
   unfold addErr
   rw [first_z (bneF q1)]
   rw [first_z (bneF q2)]
   rw [first_z (by simp only [q3, Bool.true_or, Bool.false_or, Bool.or_true, Bool.or_false, Bool.not_true, Bool.not_false]; rfl)]
   rw [first_p (by simp only [q4, q5, Bool.true_or, Bool.false_or, Bool.or_true, Bool.or_false, Bool.not_true, Bool.not_false]; decide)]
   simp only [q4, q5, Bool.true_or, Bool.false_or, Bool.or_true, Bool.or_false, Bool.not_true, Bool.not_false]
   rfl
  rw [if_neg (by rw [e]; decide), e]
  exact sR))
 <| fun q5 => have p5 := decF q5; .run 4 [b1 = b1, b2 = b2] rt2 <|
 .run 2 [b2 = b2] rt1 <|
 .run 1 [b2 = b2] rt1 <|
 .callS (args0 := [.agg [aI f.next, aI n.kind, aI 1, aS n.text, .sl 2 false (n.l.map entA)]]) (args := [.agg [aI ((addN f n).ino), aI ((addN f n).kind), aI ((addN f n).links), aS ((addN f n).text), .sl 2 false ((addN f n).l.map entA)]]) sr1 (rnright_spec (addN f n) (addN_ok okf okn)) <|
 .r 1 <| .r 3 <| .br 60 (!(dP (nodP (addN f n)))) (fun q6 => have q6 := notT q6; have p6 := booF q6; .r 5 <| .run 3 [b1 = b1, b3 = b3] rt2 <|
 .fin (x := .tup [.agg (fsyA f), aI 1]) (r := .tup [.agg (fsyA (if addErr f d s n = 0 then addF f d s (addN f n) else f)), aI (addErr f d s n)]) [b3 = b3] rt1 (by
  have e : addErr f d s n = 1 := by
   unfold addErr
   rw [first_z (bneF q1)]
   rw [first_z (bneF q2)]
   rw [first_z (by simp only [q3, Bool.true_or, Bool.false_or, Bool.or_true, Bool.or_false, Bool.not_true, Bool.not_false]; rfl)]
   rw [first_z (by simp only [q4, q5, Bool.true_or, Bool.false_or, Bool.or_true, Bool.or_false, Bool.not_true, Bool.not_false]; rfl)]
   rw [first_p (by simp only [q6, Bool.true_or, Bool.false_or, Bool.or_true, Bool.or_false, Bool.not_true, Bool.not_false]; decide)]
   simp only [q6, Bool.true_or, Bool.false_or, Bool.or_true, Bool.or_false, Bool.not_true, Bool.not_false]
   rfl
  rw [if_neg (by rw [e]; decide), e]
  exact sR))
 <| fun q6 => have q6 := notF q6; have p6 := booT q6; .run 3 [b2 = b2] rt1 <|
 .val 63 (show (aI ((n.l.map entA).length : Int) : AV) = aI (n.l.length : Int) from by rw [List.length_map]) <| .r 2 <| .br 65 (decide ((n.l.length : Int) > 0)) (fun q7 => have p7 := decT q7; .run 3 [b1 = b1, b3 = b3] rt2 <|
 .fin (x := .tup [.agg (fsyA f), aI 1]) (r := .tup [.agg (fsyA (if addErr f d s n = 0 then addF f d s (addN f n) else f)), aI (addErr f d s n)]) [b3 = b3] rt1 (by
  have e : addErr f d s n = 1 := by
   unfold addErr
   rw [first_z (bneF q1)]
   rw [first_z (bneF q2)]
   rw [first_z (by simp only [q3, Bool.true_or, Bool.false_or, Bool.or_true, Bool.or_false, Bool.not_true, Bool.not_false]; rfl)]
   rw [first_z (by simp only [q4, q5, Bool.true_or, Bool.false_or, Bool.or_true, Bool.or_false, Bool.not_true, Bool.not_false]; rfl)]
   rw [first_p (by simp only [q6, q7, Bool.true_or, Bool.false_or, Bool.or_true, Bool.or_false, Bool.not_true, Bool.not_false]; decide)]
   simp only [q6, q7, Bool.true_or, Bool.false_or, Bool.or_true, Bool.or_false, Bool.not_true, Bool.not_false]
   rfl
  rw [if_neg (by rw [e]; decide), e]
  exact sR))
 <| fun q7 => have p7 := decF q7; have hnl : n.l = [] := List.eq_nil_of_length_eq_zero (by omega); .ord [0, 1, 2, 3, 4, 6, 5, 7, 8, 9] <| .run 6 [b1 = b1, b2 = b2, b2 = b2] rt3 <|
 .call (rentered_spec f d s f.next okf hp hs) <|
 .callS (args0 := [.agg [.sl 5 false ((enterF f d s f.next).l.map nodA), aI ((enterF f d s f.next).next)], .agg [aI f.next, aI n.kind, aI 1, aS n.text, .sl 2 false (n.l.map entA)]]) (args := [.agg [.sl 5 false ((enterF f d s f.next).l.map nodA), aI ((enterF f d s f.next).next)], .agg [aI ((withL (addN f n) []).ino), aI ((withL (addN f n) []).kind), aI ((withL (addN f n) []).links), aS ((withL (addN f n) []).text), .sl 2 false ((withL (addN f n) []).l.map entA)]]) ⟨sR, Sub.aggs ⟨sR, sR, sR, sR, Sub.of_eq (by rw [hnl]; rfl), trivial⟩, trivial⟩ (rput_spec (enterF f d s f.next) (withL (addN f n) []) ⟨okf.1, hx⟩ (by have := enter_le f d s f.next; omega) (enter_rise hp d s f.next)) <|
 .run 2 [b3 = b3] rt1 <|
 .fin (x := .tup [.agg [.sl 5 false ((putF (enterF f d s f.next) (withL (addN f n) [])).l.map nodA), aI ((putF (enterF f d s f.next) (withL (addN f n) [])).next)], aI 0]) (r := .tup [.agg (fsyA (if addErr f d s n = 0 then addF f d s (addN f n) else f)), aI (addErr f d s n)]) [b3 = b3] rt1 (by
  have e : addErr f d s n = 0 := by
   unfold addErr
   rw [first_z (bneF q1)]
   rw [first_z (bneF q2)]
   rw [first_z (by simp only [q3, Bool.true_or, Bool.false_or, Bool.or_true, Bool.or_false, Bool.not_true, Bool.not_false]; rfl)]
   rw [first_z (by simp only [q4, q5, Bool.true_or, Bool.false_or, Bool.or_true, Bool.or_false, Bool.not_true, Bool.not_false]; rfl)]
   rw [first_z (by simp only [q6, q7, Bool.true_or, Bool.false_or, Bool.or_true, Bool.or_false, Bool.not_true, Bool.not_false]; rfl)]
   rfl
  rw [if_pos e, e]
  exact sR)) Tryz.func35 rfl (by kernel_rfl) (by kernel_rfl)
theorem rgive_spec (f : Fsy) (d : Int) (s : Txt) (i : Int) (okf : OkF f) (hp : rowsP f) (hs : s.length ≤ 1000000) : FSpec Tryz.prog 44 [.agg (fsyA f), aI d, aS s, aI i] (.tup [.agg (fsyA (giveF f d s i)), aI (giveErr f d s i)]) := by
 have hl := hp.1
 have hr := rows_rise hp
 have hlk := find_links hp i
 exact spec_vc (F := Tryz.f44) 400 (
 .new fun b1 => .new fun b2 => .r 1 <| .run 2 [b1 = b1] rt1 <|
 .call (rdir_spec f d hp) <|
 .r 3 <| .new fun b3 => .run 2 [b3 = b3] rt1 <|
 .r 2 <| .br 24 ((dirE f d) != 0) (fun q1 => have p1 := bneT q1; .run 4 [b1 = b1, b2 = b2] rt2 <|
 .fin (x := .tup [.agg (fsyA f), aI (dirE f d)]) (r := .tup [.agg (fsyA (giveF f d s i)), aI (giveErr f d s i)]) [b2 = b2] rt1 (by
  have e : giveErr f d s i = dirE f d := by
   unfold giveErr
   rw [first_p (bneT q1)]
  rw [show giveF f d s i = f from if_neg (by rw [e]; exact bneT q1), e]
  exact sR))
 <| fun q1 => have p1 := bneF q1; .run 2 [b1 = b1] rt1 <|
 .call (rfind_spec f i (by omega)) <|
 .r 3 <| .new fun b4 => .run 2 [b4 = b4] rt1 <|
 .r 2 <| .br 34 (!(findB f i)) (fun q2 => have q2 := notT q2; have p2 := booF q2; .run 3 [b1 = b1, b2 = b2] rt2 <|
 .fin (x := .tup [.agg (fsyA f), aI 6]) (r := .tup [.agg (fsyA (giveF f d s i)), aI (giveErr f d s i)]) [b2 = b2] rt1 (by
  have e : giveErr f d s i = 6 := by
   unfold giveErr
   rw [first_z (bneF q1)]
   rw [first_p (by simp only [q2, Bool.true_or, Bool.false_or, Bool.or_true, Bool.or_false, Bool.not_true, Bool.not_false]; decide)]
   simp only [q2, Bool.true_or, Bool.false_or, Bool.or_true, Bool.or_false, Bool.not_true, Bool.not_false]
   rfl
  rw [show giveF f d s i = f from if_neg (by rw [e]; decide), e]
  exact sR))
 <| fun q2 => have q2 := notF q2; have p2 := booT q2; .run 3 [b4 = b4] rt1 <|
 .br 38 (((findN f i).kind) == 2) (fun q3 => have p3 := beqT q3; .run 3 [b1 = b1, b2 = b2] rt2 <|
 .fin (x := .tup [.agg (fsyA f), aI 9]) (r := .tup [.agg (fsyA (giveF f d s i)), aI (giveErr f d s i)]) [b2 = b2] rt1 (by
  have e : giveErr f d s i = 9 := by
   unfold giveErr
   rw [first_z (bneF q1)]
   rw [first_z (by simp only [q2, Bool.true_or, Bool.false_or, Bool.or_true, Bool.or_false, Bool.not_true, Bool.not_false]; rfl)]
   rw [first_p (by simp only [q3, Bool.true_or, Bool.false_or, Bool.or_true, Bool.or_false, Bool.not_true, Bool.not_false]; decide)]
   simp only [q3, Bool.true_or, Bool.false_or, Bool.or_true, Bool.or_false, Bool.not_true, Bool.not_false]
   rfl
  rw [show giveF f d s i = f from if_neg (by rw [e]; decide), e]
  exact sR))
 <| fun q3 => have p3 := beqF q3; .r 1 <| .call (rcheck_spec s (by omega)) <|
 .r 1 <| .r 2 <| .br 43 ((checkE s) != 0) (fun q4 => have p4 := bneT q4; .run 4 [b1 = b1, b2 = b2] rt2 <|
 .fin (x := .tup [.agg (fsyA f), aI (checkE s)]) (r := .tup [.agg (fsyA (giveF f d s i)), aI (giveErr f d s i)]) [b2 = b2] rt1 (by
  have e : giveErr f d s i = checkE s := by
   unfold giveErr
   rw [first_z (bneF q1)]
   rw [first_z (by simp only [q2, Bool.true_or, Bool.false_or, Bool.or_true, Bool.or_false, Bool.not_true, Bool.not_false]; rfl)]
   rw [first_z (by simp only [q3, Bool.true_or, Bool.false_or, Bool.or_true, Bool.or_false, Bool.not_true, Bool.not_false]; rfl)]
   rw [first_p (bneT q4)]
  rw [show giveF f d s i = f from if_neg (by rw [e]; exact bneT q4), e]
  exact sR))
 <| fun q4 => have p4 := bneF q4; .run 3 [b3 = b3] rt1 <|
 .call (rnfind_spec (dirN f d).l s (by have := (dir_srt hp d).2; omega)) <|
 .r 5 <| .r 1 <| .br 53 (isB (dirN f d).l s) (fun q5 => have p5 := booT q5; .run 3 [b1 = b1, b2 = b2] rt2 <|
 .fin (x := .tup [.agg (fsyA f), aI 7]) (r := .tup [.agg (fsyA (giveF f d s i)), aI (giveErr f d s i)]) [b2 = b2] rt1 (by
  have e : giveErr f d s i = 7 := by
   unfold giveErr
   rw [first_z (bneF q1)]
   rw [first_z (by simp only [q2, Bool.true_or, Bool.false_or, Bool.or_true, Bool.or_false, Bool.not_true, Bool.not_false]; rfl)]
   rw [first_z (by simp only [q3, Bool.true_or, Bool.false_or, Bool.or_true, Bool.or_false, Bool.not_true, Bool.not_false]; rfl)]
   rw [first_z (bneF q4)]
   rw [first_p (by simp only [q5, Bool.true_or, Bool.false_or, Bool.or_true, Bool.or_false, Bool.not_true, Bool.not_false]; decide)]
   simp only [q5, Bool.true_or, Bool.false_or, Bool.or_true, Bool.or_false, Bool.not_true, Bool.not_false]
   rfl
  rw [show giveF f d s i = f from if_neg (by rw [e]; decide), e]
  exact sR))
 <| fun q5 => have p5 := booF q5; .run 3 [b3 = b3] rt1 <|
 .val 57 (show (aI (((dirN f d).l.map entA).length : Int) : AV) = aI (((dirN f d).l).length : Int) from by rw [List.length_map]) <| .r 2 <| .br 59 (decide ((((dirN f d).l).length : Int) ≥ 256)) (fun q6 => have p6 := decT q6; .r 4 <| .run 3 [b1 = b1, b2 = b2] rt2 <|
 .fin (x := .tup [.agg (fsyA f), aI 12]) (r := .tup [.agg (fsyA (giveF f d s i)), aI (giveErr f d s i)]) [b2 = b2] rt1 (by
  have e : giveErr f d s i = 12 := by
   unfold giveErr
   rw [first_z (bneF q1)]
   rw [first_z (by simp only [q2, Bool.true_or, Bool.false_or, Bool.or_true, Bool.or_false, Bool.not_true, Bool.not_false]; rfl)]
   rw [first_z (by simp only [q3, Bool.true_or, Bool.false_or, Bool.or_true, Bool.or_false, Bool.not_true, Bool.not_false]; rfl)]
   rw [first_z (bneF q4)]
   rw [first_z (by simp only [q5, Bool.true_or, Bool.false_or, Bool.or_true, Bool.or_false, Bool.not_true, Bool.not_false]; rfl)]
   rw [first_p (by simp only [q6, Bool.true_or, Bool.false_or, Bool.or_true, Bool.or_false, Bool.not_true, Bool.not_false]; decide)]
   simp only [q6, Bool.true_or, Bool.false_or, Bool.or_true, Bool.or_false, Bool.not_true, Bool.not_false]
   rfl
  rw [show giveF f d s i = f from if_neg (by rw [e]; decide), e]
  exact sR))
 <| fun q6 => have p6 := decF q6; .run 4 [b4 = b4] rt1 <|
 .br 63 (decide (((findN f i).links) ≥ 64)) (fun q7 => have p7 := decT q7; .run 3 [b1 = b1, b2 = b2] rt2 <|
 .fin (x := .tup [.agg (fsyA f), aI 12]) (r := .tup [.agg (fsyA (giveF f d s i)), aI (giveErr f d s i)]) [b2 = b2] rt1 (by
  have e : giveErr f d s i = 12 := by
   unfold giveErr
   rw [first_z (bneF q1)]
   rw [first_z (by simp only [q2, Bool.true_or, Bool.false_or, Bool.or_true, Bool.or_false, Bool.not_true, Bool.not_false]; rfl)]
   rw [first_z (by simp only [q3, Bool.true_or, Bool.false_or, Bool.or_true, Bool.or_false, Bool.not_true, Bool.not_false]; rfl)]
   rw [first_z (bneF q4)]
   rw [first_z (by simp only [q5, Bool.true_or, Bool.false_or, Bool.or_true, Bool.or_false, Bool.not_true, Bool.not_false]; rfl)]
   rw [first_p (by simp only [q6, q7, Bool.true_or, Bool.false_or, Bool.or_true, Bool.or_false, Bool.not_true, Bool.not_false]; decide)]
   simp only [q6, q7, Bool.true_or, Bool.false_or, Bool.or_true, Bool.or_false, Bool.not_true, Bool.not_false]
   rfl
  rw [show giveF f d s i = f from if_neg (by rw [e]; decide), e]
  exact sR))
 <| fun q7 => have p7 := decF q7; .run 5 [b4 = b4, rng .i64 (((findN f i).links) + 1), b4 = b4] ⟨rfl, rng64 (by omega) (by omega), rfl, trivial⟩ <|
 .ord [0, 1, 2, 3, 5, 4, 6, 7, 8] <| .run 5 [b1 = b1, b4 = b4] rt2 <|
 .call (rentered_spec f d s i okf hp hs) <|
 .callS (args0 := [.agg [.sl 5 false ((enterF f d s i).l.map nodA), aI ((enterF f d s i).next)], .agg [aI ((findN f i).ino), aI ((findN f i).kind), aI (((findN f i).links) + 1), aS ((findN f i).text), .sl 2 false ((findN f i).l.map entA)]]) (args := [.agg [.sl 5 false ((enterF f d s i).l.map nodA), aI ((enterF f d s i).next)], .agg [aI ((giveN (findN f i)).ino), aI ((giveN (findN f i)).kind), aI ((giveN (findN f i)).links), aS ((giveN (findN f i)).text), .sl 2 false ((giveN (findN f i)).l.map entA)]]) sr2 (rput_spec (enterF f d s i) (giveN (findN f i)) (find_I64 okf hp i) (by have := enter_le f d s i; omega) (enter_rise hp d s i)) <|
 .run 2 [b2 = b2] rt1 <|
 .fin (x := .tup [.agg [.sl 5 false ((putF (enterF f d s i) (giveN (findN f i))).l.map nodA), aI ((putF (enterF f d s i) (giveN (findN f i))).next)], aI 0]) (r := .tup [.agg (fsyA (giveF f d s i)), aI (giveErr f d s i)]) [b2 = b2] rt1 (by
  have e : giveErr f d s i = 0 := by
   unfold giveErr
   rw [first_z (bneF q1)]
   rw [first_z (by simp only [q2, Bool.true_or, Bool.false_or, Bool.or_true, Bool.or_false, Bool.not_true, Bool.not_false]; rfl)]
   rw [first_z (by simp only [q3, Bool.true_or, Bool.false_or, Bool.or_true, Bool.or_false, Bool.not_true, Bool.not_false]; rfl)]
   rw [first_z (bneF q4)]
   rw [first_z (by simp only [q5, Bool.true_or, Bool.false_or, Bool.or_true, Bool.or_false, Bool.not_true, Bool.not_false]; rfl)]
   rw [first_z (by simp only [q6, q7, Bool.true_or, Bool.false_or, Bool.or_true, Bool.or_false, Bool.not_true, Bool.not_false]; rfl)]
   rfl
  rw [show giveF f d s i = giveF0 f d s i (findN f i) from if_pos e, e]
  exact sR)) Tryz.func44 rfl (by kernel_rfl) (by kernel_rfl)
end Go.Proofs.YtkhnialfkndiiaaGreat

namespace Go.Proofs.YtkhnialfkndiiaaGreat
open Go Go.RowKit Copyhold
open Copyhold.Name (Srt insE delE getE isAt)
theorem take_less {f : Fsy} {d : Int} {s : Txt} (okf : OkF f) (hp : rowsP f) (h : lookE f d s = 0) (hz : ¬ ((lookN f d s).l.length : Int) > 0) :
  OkF (leaveF f d s) ∧ rowsP (leaveF f d s) ∧ lessF (leaveF f d s) (lookN f d s).ino = awayF f d s (lookN f d s) ∧ takeErr f d s = 0 := by
 obtain ⟨e, j, n, a1, a2, a3, a4, a5⟩ := (look_iff hp).1 h
 have hn := (look_at a1 a2 a3 a4 a5).2
 rw [hn] at hz ⊢
 have hnl : n.l = [] := List.eq_nil_of_length_eq_zero (by omega)
 have hnj := at_ino a5
 have hne : ¬ j = d := fun ej => by
  rw [ej, a1] at a5
  obtain rfl := Option.some.inj a5
  rw [hnl] at a4
  cases a4
 obtain ⟨l1, l2, l3, l4, l5⟩ := leave_all (s := s) okf hp a1 a2
 have hfl : fullB n = false := by unfold fullB; rw [hnl]; simp
 refine ⟨l1, l2, less_away ?_, ?_⟩
 ·refine (at_BN ?_).2
  rw [hnj, l5, if_neg hne]
  exact a5
 ·unfold takeErr
  rw [first2, if_pos h, hn, hfl]
  rfl
theorem take_full {f : Fsy} {d : Int} {s : Txt} (hp : rowsP f) (h : lookE f d s = 0) (hz : ((lookN f d s).l.length : Int) > 0) : takeErr f d s = 11 := by
 obtain ⟨e, j, n, a1, a2, a3, a4, a5⟩ := (look_iff hp).1 h
 have hn := (look_at a1 a2 a3 a4 a5).2
 unfold takeErr
 rw [first2, if_pos h]
 rw [hn] at hz ⊢
 have hk : n.kind = 2 := by
  by_cases hk : n.kind = 2
  ·exact hk
  ·rw [file_none (rows_at hp a5).1 hk] at hz
   simp at hz
 unfold fullB whenE
 rw [hk, decide_eq_true hz]
 rfl
theorem take_err {f : Fsy} {d : Int} {s : Txt} (h : ¬ lookE f d s = 0) : takeErr f d s = lookE f d s := by unfold takeErr; rw [first2, if_neg h]
theorem rtake_spec (f : Fsy) (d : Int) (s : Txt) (okf : OkF f) (hp : rowsP f) (hs : s.length ≤ 1000000) : FSpec Tryz.prog 94 [.agg (fsyA f), aI d, aS s] (.tup [.agg (fsyA (takeF f d s)), aI (takeErr f d s)]) := by
 have hl := hp.1
 have hr := rows_rise hp
 exact spec_vc (F := Tryz.f94) 400 (
 .new fun b1 => .new fun b2 => .r 1 <| .run 3 [b1 = b1] rt1 <|
 .call (rlook_spec f d s hp hs) <|
 .r 3 <| .new fun b3 => .run 2 [b3 = b3] rt1 <|
 .r 2 <| .br 18 ((lookE f d s) != 0) (fun q1 => have p1 := bneT q1; .run 4 [b1 = b1, b2 = b2] rt2 <|
 .fin (x := .tup [.agg (fsyA f), aI (lookE f d s)]) (r := .tup [.agg (fsyA (takeF f d s)), aI (takeErr f d s)]) [b2 = b2] rt1 (by
  have e := take_err (bneT q1)
  have e2 : takeF f d s = f := if_neg (by rw [e]; exact bneT q1)
  rw [e2, e]
  exact sR))
 <| fun q1 => have p1 := bneF q1; have h0 : lookE f d s = 0 := bneF q1; .run 3 [b3 = b3] rt1 <|
 .val 23 (show (aI (((lookN f d s).l.map entA).length : Int) : AV) = aI (((lookN f d s).l).length : Int) from by rw [List.length_map]) <| .r 1 <| .br 24 (decide ((((lookN f d s).l).length : Int) > 0)) (fun q2 => have p2 := decT q2; .run 3 [b1 = b1, b2 = b2] rt2 <|
 .fin (x := .tup [.agg (fsyA f), aI 11]) (r := .tup [.agg (fsyA (takeF f d s)), aI (takeErr f d s)]) [b2 = b2] rt1 (by
  have e := take_full hp h0 (by omega)
  have e2 : takeF f d s = f := if_neg (by rw [e]; decide)
  rw [e2, e]
  exact sR))
 <| fun q2 => have p2 := decF q2; have htl := take_less okf hp h0 (by omega); .ord [0, 1, 2, 4, 5, 3, 6, 7, 8] <| .run 5 [b1 = b1, b3 = b3] rt2 <|
 .call (rleft_spec f d s okf hp hs) <|
 .call (rless_spec (leaveF f d s) (lookN f d s).ino htl.1 htl.2.1) <|
 .run 2 [b2 = b2] rt1 <|
 .fin (x := .tup [.agg [.sl 5 false ((lessF (leaveF f d s) (lookN f d s).ino).l.map nodA), aI ((lessF (leaveF f d s) (lookN f d s).ino).next)], aI 0]) (r := .tup [.agg (fsyA (takeF f d s)), aI (takeErr f d s)]) [b2 = b2] rt1 (by
  have e2 : takeF f d s = awayF f d s (lookN f d s) := if_pos htl.2.2.2
  rw [e2, htl.2.2.2, ← htl.2.2.1]
  exact sR)) Tryz.func94 rfl (by kernel_rfl) (by kernel_rfl)
end Go.Proofs.YtkhnialfkndiiaaGreat
