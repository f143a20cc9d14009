import Derived.Test.YtkhnialfkndiiaaGreatMrgR
set_option maxRecDepth 100000
set_option maxHeartbeats 8000000
set_option linter.unusedVariables false
set_option linter.unusedSimpArgs false
namespace Go.Proofs.YtkhnialfkndiiaaGreat
open Go Go.RowKit Copyhold
theorem move_spec (f : Fsy) (dir : Int) (s : Txt) (to : Int) (t : Txt) (okf : OkF f) (hp : rowsP f) (hs : s.length ≤ 1000000) (ht : t.length ≤ 1000000) : FSpec Tryz.prog 85 [.agg (fsyA f), aI dir, aS s, aI to, aS t] (.tup [.agg (fsyA (movF f dir s to t)), aI (movErr f dir s to t)]) := by
 have hl := hp.1
 have hr := rows_rise hp
 exact spec_vc (F := Tryz.f85) 400 (
 .new fun b1 => .new fun b2 => .new fun b3 => .new fun b4 => .new fun b5 => .new fun b6 => .r 1 <| .run 3 [b1 = b1, b2 = b2, b3 = b3] rt3 <|
 .call (look_spec f dir s hp hs) <|
 .r 3 <| .new fun b7 => .run 2 [b7 = b7] rt1 <|
 .run 2 [b1 = b1, b4 = b4] rt2 <|
 .call (dir_spec f to hp) <|
 .r 3 <| .new fun b8 => .run 2 [b8 = b8] rt1 <|
 .ord [0, 1, 2, 4, 5, 6, 3, 7, 8, 9, 10, 11] <| .run 6 [b5 = b5, b1 = b1, b4 = b4, b7 = b7] rt4 <|
 .call (check_spec t (by omega)) <|
 .call (within_spec f to (lookN f dir s) okf (by omega) hr) <|
 .call (when_spec (withinB f to (lookN f dir s)) 13) <|
 .r 1 <| .callS (args0 := [.sl 1 true ([[aI (lookE f dir s)], [aI (dirE f to)], [aI (checkE t)], [aI (whenE (withinB f to (lookN f dir s)) 13)]])]) (args := [.sl 1 false ([(lookE f dir s), (dirE f to), (checkE t), (whenE (withinB f to (lookN f dir s)) 13)].map intA)]) ⟨first_lit4 (lookE f dir s) (dirE f to) (checkE t) (whenE (withinB f to (lookN f dir s)) 13), trivial⟩ (first_spec [(lookE f dir s), (dirE f to), (checkE t), (whenE (withinB f to (lookN f dir s)) 13)] (by simp)) <|
 .r 1 <| .r 2 <| .br 45 ((firstE [(lookE f dir s), (dirE f to), (checkE t), (whenE (withinB f to (lookN f dir s)) 13)]) != 0) (fun q1 => have p1 := bneT q1; .run 4 [b1 = b1, b6 = b6] rt2 <|
 .fin (x := .tup [.agg (fsyA f), aI (firstE [(lookE f dir s), (dirE f to), (checkE t), (whenE (withinB f to (lookN f dir s)) 13)])]) (r := .tup [.agg (fsyA (movF f dir s to t)), aI (movErr f dir s to t)]) [b6 = b6] rt1 (by
  have h1 : ¬ mov1 f dir s to t = 0 := (bneT q1)
  have e1 : movErr f dir s to t = mov1 f dir s to t := if_neg h1
  have e2 : movF f dir s to t = f := if_neg h1
  rw [e1, e2]
  exact sR))
 <| fun q1 => have p1 := bneF q1; .run 3 [b8 = b8, b5 = b5] rt2 <|
 .call (nfind_spec ((dirN f to).l) t (by have := (dir_srt hp to).2; omega) (dir_srt hp to).1) <|
 .r 3 <| .new fun b9 => .run 2 [b9 = b9] rt1 <|
 .run 2 [b1 = b1] rt1 <|
 .call (tfind_spec f (getI ((dirN f to).l) t) (by omega) hr) <|
 .r 3 <| .new fun b10 => .run 2 [b10 = b10] rt1 <|
 .run 3 [b9 = b9] rt1 <|
 .br 64 (!(isB ((dirN f to).l) t)) (fun q2 => have q2 := notT q2; have p2 := booF q2; .run 4 [b4 = b4, b2 = b2] rt2 <|
 .br 70 (to != dir) (fun q3 => have p3 := bneT q3; .run 3 [b8 = b8] rt1 <|
 .val 73 (show (aI (((dirN f to).l.map entA).length : Int) : AV) = aI (((dirN f to).l).length : Int) from by rw [List.length_map]) <| .r 2 <| .call (when_spec (decide ((((dirN f to).l).length : Int) ≥ 256)) 12) <|
 .r 1 <| .frz 5 [5, 6, 7, 8, 9, 10, 11, 12, 13, 17, 18, 45, 64, 70] [6, 7, 8, 9, 10, 12, 17, 18] [b1 = b1] rt1 <|
 .frz 17 [5, 6, 7, 8, 9, 10, 11, 12, 13, 17, 18, 45, 64, 70] [6, 7, 8, 9, 10, 12, 18] [b9 = b9] rt1 <|
 .frz 8 [5, 6, 7, 8, 9, 10, 11, 12, 13, 17, 18, 45, 64, 70] [6, 7, 9, 10, 12, 18] [b4 = b4] rt1 <|
 .frz 9 [5, 6, 7, 8, 9, 10, 11, 12, 13, 17, 18, 45, 64, 70] [6, 7, 10, 12, 18] [b5 = b5] rt1 <|
 .frz 18 [5, 6, 7, 8, 9, 10, 11, 12, 13, 17, 18, 45, 64, 70] [6, 7, 10, 12] [b10 = b10] rt1 <|
 .frz 6 [5, 6, 7, 8, 9, 10, 11, 12, 13, 17, 18, 45, 64, 70] [7, 10, 12] [b2 = b2] rt1 <|
 .frz 7 [5, 6, 7, 8, 9, 10, 11, 12, 13, 17, 18, 45, 64, 70] [10, 12] [b3 = b3] rt1 <|
 .frz 12 [5, 6, 7, 8, 9, 10, 11, 12, 13, 17, 18, 45, 64, 70] [10] [b7 = b7] rt1 <|
 .r 3 <| .callS (args0 := [.agg (fsyA f), aI (whenE (decide ((((dirN f to).l).length : Int) ≥ 256)) 12), .clo 123 [.dptr (fsyA f), .dptr [aB (isB ((dirN f to).l) t)], .dptr [aI to], .dptr [aS t], .dptr [aI ((findN f (getI ((dirN f to).l) t)).ino), aI ((findN f (getI ((dirN f to).l) t)).kind), aI ((findN f (getI ((dirN f to).l) t)).links), aS ((findN f (getI ((dirN f to).l) t)).text), .sl 2 false ((findN f (getI ((dirN f to).l) t)).l.map entA)], .dptr [aI dir], .dptr [aS s], .dptr [aI ((lookN f dir s).ino), aI ((lookN f dir s).kind), aI ((lookN f dir s).links), aS ((lookN f dir s).text), .sl 2 false ((lookN f dir s).l.map entA)]]]) (args := [.agg (fsyA f), aI (whenE (decide ((((dirN f to).l).length : Int) ≥ 256)) 12), .clo 123 [.dptr (fsyA f), .dptr [aB (isB ((dirN f to).l) t)], .dptr [aI to], .dptr [aS t], .dptr [aI ((findN f (getI (dirN f to).l t)).ino), aI ((findN f (getI (dirN f to).l t)).kind), aI ((findN f (getI (dirN f to).l t)).links), aS ((findN f (getI (dirN f to).l t)).text), .sl 2 false ((findN f (getI (dirN f to).l t)).l.map entA)], .dptr [aI dir], .dptr [aS s], .dptr [aI ((lookN f dir s).ino), aI ((lookN f dir s).kind), aI ((lookN f dir s).links), aS ((lookN f dir s).text), .sl 2 false ((lookN f dir s).l.map entA)]]]) sr3 (unless4_spec (whenE (decide ((((dirN f to).l).length : Int) ≥ 256)) 12) f dir s to t (lookN f dir s) (isB ((dirN f to).l) t) (findN f (getI (dirN f to).l t)) okf hp hs ht (look_node okf hp).1.1 (find_I64 okf hp _) (by have := find_links hp (getI (dirN f to).l t); omega) (fun he => mov_H okf hp (show mov1 f dir s to t = 0 from bneF q1) (fun hb => absurd hb (by show ¬ isB (dirN f to).l t = true; rw [q2]; decide)))) <|
 .run 4 [b6 = b6] rt1 <|
 .fin (x := .tup [.agg [.sl 5 false ((if whenE (decide ((((dirN f to).l).length : Int) ≥ 256)) 12 = 0 then mov0 f dir s to t (lookN f dir s) (isB ((dirN f to).l) t) (findN f (getI (dirN f to).l t)) else f).l.map nodA), aI ((if whenE (decide ((((dirN f to).l).length : Int) ≥ 256)) 12 = 0 then mov0 f dir s to t (lookN f dir s) (isB ((dirN f to).l) t) (findN f (getI (dirN f to).l t)) else f).next)], aI (whenE (decide ((((dirN f to).l).length : Int) ≥ 256)) 12)]) (r := .tup [.agg (fsyA (movF f dir s to t)), aI (movErr f dir s to t)]) [b6 = b6] rt1 (by
  have h1 : mov1 f dir s to t = 0 := (bneF q1)
  have e1 : movErr f dir s to t = mov2 f dir s to t := if_pos h1
  rw [e1]
  have hb : movB f to t = false := q2
  have e3 : mov2 f dir s to t = whenE (decide ((((dirN f to).l).length : Int) ≥ 256)) 12 := by unfold mov2; rw [if_pos hb]; simp only [q3]; rfl
  have e2 : movF f dir s to t = if mov2 f dir s to t = 0 then mov0 f dir s to t (lookN f dir s) (movB f to t) (findN f (movI f to t)) else f := by unfold movF; rw [if_pos h1, if_neg (fun h => by rw [hb] at h; cases h.1)]
  rw [e2, e3]
  exact sR))
 <| fun q3 => have p3 := bneF q3; .r 5 <| .call (when_spec false 12) <|
 .r 1 <| .frz 5 [5, 6, 7, 8, 9, 10, 11, 12, 13, 17, 18, 45, 64, 70, 75] [6, 7, 8, 9, 10, 12, 17, 18] [b1 = b1] rt1 <|
 .frz 17 [5, 6, 7, 8, 9, 10, 11, 12, 13, 17, 18, 45, 64, 70, 75] [6, 7, 8, 9, 10, 12, 18] [b9 = b9] rt1 <|
 .frz 8 [5, 6, 7, 8, 9, 10, 11, 12, 13, 17, 18, 45, 64, 70, 75] [6, 7, 9, 10, 12, 18] [b4 = b4] rt1 <|
 .frz 9 [5, 6, 7, 8, 9, 10, 11, 12, 13, 17, 18, 45, 64, 70, 75] [6, 7, 10, 12, 18] [b5 = b5] rt1 <|
 .frz 18 [5, 6, 7, 8, 9, 10, 11, 12, 13, 17, 18, 45, 64, 70, 75] [6, 7, 10, 12] [b10 = b10] rt1 <|
 .frz 6 [5, 6, 7, 8, 9, 10, 11, 12, 13, 17, 18, 45, 64, 70, 75] [7, 10, 12] [b2 = b2] rt1 <|
 .frz 7 [5, 6, 7, 8, 9, 10, 11, 12, 13, 17, 18, 45, 64, 70, 75] [10, 12] [b3 = b3] rt1 <|
 .frz 12 [5, 6, 7, 8, 9, 10, 11, 12, 13, 17, 18, 45, 64, 70, 75] [10] [b7 = b7] rt1 <|
 .r 3 <| .callS (args0 := [.agg (fsyA f), aI (whenE false 12), .clo 123 [.dptr (fsyA f), .dptr [aB (isB ((dirN f to).l) t)], .dptr [aI to], .dptr [aS t], .dptr [aI ((findN f (getI ((dirN f to).l) t)).ino), aI ((findN f (getI ((dirN f to).l) t)).kind), aI ((findN f (getI ((dirN f to).l) t)).links), aS ((findN f (getI ((dirN f to).l) t)).text), .sl 2 false ((findN f (getI ((dirN f to).l) t)).l.map entA)], .dptr [aI dir], .dptr [aS s], .dptr [aI ((lookN f dir s).ino), aI ((lookN f dir s).kind), aI ((lookN f dir s).links), aS ((lookN f dir s).text), .sl 2 false ((lookN f dir s).l.map entA)]]]) (args := [.agg (fsyA f), aI (whenE false 12), .clo 123 [.dptr (fsyA f), .dptr [aB (isB ((dirN f to).l) t)], .dptr [aI to], .dptr [aS t], .dptr [aI ((findN f (getI (dirN f to).l t)).ino), aI ((findN f (getI (dirN f to).l t)).kind), aI ((findN f (getI (dirN f to).l t)).links), aS ((findN f (getI (dirN f to).l t)).text), .sl 2 false ((findN f (getI (dirN f to).l t)).l.map entA)], .dptr [aI dir], .dptr [aS s], .dptr [aI ((lookN f dir s).ino), aI ((lookN f dir s).kind), aI ((lookN f dir s).links), aS ((lookN f dir s).text), .sl 2 false ((lookN f dir s).l.map entA)]]]) sr3 (unless4_spec (whenE false 12) f dir s to t (lookN f dir s) (isB ((dirN f to).l) t) (findN f (getI (dirN f to).l t)) okf hp hs ht (look_node okf hp).1.1 (find_I64 okf hp _) (by have := find_links hp (getI (dirN f to).l t); omega) (fun he => mov_H okf hp (show mov1 f dir s to t = 0 from bneF q1) (fun hb => absurd hb (by show ¬ isB (dirN f to).l t = true; rw [q2]; decide)))) <|
 .run 4 [b6 = b6] rt1 <|
 .fin (x := .tup [.agg [.sl 5 false ((if whenE false 12 = 0 then mov0 f dir s to t (lookN f dir s) (isB ((dirN f to).l) t) (findN f (getI (dirN f to).l t)) else f).l.map nodA), aI ((if whenE false 12 = 0 then mov0 f dir s to t (lookN f dir s) (isB ((dirN f to).l) t) (findN f (getI (dirN f to).l t)) else f).next)], aI (whenE false 12)]) (r := .tup [.agg (fsyA (movF f dir s to t)), aI (movErr f dir s to t)]) [b6 = b6] rt1 (by
  have h1 : mov1 f dir s to t = 0 := (bneF q1)
  have e1 : movErr f dir s to t = mov2 f dir s to t := if_pos h1
  rw [e1]
  have hb : movB f to t = false := q2
  have e3 : mov2 f dir s to t = whenE false 12 := by unfold mov2; rw [if_pos hb]; simp only [q3]; rfl
  have e2 : movF f dir s to t = if mov2 f dir s to t = 0 then mov0 f dir s to t (lookN f dir s) (movB f to t) (findN f (movI f to t)) else f := by unfold movF; rw [if_pos h1, if_neg (fun h => by rw [hb] at h; cases h.1)]
  rw [e2, e3]
  exact sR))
 <| fun q2 => have q2 := notF q2; have p2 := booT q2; .run 5 [b7 = b7] rt1 <|
 .br 77 ((getI ((dirN f to).l) t) == ((lookN f dir s).ino)) (fun q4 => have p4 := beqT q4; .run 3 [b1 = b1, b6 = b6] rt2 <|
 .fin (x := .tup [.agg (fsyA f), aI 0]) (r := .tup [.agg (fsyA (movF f dir s to t)), aI (movErr f dir s to t)]) [b6 = b6] rt1 (by
  have h1 : mov1 f dir s to t = 0 := (bneF q1)
  have e1 : movErr f dir s to t = mov2 f dir s to t := if_pos h1
  rw [e1]
  have hb : movB f to t = true := q2
  have hi : movI f to t = (lookN f dir s).ino := (beqT q4)
  have e3 : mov2 f dir s to t = 0 := by unfold mov2; rw [if_neg (by rw [hb]; decide), if_pos hi]
  have e2 : movF f dir s to t = f := by unfold movF; rw [if_pos h1, if_pos ⟨hb, hi⟩]
  rw [e2, e3]
  exact sR))
 <| fun q4 => have p4 := beqF q4; .run 2 [b7 = b7, b10 = b10] rt2 <|
 .call (over_spec (lookN f dir s) (findN f (getI (dirN f to).l t)) (findN_ok okf _).2.2.2.2.1) <|
 .r 1 <| .frz 5 [5, 6, 7, 8, 9, 10, 11, 12, 13, 17, 18, 45, 64, 77] [6, 7, 8, 9, 10, 12, 17, 18] [b1 = b1] rt1 <|
 .frz 17 [5, 6, 7, 8, 9, 10, 11, 12, 13, 17, 18, 45, 64, 77] [6, 7, 8, 9, 10, 12, 18] [b9 = b9] rt1 <|
 .frz 8 [5, 6, 7, 8, 9, 10, 11, 12, 13, 17, 18, 45, 64, 77] [6, 7, 9, 10, 12, 18] [b4 = b4] rt1 <|
 .frz 9 [5, 6, 7, 8, 9, 10, 11, 12, 13, 17, 18, 45, 64, 77] [6, 7, 10, 12, 18] [b5 = b5] rt1 <|
 .frz 18 [5, 6, 7, 8, 9, 10, 11, 12, 13, 17, 18, 45, 64, 77] [6, 7, 10, 12] [b10 = b10] rt1 <|
 .frz 6 [5, 6, 7, 8, 9, 10, 11, 12, 13, 17, 18, 45, 64, 77] [7, 10, 12] [b2 = b2] rt1 <|
 .frz 7 [5, 6, 7, 8, 9, 10, 11, 12, 13, 17, 18, 45, 64, 77] [10, 12] [b3 = b3] rt1 <|
 .frz 12 [5, 6, 7, 8, 9, 10, 11, 12, 13, 17, 18, 45, 64, 77] [10] [b7 = b7] rt1 <|
 .r 3 <| .callS (args0 := [.agg (fsyA f), aI (overE (lookN f dir s) (findN f (getI (dirN f to).l t))), .clo 123 [.dptr (fsyA f), .dptr [aB (isB ((dirN f to).l) t)], .dptr [aI to], .dptr [aS t], .dptr [aI ((findN f (getI ((dirN f to).l) t)).ino), aI ((findN f (getI ((dirN f to).l) t)).kind), aI ((findN f (getI ((dirN f to).l) t)).links), aS ((findN f (getI ((dirN f to).l) t)).text), .sl 2 false ((findN f (getI ((dirN f to).l) t)).l.map entA)], .dptr [aI dir], .dptr [aS s], .dptr [aI ((lookN f dir s).ino), aI ((lookN f dir s).kind), aI ((lookN f dir s).links), aS ((lookN f dir s).text), .sl 2 false ((lookN f dir s).l.map entA)]]]) (args := [.agg (fsyA f), aI (overE (lookN f dir s) (findN f (getI (dirN f to).l t))), .clo 123 [.dptr (fsyA f), .dptr [aB (isB ((dirN f to).l) t)], .dptr [aI to], .dptr [aS t], .dptr [aI ((findN f (getI (dirN f to).l t)).ino), aI ((findN f (getI (dirN f to).l t)).kind), aI ((findN f (getI (dirN f to).l t)).links), aS ((findN f (getI (dirN f to).l t)).text), .sl 2 false ((findN f (getI (dirN f to).l t)).l.map entA)], .dptr [aI dir], .dptr [aS s], .dptr [aI ((lookN f dir s).ino), aI ((lookN f dir s).kind), aI ((lookN f dir s).links), aS ((lookN f dir s).text), .sl 2 false ((lookN f dir s).l.map entA)]]]) sr3 (unless4_spec (overE (lookN f dir s) (findN f (getI (dirN f to).l t))) f dir s to t (lookN f dir s) (isB ((dirN f to).l) t) (findN f (getI (dirN f to).l t)) okf hp hs ht (look_node okf hp).1.1 (find_I64 okf hp _) (by have := find_links hp (getI (dirN f to).l t); omega) (fun he => mov_H okf hp (show mov1 f dir s to t = 0 from bneF q1) (fun hb => he))) <|
 .run 4 [b6 = b6] rt1 <|
 .fin (x := .tup [.agg [.sl 5 false ((if overE (lookN f dir s) (findN f (getI (dirN f to).l t)) = 0 then mov0 f dir s to t (lookN f dir s) (isB ((dirN f to).l) t) (findN f (getI (dirN f to).l t)) else f).l.map nodA), aI ((if overE (lookN f dir s) (findN f (getI (dirN f to).l t)) = 0 then mov0 f dir s to t (lookN f dir s) (isB ((dirN f to).l) t) (findN f (getI (dirN f to).l t)) else f).next)], aI (overE (lookN f dir s) (findN f (getI (dirN f to).l t)))]) (r := .tup [.agg (fsyA (movF f dir s to t)), aI (movErr f dir s to t)]) [b6 = b6] rt1 (by
  have h1 : mov1 f dir s to t = 0 := (bneF q1)
  have e1 : movErr f dir s to t = mov2 f dir s to t := if_pos h1
  rw [e1]
  have hb : movB f to t = true := q2
  have hi : ¬ movI f to t = (lookN f dir s).ino := (beqF q4)
  have e3 : mov2 f dir s to t = overE (lookN f dir s) (findN f (movI f to t)) := by unfold mov2; rw [if_neg (by rw [hb]; decide), if_neg hi]
  have e2 : movF f dir s to t = if mov2 f dir s to t = 0 then mov0 f dir s to t (lookN f dir s) (movB f to t) (findN f (movI f to t)) else f := by unfold movF; rw [if_pos h1, if_neg (fun h => hi h.2)]
  rw [e2, e3]
  exact sR)) Tryz.func85 rfl (by kernel_rfl) (by kernel_rfl)
end Go.Proofs.YtkhnialfkndiiaaGreat

namespace Go.Proofs.YtkhnialfkndiiaaGreat
open Go Go.RowKit Copyhold
open Copyhold.Name (Srt insE delE getE isAt)
theorem less_posN {s : Txt} : ∀ {l : List NEnt}, Srt l → ∀ (k : Nat) (x : NEnt), l[k]? = some x → (x.1 < s ↔ k < Name.pos l s)
 | a :: r, h, k, x, hx => by
  by_cases ha : a.1 < s
  ·rw [Name.pos_lt ha]
   cases k with
   | zero =>
    simp at hx
    subst hx
    exact ⟨fun _ => by omega, fun _ => ha⟩
   | succ k =>
    have := less_posN (s := s) (Name.Srt.tail h) k x (by simpa using hx)
    rw [this]
    omega
  ·have h0 := Name.pos_ge h ha
   rw [h0]
   refine ⟨fun hlt => ?_, fun h => absurd h (Nat.not_lt_zero _)⟩
   have hc : (a :: r).countP (fun y => decide (y.1 < s)) = 0 := h0
   have := List.countP_eq_zero.1 hc x (List.mem_of_getElem? hx)
   simp [hlt] at this
theorem less_posE {l : List Ent} {s : Txt} {k : Nat} {x : Ent} (h : Srt (lI l)) (hx : l[k]? = some x) : Op.bytesLess x.name s = true ↔ k < posI l s := by
 rw [less_eq, decide_eq_true_iff]
 exact less_posN h k (x.name, x.ino) (by unfold lI; rw [List.getElem?_map, hx]; rfl)
theorem checkE_10 {s : Txt} (h : ¬ checkE s = 0) : checkE s = 10 := by
 unfold checkE at h ⊢
 split
 ·rename_i h1; rw [if_pos h1] at h; exact absurd rfl h
 ·rfl
def lvK (l : List Ent) (s : Txt) (k : Nat) : List Ent := (l.take k).filter fun e => !(e.name == s)
theorem lvK_yes {l : List Ent} {s : Txt} {k : Nat} {x : Ent} (h : l[k]? = some x) (q : (!(x.name == s)) = true) : lvK l s (k + 1) = lvK l s k ++ [x] := by
 unfold lvK; rw [take_step h, List.filter_append]; simp [List.filter_cons, q]
theorem lvK_no {l : List Ent} {s : Txt} {k : Nat} {x : Ent} (h : l[k]? = some x) (q : (!(x.name == s)) = false) : lvK l s (k + 1) = lvK l s k := by
 unfold lvK; rw [take_step h, List.filter_append]; simp [List.filter_cons, q]
theorem lvK_le (l : List Ent) (s : Txt) (k : Nat) : (lvK l s k).length ≤ l.length := Nat.le_trans (List.length_filter_le _ _) (by rw [List.length_take]; omega)
theorem lvK_all {l : List Ent} {s : Txt} {k : Nat} (h : Srt (lI l)) (hk : l.length ≤ k) : lvK l s k = delL l s := by
 apply lI_inj
 rw [lI_del h]
 unfold lvK delE lI
 rw [take_all hk, List.filter_map]
 rfl
theorem leave_yes {l : List Ent} {s : Txt} (h : isB l s = true) : leaveE l s = 0 := if_pos h
theorem leave_no {l : List Ent} {s : Txt} (h : isB l s = false) : delL l s = l ∧ leaveE l s = 6 := ⟨if_neg (by rw [h]; decide), if_neg (by rw [h]; decide)⟩
theorem renter_spec (l : List Ent) (s : Txt) (n : Int) (hl : l.length ≤ 256) (hr : Name.Srt (lI l)) (hs : s.length ≤ 1000000) : FSpec Tryz.prog 107 [.sl 2 false (l.map entA), aS s, aI n] (.tup [.sl 2 false ((entL l s n).map entA), aI (entE l s n)]) := by
 exact spec_vc (F := Tryz.f107) 400 (
 .r 2 <| .r 1 <| .call (rcheck_spec s (by omega)) <|
 .r 1 <| .r 2 <| .call (rnfind_spec l s (by omega)) <|
 .r 5 <| .r 2 <| .br 22 ((checkE s) != 0) (fun q1 => have p1 := bneT q1; .r 4 <| .fin (x := .tup [.sl 2 false (l.map entA), aI (checkE s)]) (r := .tup [.sl 2 false ((entL l s n).map entA), aI (entE l s n)]) [] trivial (by
  have e : entE l s n = checkE s := by
   unfold entE
   rw [if_pos q1]
   exact (checkE_10 (bneT q1)).symm
  have e2 : entL l s n = l := if_neg (by rw [e]; exact bneT q1)
  rw [e2, e]
  exact Sub.tups ⟨by first | exact sR | exact Sub.loose _ _ _, sR, trivial⟩))
 <| fun q1 => have p1 := bneF q1; .r 2 <| .br 26 (decide (n < 1)) (fun q2 => have p2 := decT q2; .r 3 <| .fin (x := .tup [.sl 2 false (l.map entA), aI 1]) (r := .tup [.sl 2 false ((entL l s n).map entA), aI (entE l s n)]) [] trivial (by
  have e : entE l s n = 1 := by
   unfold entE
   rw [if_neg (by rw [q1]; decide)]
   rw [if_pos (by omega)]
  have e2 : entL l s n = l := if_neg (by rw [e]; decide)
  rw [e2, e]
  exact Sub.tups ⟨by first | exact sR | exact Sub.loose _ _ _, sR, trivial⟩))
 <| fun q2 => have p2 := decF q2; .r 1 <| .br 28 (isB l s) (fun q3 => have p3 := booT q3; .r 3 <| .fin (x := .tup [.sl 2 false (l.map entA), aI 7]) (r := .tup [.sl 2 false ((entL l s n).map entA), aI (entE l s n)]) [] trivial (by
  have e : entE l s n = 7 := by
   unfold entE
   rw [if_neg (by rw [q1]; decide)]
   rw [if_neg (by omega)]
   rw [if_pos q3]
  have e2 : entL l s n = l := if_neg (by rw [e]; decide)
  rw [e2, e]
  exact Sub.tups ⟨by first | exact sR | exact Sub.loose _ _ _, sR, trivial⟩))
 <| fun q3 => have p3 := booF q3; .r 2 <| .val 31 (show (aI ((l.map entA).length : Int) : AV) = aI (l.length : Int) from by rw [List.length_map]) <| .r 1 <| .br 32 (decide ((l.length : Int) ≥ 256)) (fun q4 => have p4 := decT q4; .r 3 <| .fin (x := .tup [.sl 2 false (l.map entA), aI 12]) (r := .tup [.sl 2 false ((entL l s n).map entA), aI (entE l s n)]) [] trivial (by
  have e : entE l s n = 12 := by
   unfold entE
   rw [if_neg (by rw [q1]; decide)]
   rw [if_neg (by omega)]
   rw [if_neg (by rw [q3]; decide)]
   rw [if_pos (by omega)]
  have e2 : entL l s n = l := if_neg (by rw [e]; decide)
  rw [e2, e]
  exact Sub.tups ⟨by first | exact sR | exact Sub.loose _ _ _, sR, trivial⟩))
 <| fun q4 => have p4 := decF q4; .r 1 <| .rowNil 11 11 101 2 <| .r 1 <| let L1 : Lp (Nat × Value) := ⟨fun a1 => ⟨[(0, .sl 2 false (l.map entA)), (1, aS s), (2, aI n), (12, aI (a1.1 : Int)), (11, .rw 11 a1.2 ((l.take a1.1).length))], [(11, .row a1.2 101 2 ((l.take a1.1).map entA))]⟩, fun a1 => l.length - a1.1, fun a1 => a1.1 ≤ l.length ∧ a1.1 ≤ posI l s⟩
 .loop L1 (0, .slice none 0 0) (show 0 ≤ l.length ∧ 0 ≤ posI l s from ⟨Nat.zero_le _, Nat.zero_le _⟩) ⟨[(0, .sl 2 false (l.map entA)), (1, aS s), (2, aI n), (12, aI 0), (11, .rw 11 (.slice none 0 0) 0)], [(11, .row (.slice none 0 0) 101 2 ([]))]⟩ ⟨sR, sR, sR, Sub.of_eq (congrArg aI (by first | omega | rfl)), Sub.of_eq (congrArg (AV.rw 11 (.slice none 0 0)) (by simp)), trivial⟩ ⟨⟨_, rfl, SubB.of_eq (by simp)⟩, trivial⟩ fun a1 ha1 =>
 (fun (k : Nat) (V : Value) (hH1 : k ≤ l.length ∧ k ≤ posI l s) => .r 3 <| .val 36 (show (aI ((l.map entA).length : Int) : AV) = aI (l.length : Int) from by rw [List.length_map]) <| .r 2 <| .br 38 (decide ((k : Int) < (l.length : Int))) (fun q5 => have p5 := decT q5; .r 2 <| .idxM l entA k (m := (k : Int)) rfl (by omega) fun x1 hx1 =>
 .r 5 <| .br 46 (Op.bytesLess x1.name s) (fun q6 => have p6 := booT q6; .r 3 <| .idx k (m := (k : Int)) (xs := l.map entA) (e := entA x1) rfl (map_some hx1) <|
 .r 2 <| .app 24 V ((l.take k).map entA) ([[aS x1.name, aI x1.ino]]) (by have hq := posI_le l s; simp only [List.length_map, List.length_cons, List.length_nil, List.length_take, List.length_drop, List.length_append]; omega) (by have hq := posI_le l s; simp only [List.length_map, List.length_cons, List.length_nil, List.length_take, List.length_drop, List.length_append]; omega) fun V1 =>
 .r 1 <| .run 3 [rng .i64 ((k : Int) + 1)] ⟨rng64 (by omega) (by omega), trivial⟩ <|
 .back L1 (k, V) ((k + 1), V1) (show (k + 1) ≤ l.length ∧ (k + 1) ≤ posI l s from (by refine ⟨by omega, ?_⟩; have := (less_posE hr hx1).1 q6; omega)) (show l.length - (k + 1) < l.length - k from (by omega)) ⟨[(0, .sl 2 false (l.map entA)), (1, aS s), (2, aI n), (12, aI ((k : Int) + 1)), (11, .rw 11 V1 (((l.take k).map entA).length + ([[aS x1.name, aI x1.ino]] : List (List AV)).length))], [(11, .row V1 101 2 (((l.take k).map entA) ++ ([[aS x1.name, aI x1.ino]])))]⟩ ⟨sR, sR, sR, Sub.of_eq (congrArg aI (by first | omega | rfl)), Sub.of_eq (congrArg (AV.rw 11 V1) (by rw [take_step hx1]; simp)), trivial⟩ ⟨⟨_, rfl, SubB.of_eq (by rw [take_step hx1]; simp [entA])⟩, trivial⟩)
 <| fun q6 => have p6 := booF q6; .r 5 <| .app 24 V ((l.take k).map entA) ([[aS s, aI n]]) (by have hq := posI_le l s; simp only [List.length_map, List.length_cons, List.length_nil, List.length_take, List.length_drop, List.length_append]; omega) (by have hq := posI_le l s; simp only [List.length_map, List.length_cons, List.length_nil, List.length_take, List.length_drop, List.length_append]; omega) fun V2 =>
 .r 1 <| .r 3 <| .slc 2 false (l.map entA) (some (k : Int)) none none k ((l.map entA).length) false (.inr rfl) (.inl ⟨rfl, rfl⟩) (.inl ⟨rfl, fun h => by cases h⟩) (by first | omega | (rw [List.length_map]; omega)) (by first | omega | (rw [List.length_map]; omega)) <|
 .app 24 V2 (((l.take k).map entA) ++ ([[aS s, aI n]])) (((l.map entA).take ((l.map entA).length)).drop k) (by have hq := posI_le l s; simp only [List.length_map, List.length_cons, List.length_nil, List.length_take, List.length_drop, List.length_append]; omega) (by have hq := posI_le l s; simp only [List.length_map, List.length_cons, List.length_nil, List.length_take, List.length_drop, List.length_append]; omega) fun V3 =>
 .r 2 <| .frz 11 [6, 7] [] [V3 = V3, (((l.take k).map entA) ++ ([[aS s, aI n]])).length + (((l.map entA).take ((l.map entA).length)).drop k).length = ((((l.take k).map entA) ++ ([[aS s, aI n]])) ++ (((l.map entA).take ((l.map entA).length)).drop k)).length] ⟨rfl, (by first | rfl | (simp; done) | (simp; omega)), trivial⟩ <|
 .fin (x := .tup [.sl 2 false ((((l.take k).map entA) ++ ([[aS s, aI n]])) ++ (((l.map entA).take ((l.map entA).length)).drop k)), aI 0]) (r := .tup [.sl 2 false ((entL l s n).map entA), aI (entE l s n)]) [] trivial (by
  have e : entE l s n = 0 := by
   unfold entE
   rw [if_neg (by rw [q1]; decide)]
   rw [if_neg (by omega)]
   rw [if_neg (by rw [q3]; decide)]
   rw [if_neg (by omega)]
  have e2 : entL l s n = l.take (posI l s) ++ ⟨s, n⟩ :: l.drop (posI l s) := if_pos e
  have hk : k = posI l s := by
   have hq := posI_le l s
   by_cases h : k < posI l s
   ·have := (less_posE hr hx1).2 h; simp_all
   ·omega
  rw [e, e2, ← hk]
  first | exact Sub.tups ⟨Sub.of_eq (congrArg (AV.sl 2 false) (by simp [entA, List.map_take, List.map_drop, take_all])), sR, trivial⟩ | exact Sub.tups ⟨(Sub.of_eq (congrArg (AV.sl 2 true) (by simp [entA, List.map_take, List.map_drop, take_all]))).trans (Sub.loose _ _ _), sR, trivial⟩))
 <| fun q5 => have p5 := decF q5; .r 8 <| .r 5 <| .app 24 V ((l.take k).map entA) ([[aS s, aI n]]) (by have hq := posI_le l s; simp only [List.length_map, List.length_cons, List.length_nil, List.length_take, List.length_drop, List.length_append]; omega) (by have hq := posI_le l s; simp only [List.length_map, List.length_cons, List.length_nil, List.length_take, List.length_drop, List.length_append]; omega) fun V4 =>
 .r 1 <| .r 3 <| .slc 2 false (l.map entA) (some (k : Int)) none none k ((l.map entA).length) false (.inr rfl) (.inl ⟨rfl, rfl⟩) (.inl ⟨rfl, fun h => by cases h⟩) (by first | omega | (rw [List.length_map]; omega)) (by first | omega | (rw [List.length_map]; omega)) <|
 .app 24 V4 (((l.take k).map entA) ++ ([[aS s, aI n]])) (((l.map entA).take ((l.map entA).length)).drop k) (by have hq := posI_le l s; simp only [List.length_map, List.length_cons, List.length_nil, List.length_take, List.length_drop, List.length_append]; omega) (by have hq := posI_le l s; simp only [List.length_map, List.length_cons, List.length_nil, List.length_take, List.length_drop, List.length_append]; omega) fun V5 =>
 .r 2 <| .frz 11 [6, 7] [] [V5 = V5, (((l.take k).map entA) ++ ([[aS s, aI n]])).length + (((l.map entA).take ((l.map entA).length)).drop k).length = ((((l.take k).map entA) ++ ([[aS s, aI n]])) ++ (((l.map entA).take ((l.map entA).length)).drop k)).length] ⟨rfl, (by first | rfl | (simp; done) | (simp; omega)), trivial⟩ <|
 .fin (x := .tup [.sl 2 false ((((l.take k).map entA) ++ ([[aS s, aI n]])) ++ (((l.map entA).take ((l.map entA).length)).drop k)), aI 0]) (r := .tup [.sl 2 false ((entL l s n).map entA), aI (entE l s n)]) [] trivial (by
  have e : entE l s n = 0 := by
   unfold entE
   rw [if_neg (by rw [q1]; decide)]
   rw [if_neg (by omega)]
   rw [if_neg (by rw [q3]; decide)]
   rw [if_neg (by omega)]
  have e2 : entL l s n = l.take (posI l s) ++ ⟨s, n⟩ :: l.drop (posI l s) := if_pos e
  have hk : k = posI l s := by
   have hq := posI_le l s
   omega
  rw [e, e2, ← hk]
  first | exact Sub.tups ⟨Sub.of_eq (congrArg (AV.sl 2 false) (by simp [entA, List.map_take, List.map_drop, take_all])), sR, trivial⟩ | exact Sub.tups ⟨(Sub.of_eq (congrArg (AV.sl 2 true) (by simp [entA, List.map_take, List.map_drop, take_all]))).trans (Sub.loose _ _ _), sR, trivial⟩)) a1.1 a1.2 ha1) Tryz.func107 rfl (by kernel_rfl) (by kernel_rfl)
theorem rleave_spec (l : List Ent) (s : Txt) (hl : l.length ≤ 1000000) (hr : Name.Srt (lI l)) (hs : s.length ≤ 1000000) : FSpec Tryz.prog 127 [.sl 2 false (l.map entA), aS s] (.tup [.sl 2 false ((delL l s).map entA), aI (getI l s), aI (leaveE l s)]) := by
 exact spec_vc (F := Tryz.f127) 400 (
 .r 3 <| .r 2 <| .call (rnfind_spec l s (by omega)) <|
 .r 5 <| .r 2 <| .br 18 (!(isB l s)) (fun q1 => have q1 := notT q1; have p1 := booF q1; .r 4 <| .fin (x := .tup [.sl 2 false (l.map entA), aI 0, aI 6]) (r := .tup [.sl 2 false ((delL l s).map entA), aI (getI l s), aI (leaveE l s)]) [] trivial (by
  rw [(leave_no q1).1, (leave_no q1).2, get_away q1]
  exact Sub.tups ⟨by first | exact sR | exact Sub.loose _ _ _, sR, sR, trivial⟩))
 <| fun q1 => have q1 := notF q1; have p1 := booT q1; .r 1 <| .rowNil 9 9 101 2 <| .r 1 <| let L1 : Lp (Nat × Value) := ⟨fun a1 => ⟨[(0, .sl 2 false (l.map entA)), (1, aS s), (7, aI (getI l s)), (10, aI (a1.1 : Int)), (9, .rw 9 a1.2 ((lvK l s a1.1).length))], [(9, .row a1.2 101 2 ((lvK l s a1.1).map entA))]⟩, fun a1 => l.length - a1.1, fun a1 => a1.1 ≤ l.length⟩
 .loop L1 (0, .slice none 0 0) (show 0 ≤ l.length from Nat.zero_le _) ⟨[(0, .sl 2 false (l.map entA)), (1, aS s), (7, aI (getI l s)), (10, aI 0), (9, .rw 9 (.slice none 0 0) 0)], [(9, .row (.slice none 0 0) 101 2 ([]))]⟩ ⟨sR, sR, sR, Sub.of_eq (congrArg aI (by first | omega | rfl)), Sub.of_eq (congrArg (AV.rw 9 (.slice none 0 0)) (by simp [lvK])), trivial⟩ ⟨⟨_, rfl, SubB.of_eq (by simp [lvK])⟩, trivial⟩ fun a1 ha1 =>
 (fun (k : Nat) (V : Value) (hH1 : k ≤ l.length) => .r 3 <| .val 22 (show (aI ((l.map entA).length : Int) : AV) = aI (l.length : Int) from by rw [List.length_map]) <| .r 1 <| .br 23 (decide ((k : Int) < (l.length : Int))) (fun q2 => have p2 := decT q2; .r 2 <| .idxM l entA k (m := (k : Int)) rfl (by omega) fun x1 hx1 =>
 .r 4 <| .br 32 (!(x1.name == s)) (fun q3 => have q3 := notT q3; have p3 := beqF q3; .r 3 <| .idx k (m := (k : Int)) (xs := l.map entA) (e := entA x1) rfl (map_some hx1) <|
 .r 2 <| .app 24 V ((lvK l s k).map entA) ([[aS x1.name, aI x1.ino]]) (by have := lvK_le l s k; simp only [List.length_map, List.length_cons, List.length_nil, List.length_append]; omega) (by have := lvK_le l s k; simp only [List.length_map, List.length_cons, List.length_nil, List.length_append]; omega) fun V1 =>
 .r 1 <| .run 3 [rng .i64 ((k : Int) + 1)] ⟨rng64 (by omega) (by omega), trivial⟩ <|
 .back L1 (k, V) ((k + 1), V1) (show (k + 1) ≤ l.length from (by show _ ≤ _; omega)) (show l.length - (k + 1) < l.length - k from (by omega)) ⟨[(0, .sl 2 false (l.map entA)), (1, aS s), (7, aI (getI l s)), (10, aI ((k : Int) + 1)), (9, .rw 9 V1 (((lvK l s k).map entA).length + ([[aS x1.name, aI x1.ino]] : List (List AV)).length))], [(9, .row V1 101 2 (((lvK l s k).map entA) ++ ([[aS x1.name, aI x1.ino]])))]⟩ ⟨sR, sR, sR, Sub.of_eq (congrArg aI (by first | omega | rfl)), Sub.of_eq (congrArg (AV.rw 9 V1) (by rw [lvK_yes hx1 (by simpa using q3)]; simp)), trivial⟩ ⟨⟨_, rfl, SubB.of_eq (by rw [lvK_yes hx1 (by simpa using q3)]; simp [entA])⟩, trivial⟩)
 <| fun q3 => have q3 := notF q3; have p3 := beqT q3; .run 3 [rng .i64 ((k : Int) + 1)] ⟨rng64 (by omega) (by omega), trivial⟩ <|
 .back L1 (k, V) ((k + 1), V) (show (k + 1) ≤ l.length from (by show _ ≤ _; omega)) (show l.length - (k + 1) < l.length - k from (by omega)) ⟨[(0, .sl 2 false (l.map entA)), (1, aS s), (7, aI (getI l s)), (10, aI ((k : Int) + 1)), (9, .rw 9 V ((lvK l s k).length))], [(9, .row V 101 2 ((lvK l s k).map entA))]⟩ ⟨sR, sR, sR, Sub.of_eq (congrArg aI (by first | omega | rfl)), Sub.of_eq (congrArg (AV.rw 9 V) (by rw [lvK_no hx1 (by simpa using q3)])), trivial⟩ ⟨⟨_, rfl, SubB.of_eq (by rw [lvK_no hx1 (by simpa using q3)])⟩, trivial⟩)
 <| fun q2 => have p2 := decF q2; .r 5 <| .frz 9 [4, 5, 6] [] [V = V, (lvK l s k).length = ((lvK l s k).map entA).length] ⟨rfl, (by first | rfl | (simp; done) | (simp; omega)), trivial⟩ <|
 .fin (x := .tup [.sl 2 false ((lvK l s k).map entA), aI (getI l s), aI 0]) (r := .tup [.sl 2 false ((delL l s).map entA), aI (getI l s), aI (leaveE l s)]) [] trivial (by
  rw [leave_yes q1]
  first | exact Sub.tups ⟨Sub.of_eq (by rw [lvK_all hr (by omega)]), sR, sR, trivial⟩ | exact Sub.tups ⟨(Sub.of_eq (by rw [lvK_all hr (by omega)])).trans (Sub.loose _ _ _), sR, sR, trivial⟩)) a1.1 a1.2 ha1) Tryz.func127 rfl (by kernel_rfl) (by kernel_rfl)
theorem rnames_spec (l : List Ent) (hl : l.length ≤ 1000000) : FSpec Tryz.prog 47 [.sl 2 false (l.map entA)] (.sl 1 false ((l.map Ent.name).map txA)) := by
 exact spec_vc (F := Tryz.f47) 400 (
 .r 1 <| .r 1 <| .rowNil 3 3 9 1 <| .r 1 <| let L1 : Lp (Nat × Value) := ⟨fun a1 => ⟨[(0, .sl 2 false (l.map entA)), (4, aI (a1.1 : Int)), (3, .rw 3 a1.2 (((l.take a1.1).map Ent.name).length))], [(3, .row a1.2 9 1 (((l.take a1.1).map Ent.name).map txA))]⟩, fun a1 => l.length - a1.1, fun a1 => a1.1 ≤ l.length⟩
 .loop L1 (0, .slice none 0 0) (show 0 ≤ l.length from Nat.zero_le _) ⟨[(0, .sl 2 false (l.map entA)), (4, aI 0), (3, .rw 3 (.slice none 0 0) 0)], [(3, .row (.slice none 0 0) 9 1 ([]))]⟩ ⟨sR, Sub.of_eq (congrArg aI (by first | omega | rfl)), Sub.of_eq (congrArg (AV.rw 3 (.slice none 0 0)) (by simp)), trivial⟩ ⟨⟨_, rfl, SubB.of_eq (by simp)⟩, trivial⟩ fun a1 ha1 =>
 (fun (k : Nat) (V : Value) (hH1 : k ≤ l.length) => .r 3 <| .val 7 (show (aI ((l.map entA).length : Int) : AV) = aI (l.length : Int) from by rw [List.length_map]) <| .r 1 <| .br 8 (decide ((k : Int) < (l.length : Int))) (fun q1 => have p1 := decT q1; .r 3 <| .idxM l entA k (m := (k : Int)) rfl (by omega) fun x1 hx1 =>
 .r 3 <| .app 16 V (((l.take k).map Ent.name).map txA) ([[aS x1.name]]) (by simp only [List.length_map, List.length_cons, List.length_nil, List.length_take, List.length_append]; omega) (by simp only [List.length_map, List.length_cons, List.length_nil, List.length_take, List.length_append]; omega) fun V1 =>
 .r 1 <| .run 3 [rng .i64 ((k : Int) + 1)] ⟨rng64 (by omega) (by omega), trivial⟩ <|
 .back L1 (k, V) ((k + 1), V1) (show (k + 1) ≤ l.length from (by show _ ≤ _; omega)) (show l.length - (k + 1) < l.length - k from (by omega)) ⟨[(0, .sl 2 false (l.map entA)), (4, aI ((k : Int) + 1)), (3, .rw 3 V1 ((((l.take k).map Ent.name).map txA).length + ([[aS x1.name]] : List (List AV)).length))], [(3, .row V1 9 1 ((((l.take k).map Ent.name).map txA) ++ ([[aS x1.name]])))]⟩ ⟨sR, Sub.of_eq (congrArg aI (by first | omega | rfl)), Sub.of_eq (congrArg (AV.rw 3 V1) (by rw [take_step hx1]; simp)), trivial⟩ ⟨⟨_, rfl, SubB.of_eq (by rw [take_step hx1]; simp [txA])⟩, trivial⟩)
 <| fun q1 => have p1 := decF q1; .r 2 <| .frz 3 [2] [] [V = V, ((l.take k).map Ent.name).length = (((l.take k).map Ent.name).map txA).length] ⟨rfl, (by first | rfl | (simp; done) | (simp; omega)), trivial⟩ <|
 .fin (x := .sl 1 false (((l.take k).map Ent.name).map txA)) (r := .sl 1 false ((l.map Ent.name).map txA)) [] trivial (by first | exact Sub.of_eq (by rw [take_all (by omega)]) | exact (Sub.of_eq (by rw [take_all (by omega)])).trans (Sub.loose _ _ _))) a1.1 a1.2 ha1) Tryz.func47 rfl (by kernel_rfl) (by kernel_rfl)
end Go.Proofs.YtkhnialfkndiiaaGreat

namespace Go.Proofs.YtkhnialfkndiiaaGreat
open Go Go.RowKit Copyhold
open Copyhold.Name (Srt insE delE getE isAt)
noncomputable def lessF (f : Fsy) (i : Int) : Fsy := if (findN f i).links ≤ 1 then outF f i else putF f (awayN (findN f i))
theorem rentered_spec (f : Fsy) (d : Int) (s : Txt) (i : Int) (okf : OkF f) (hp : rowsP f) (hs : s.length ≤ 1000000) : FSpec Tryz.prog 69 [.agg (fsyA f), aI d, aS s, aI i] (.agg (fsyA (enterF f d s i))) := by
 have hl := hp.1
 have hr := rows_rise hp
 exact spec_vc (F := Tryz.f69) 400 (
 .new fun b1 => .new fun b2 => .run 2 [b1 = b1] rt1 <|
 .call (rfind_spec f d (by omega)) <|
 .r 3 <| .new fun b3 => .run 2 [b3 = b3] rt1 <|
 .run 4 [b3 = b3] rt1 <|
 .call (renter_spec (findN f d).l s i (find_srt hp d).2 (find_srt hp d).1 hs) <|
 .r 5 <| .run 3 [b3 = b3] rt1 <|
 .run 2 [b1 = b1, b3 = b3] rt2 <|
 .callS (args0 := [.agg (fsyA f), .agg [aI ((findN f d).ino), aI ((findN f d).kind), aI ((findN f d).links), aS ((findN f d).text), .sl 2 false ((entL (findN f d).l s i).map entA)]]) (args := [.agg (fsyA f), .agg [aI ((withL (findN f d) (entL (findN f d).l s i)).ino), aI ((withL (findN f d) (entL (findN f d).l s i)).kind), aI ((withL (findN f d) (entL (findN f d).l s i)).links), aS ((withL (findN f d) (entL (findN f d).l s i)).text), .sl 2 false ((withL (findN f d) (entL (findN f d).l s i)).l.map entA)]]) sr2 (rput_spec f (withL (findN f d) (entL (findN f d).l s i)) (find_I64 okf hp d) (by omega) hr) <|
 .run 1 [b2 = b2] rt1 <|
 .fin (x := .agg [.sl 5 false ((putF f (withL (findN f d) (entL (findN f d).l s i))).l.map nodA), aI ((putF f (withL (findN f d) (entL (findN f d).l s i))).next)]) (r := .agg (fsyA (enterF f d s i))) [b2 = b2] rt1 (by exact sR)) Tryz.func69 rfl (by kernel_rfl) (by kernel_rfl)
theorem rleft_spec (f : Fsy) (d : Int) (s : Txt) (okf : OkF f) (hp : rowsP f) (hs : s.length ≤ 1000000) : FSpec Tryz.prog 97 [.agg (fsyA f), aI d, aS s] (.agg (fsyA (leaveF f d s))) := by
 have hl := hp.1
 have hr := rows_rise hp
 exact spec_vc (F := Tryz.f97) 400 (
 .new fun b1 => .new fun b2 => .run 2 [b1 = b1] rt1 <|
 .call (rfind_spec f d (by omega)) <|
 .r 3 <| .new fun b3 => .run 2 [b3 = b3] rt1 <|
 .run 3 [b3 = b3] rt1 <|
 .call (rleave_spec (findN f d).l s (by have := (find_srt hp d).2; omega) (find_srt hp d).1 hs) <|
 .r 7 <| .run 3 [b3 = b3] rt1 <|
 .run 2 [b1 = b1, b3 = b3] rt2 <|
 .callS (args0 := [.agg (fsyA f), .agg [aI ((findN f d).ino), aI ((findN f d).kind), aI ((findN f d).links), aS ((findN f d).text), .sl 2 false ((delL (findN f d).l s).map entA)]]) (args := [.agg (fsyA f), .agg [aI ((withL (findN f d) (delL (findN f d).l s)).ino), aI ((withL (findN f d) (delL (findN f d).l s)).kind), aI ((withL (findN f d) (delL (findN f d).l s)).links), aS ((withL (findN f d) (delL (findN f d).l s)).text), .sl 2 false ((withL (findN f d) (delL (findN f d).l s)).l.map entA)]]) sr2 (rput_spec f (withL (findN f d) (delL (findN f d).l s)) (find_I64 okf hp d) (by omega) hr) <|
 .run 1 [b2 = b2] rt1 <|
 .fin (x := .agg [.sl 5 false ((putF f (withL (findN f d) (delL (findN f d).l s))).l.map nodA), aI ((putF f (withL (findN f d) (delL (findN f d).l s))).next)]) (r := .agg (fsyA (leaveF f d s))) [b2 = b2] rt1 (by exact sR)) Tryz.func97 rfl (by kernel_rfl) (by kernel_rfl)
theorem rless_spec (f : Fsy) (i : Int) (okf : OkF f) (hp : rowsP f) : FSpec Tryz.prog 96 [.agg (fsyA f), aI i] (.agg (fsyA (lessF f i))) := by
 have hl := hp.1
 have hr := rows_rise hp
 have hlk := find_links hp i
 exact spec_vc (F := Tryz.f96) 400 (
 .new fun b1 => .new fun b2 => .run 2 [b1 = b1] rt1 <|
 .call (rfind_spec f i (by omega)) <|
 .r 3 <| .new fun b3 => .run 2 [b3 = b3] rt1 <|
 .run 3 [b3 = b3] rt1 <|
 .br 15 (decide (((findN f i).links) ≤ 1)) (fun q1 => have p1 := decT q1; .run 2 [b1 = b1] rt1 <|
 .call (rout_spec f i (by omega) hr) <|
 .run 1 [b2 = b2] rt1 <|
 .fin (x := .agg [.sl 5 false ((outF f i).l.map nodA), aI ((outF f i).next)]) (r := .agg (fsyA (lessF f i))) [b2 = b2] rt1 (by
  rw [show lessF f i = _ from if_pos (by omega)]
  exact sR))
 <| fun q1 => have p1 := decF q1; .run 5 [b3 = b3, rng .i64 (((findN f i).links) - 1), b3 = b3] ⟨rfl, rng64 (by omega) (by omega), rfl, trivial⟩ <|
 .run 2 [b1 = b1, b3 = b3] rt2 <|
 .callS (args0 := [.agg (fsyA f), .agg [aI ((findN f i).ino), aI ((findN f i).kind), aI (((findN f i).links) - 1), aS ((findN f i).text), .sl 2 false ((findN f i).l.map entA)]]) (args := [.agg (fsyA f), .agg [aI ((awayN (findN f i)).ino), aI ((awayN (findN f i)).kind), aI ((awayN (findN f i)).links), aS ((awayN (findN f i)).text), .sl 2 false ((awayN (findN f i)).l.map entA)]]) sr2 (rput_spec f (awayN (findN f i)) (find_I64 okf hp i) (by omega) hr) <|
 .run 1 [b2 = b2] rt1 <|
 .fin (x := .agg [.sl 5 false ((putF f (awayN (findN f i))).l.map nodA), aI ((putF f (awayN (findN f i))).next)]) (r := .agg (fsyA (lessF f i))) [b2 = b2] rt1 (by
  rw [show lessF f i = _ from if_neg (by omega)]
  exact sR)) Tryz.func96 rfl (by kernel_rfl) (by kernel_rfl)
end Go.Proofs.YtkhnialfkndiiaaGreat
