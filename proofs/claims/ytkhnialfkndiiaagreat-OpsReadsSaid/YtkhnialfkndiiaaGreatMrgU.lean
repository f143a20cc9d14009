/- dirs.Move: its mathematics and its contract. dirs.Move. Whole numbers as floats of 64 bits, below 2^53: they are told apart, added and cut to themselves. Numbers alone: nothing of the program. span.lay, span.Of: for every two numbers they answer as the document says; memory is as it was. data.Read, data.refused, data.filled: they answer as the document says; old memory is as it was. -/
import Derived.Test.YtkhnialfkndiiaaGreatMrgT
import Derived.Laws.FloatArith
import Derived.Laws.ComplexArith
import Derived.Test.YtkhnialfkndiiaaGreatRows
import Derived.Test.YtkhnialfkndiiaaGreatMrgA
set_option linter.unusedVariables false
set_option linter.unusedSimpArgs false
namespace Go.Proofs.YtkhnialfkndiiaaGreat
open Go Go.RowKit Copyhold
open Copyhold.Name (Srt insE delE getE isAt)
noncomputable def mov0 (f : Fsy) (dir : Int) (s : Txt) (to : Int) (t : Txt) (n : Nod) (th : Bool) (m : Nod) : Fsy := enterF (leaveF (if th = true then awayF f to t m else f) dir s) to t n.ino
noncomputable def mov1 (f : Fsy) (dir : Int) (s : Txt) (to : Int) (t : Txt) : Int := firstE [lookE f dir s, dirE f to, checkE t, whenE (withinB f to (lookN f dir s)) 13]
def movI (f : Fsy) (to : Int) (t : Txt) : Int := getI (dirN f to).l t
def movB (f : Fsy) (to : Int) (t : Txt) : Bool := isB (dirN f to).l t
noncomputable def mov2 (f : Fsy) (dir : Int) (s : Txt) (to : Int) (t : Txt) : Int := if movB f to t = false then whenE ((to != dir) && decide (((dirN f to).l.length : Int) ≥ 256)) 12 else if movI f to t = (lookN f dir s).ino then 0 else overE (lookN f dir s) (findN f (movI f to t))
noncomputable def movErr (f : Fsy) (dir : Int) (s : Txt) (to : Int) (t : Txt) : Int := if mov1 f dir s to t = 0 then mov2 f dir s to t else mov1 f dir s to t
noncomputable def movF (f : Fsy) (dir : Int) (s : Txt) (to : Int) (t : Txt) : Fsy := if mov1 f dir s to t = 0 then (if movB f to t = true ∧ movI f to t = (lookN f dir s).ino then f else if mov2 f dir s to t = 0 then mov0 f dir s to t (lookN f dir s) (movB f to t) (findN f (movI f to t)) else f) else f
def MovH (f : Fsy) (dir : Int) (s : Txt) (to : Int) (t : Txt) (th : Bool) (m : Nod) : Prop :=
  (th = true → OkF (awayF f to t m) ∧ rowsP (awayF f to t m) ∧ OkF (leaveF (awayF f to t m) dir s) ∧ rowsP (leaveF (awayF f to t m) dir s)) ∧ (th = false → OkF (leaveF f dir s) ∧ rowsP (leaveF f dir s))
structure MovP (f : Fsy) (a : Int) (s : Txt) (b : Int) (t : Txt) (d dt n : Nod) (j : Int) : Prop where
  dir : atF f a = some d
  kind : d.kind = 2
  chk : checkE s = 0
  ent : getE (lI d.l) s = some j
  node : atF f j = some n
  look : lookN f a s = n
  to : atF f b = some dt
  kindt : dt.kind = 2
  chkt : checkE t = 0
  apart : withinB f b n = false
theorem first4 {a b c d : Int} : firstE [a, b, c, d] = if a = 0 then (if b = 0 then (if c = 0 then d else c) else b) else a := by
  unfold firstE
  by_cases h : a = 0 <;> by_cases h2 : b = 0 <;> by_cases h3 : c = 0 <;> by_cases h4 : d = 0 <;> simp [h, h2, h3, h4]
theorem mov_of {f : Fsy} {dir : Int} {s : Txt} {to : Int} {t : Txt} (hp : rowsP f) (h : mov1 f dir s to t = 0) : ∃ d dt n j, MovP f dir s to t d dt n j := by
  unfold mov1 at h
  rw [first4] at h
  split at h
  · rename_i h1
    split at h
    · rename_i h2
      split at h
      · rename_i h3
        obtain ⟨d, j, n, a1, a2, a3, a4, a5⟩ := (look_iff hp).1 h1
        obtain ⟨dt, b1, b2, _⟩ := at_dir h2
        have hn := (look_at a1 a2 a3 a4 a5).2
        rw [when0 (by decide), hn] at h
        exact ⟨d, dt, n, j, a1, a2, a3, a4, a5, hn, b1, b2, h3, h⟩
      · exact absurd h (by assumption)
    · exact absurd h (by assumption)
  · exact absurd h (by assumption)
theorem MovP.mB {f : Fsy} {dir : Int} {s : Txt} {to : Int} {t : Txt} {d dt n : Nod} {j : Int} (A : MovP f dir s to t d dt n j) : movB f to t = isB dt.l t ∧ movI f to t = getI dt.l t ∧ dirN f to = dt := by
  have e := (dir_of A.to A.kindt).2
  unfold movB movI
  rw [e]
  exact ⟨rfl, rfl, rfl⟩
theorem over_full {n m : Nod} (h : overE n m = 0) : fullB m = false ∧ (m.kind = 2 ↔ n.kind = 2) := by
  unfold overE at h
  rw [first3] at h
  split at h
  · rename_i h1
    split at h
    · rename_i h2
      rw [when0 (by decide)] at h h1 h2
      refine ⟨h, ?_⟩
      by_cases hn : n.kind = 2 <;> by_cases hm : m.kind = 2 <;> simp_all
    · exact absurd h (by assumption)
  · exact absurd h (by assumption)
theorem full_no {m : Nod} (h : fullB m = false) (hk : m.kind = 2) : m.l = [] := by
  unfold fullB at h
  simp only [hk, beq_self_eq_true, Bool.true_and, decide_eq_false_iff_not] at h
  exact List.eq_nil_of_length_eq_zero (by omega)
theorem mov_other {f : Fsy} {dir : Int} {s : Txt} {to : Int} {t : Txt} {d dt n : Nod} {j : Int} (hp : rowsP f) (A : MovP f dir s to t d dt n j) (hb : isB dt.l t = true) (ho : overE n (findN f (getI dt.l t)) = 0) :
    (atF f (findN f (getI dt.l t)).ino = some (findN f (getI dt.l t)) ∨ findN f (getI dt.l t) = nod0) ∧ ¬ (findN f (getI dt.l t)).ino = dir ∧ ¬ (findN f (getI dt.l t)).ino = to := by
  obtain ⟨h1, h2⟩ := over_full ho
  have hx : atF f (findN f (getI dt.l t)).ino = some (findN f (getI dt.l t)) ∨ findN f (getI dt.l t) = nod0 := by
    by_cases hf : findB f (getI dt.l t) = true
    · left
      have := at_some hf
      rw [at_ino this]
      exact this
    · right
      exact (at_no (at_none (by simpa using hf))).2
  refine ⟨hx, fun e => ?_, fun e => ?_⟩
  · rcases hx with hx | hx
    · rw [e, A.dir] at hx
      have hd := Option.some.inj hx
      rw [← hd] at h1
      have := full_no h1 A.kind
      have g := A.ent
      rw [this] at g
      cases g
    · have := (rows_at hp A.dir).1.1
      have h3 := (rows_at hp A.dir).2.2
      rw [hx] at e
      have : nod0.ino = 0 := rfl
      omega
  · rcases hx with hx | hx
    · rw [e, A.to] at hx
      have hd := Option.some.inj hx
      rw [← hd] at h1
      have := full_no h1 A.kindt
      rw [this] at hb
      cases hb
    · have := (rows_at hp A.to).1.1
      have h3 := (rows_at hp A.to).2.2
      rw [hx] at e
      have : nod0.ino = 0 := rfl
      omega
theorem mov_H {f : Fsy} {dir : Int} {s : Txt} {to : Int} {t : Txt} (okf : OkF f) (hp : rowsP f) (h1 : mov1 f dir s to t = 0) (h2 : movB f to t = true → overE (lookN f dir s) (findN f (movI f to t)) = 0) : MovH f dir s to t (movB f to t) (findN f (movI f to t)) := by
  obtain ⟨d, dt, n, j, A⟩ := mov_of hp h1
  obtain ⟨e1, e2, e3⟩ := A.mB
  refine ⟨fun hb => ?_, fun _ => ?_⟩
  · have ho := h2 hb
    rw [e1] at hb
    rw [A.look, e2] at ho
    rw [e2]
    obtain ⟨hx, hd, ht⟩ := mov_other hp A hb ho
    obtain ⟨w1, w2, w3, w4, w5⟩ := away_all (s := t) okf hp A.to A.kindt hx
    have hdir : ∃ d', atF (awayF f to t (findN f (getI dt.l t))) dir = some d' ∧ d'.kind = 2 := by
      rw [w5, if_neg (fun e => hd e.symm)]
      split
      · exact ⟨_, rfl, A.kindt⟩
      · exact ⟨d, A.dir, A.kind⟩
    obtain ⟨d', g1, g2⟩ := hdir
    obtain ⟨l1, l2, _⟩ := leave_all (s := s) w1 w2 g1 g2
    exact ⟨w1, w2, l1, l2⟩
  · obtain ⟨l1, l2, _⟩ := leave_all (s := s) okf hp A.dir A.kind
    exact ⟨l1, l2⟩
set_option maxRecDepth 100000 in
set_option maxHeartbeats 4000000 in
theorem move1_spec (f : Fsy) (dir : Int) (s : Txt) (to : Int) (t : Txt) (n : Nod) (th : Bool) (m : Nod) (okf : OkF f) (hp : rowsP f) (hs : s.length ≤ 1000000) (ht : t.length ≤ 1000000) (hn : I64 n.ino) (hm : I64 m.ino ∧ m.ino < 9223372036854775807) (hk : 0 ≤ m.links ∧ m.links ≤ 1000) (H : MovH f dir s to t th m) : FSpec Tryz.prog 123 [.dptr [.sl 5 false (f.l.map nodA), aI f.next], .dptr [aB th], .dptr [aI to], .dptr [aS t], .dptr [aI m.ino, aI m.kind, aI m.links, aS m.text, .sl 2 false (m.l.map entA)], .dptr [aI dir], .dptr [aS s], .dptr [aI n.ino, aI n.kind, aI n.links, aS n.text, .sl 2 false (n.l.map entA)]] (.agg (fsyA (mov0 f dir s to t n th m))) := by
  exact spec_vc (F := Tryz.f123) 400 (
 .new fun b1 => .r 1 <| .new fun b2 => .run 1 [b2 = b2] ⟨rfl, trivial⟩ <|
 .r 1 <| .br 11 (th) (fun q1 => have p1 := booT q1; .run 4 [b2 = b2] ⟨rfl, trivial⟩ <|
 .call (away_spec f to t m okf hp ht hm hk) <|
 .run 1 [b2 = b2] ⟨rfl, trivial⟩ <|
 .ord [0, 1, 2, 4, 5, 6, 7, 3, 8, 9] <| .run 7 [b2 = b2] ⟨rfl, trivial⟩ <|
 .call (dleave_spec (awayF f to t m) dir s (H.1 q1).1 (H.1 q1).2.1 hs) <|
 .call (denter_spec (leaveF (awayF f to t m) dir s) to t n.ino (H.1 q1).2.2.1 (H.1 q1).2.2.2 ht hn) <|
 .run 1 [b1 = b1] ⟨rfl, trivial⟩ <|
 .fin (x := .agg [.sl 5 false ((enterF (leaveF (awayF f to t m) dir s) to t n.ino).l.map nodA), aI ((enterF (leaveF (awayF f to t m) dir s) to t n.ino).next)]) (r := .agg (fsyA (mov0 f dir s to t n th m))) [b1 = b1] ⟨rfl, trivial⟩ (by
    have e : mov0 f dir s to t n th m = enterF (leaveF (awayF f to t m) dir s) to t n.ino := by unfold mov0; rw [if_pos q1]
    rw [e]
    exact Sub.refl _))
 <| fun q1 => have p1 := booF q1; .ord [0, 1, 2, 4, 5, 6, 7, 3, 8, 9] <| .run 7 [b2 = b2] ⟨rfl, trivial⟩ <|
 .call (dleave_spec f dir s okf hp hs) <|
 .call (denter_spec (leaveF f dir s) to t n.ino (H.2 q1).1 (H.2 q1).2 ht hn) <|
 .run 1 [b1 = b1] ⟨rfl, trivial⟩ <|
 .fin (x := .agg [.sl 5 false ((enterF (leaveF f dir s) to t n.ino).l.map nodA), aI ((enterF (leaveF f dir s) to t n.ino).next)]) (r := .agg (fsyA (mov0 f dir s to t n th m))) [b1 = b1] ⟨rfl, trivial⟩ (by
    have e : mov0 f dir s to t n th m = enterF (leaveF f dir s) to t n.ino := by unfold mov0; rw [if_neg (by rw [q1]; decide)]
    rw [e]
    exact Sub.refl _)) Tryz.func123 rfl (by kernel_rfl) (by kernel_rfl)
set_option maxRecDepth 100000 in
set_option maxHeartbeats 4000000 in
theorem unless4_spec (e : Int) (f : Fsy) (dir : Int) (s : Txt) (to : Int) (t : Txt) (n : Nod) (th : Bool) (m : Nod) (okf : OkF f) (hp : rowsP f) (hs : s.length ≤ 1000000) (ht : t.length ≤ 1000000) (hn : I64 n.ino) (hm : I64 m.ino ∧ m.ino < 9223372036854775807) (hk : 0 ≤ m.links ∧ m.links ≤ 1000) (H : e = 0 → MovH f dir s to t th m) : FSpec Tryz.prog 118 [.agg [.sl 5 false (f.l.map nodA), aI f.next], aI e, .clo 123 [.dptr [.sl 5 false (f.l.map nodA), aI f.next], .dptr [aB th], .dptr [aI to], .dptr [aS t], .dptr [aI m.ino, aI m.kind, aI m.links, aS m.text, .sl 2 false (m.l.map entA)], .dptr [aI dir], .dptr [aS s], .dptr [aI n.ino, aI n.kind, aI n.links, aS n.text, .sl 2 false (n.l.map entA)]]] (.tup [.agg (fsyA (if e = 0 then mov0 f dir s to t n th m else f)), aI e]) := by
  exact spec_vc (F := Tryz.f118) 400 (
 .new fun b1 => .new fun b2 => .r 1 <| .r 2 <| .br 9 (e != 0) (fun q1 => have p1 := bneT q1; .run 4 [b1 = b1, b2 = b2] ⟨rfl, rfl, trivial⟩ <|
 .fin (x := .tup [.agg [.sl 5 false (f.l.map nodA), aI f.next], aI e]) (r := .tup [.agg (fsyA (if e = 0 then mov0 f dir s to t n th m else f)), aI e]) [b2 = b2] ⟨rfl, trivial⟩ (by
    rw [if_neg (show ¬ e = 0 from by omega)]
    exact Sub.refl _))
 <| fun q1 => have p1 := bneF q1; .r 1 <| .call (move1_spec f dir s to t n th m okf hp hs ht hn hm hk (H (by simpa using q1))) <|
 .run 2 [b2 = b2] ⟨rfl, trivial⟩ <|
 .fin (x := .tup [.agg [.sl 5 false ((mov0 f dir s to t n th m).l.map nodA), aI ((mov0 f dir s to t n th m).next)], aI 0]) (r := .tup [.agg (fsyA (if e = 0 then mov0 f dir s to t n th m else f)), aI e]) [b2 = b2] ⟨rfl, trivial⟩ (by
    rw [if_pos (show e = 0 from by omega), show e = 0 from by omega]
    exact Sub.refl _)) Tryz.func118 rfl (by kernel_rfl) (by kernel_rfl)
end Go.Proofs.YtkhnialfkndiiaaGreat

set_option linter.unusedVariables false
set_option linter.unusedSimpArgs false
namespace Go.Proofs.YtkhnialfkndiiaaGreat
open Go Go.RowKit Copyhold
set_option maxRecDepth 100000 in
set_option maxHeartbeats 4000000 in
theorem move_spec (f : Fsy) (dir : Int) (s : Txt) (to : Int) (t : Txt) (okf : OkF f) (hp : rowsP f) (hs : s.length ≤ 1000000) (ht : t.length ≤ 1000000) : FSpec Tryz.prog 85 [.agg [.sl 5 false (f.l.map nodA), aI f.next], aI dir, aS s, aI to, aS t] (.tup [.agg (fsyA (movF f dir s to t)), aI (movErr f dir s to t)]) := by
  have hl := hp.1
  have hr := rows_rise hp
  exact spec_vc (F := Tryz.f85) 400 (
 .new fun b1 => .new fun b2 => .new fun b3 => .new fun b4 => .new fun b5 => .new fun b6 => .r 1 <| .run 3 [b1 = b1, b2 = b2, b3 = b3] ⟨rfl, rfl, rfl, trivial⟩ <|
 .call (look_spec f dir s hp hs) <|
 .r 3 <| .new fun b7 => .run 2 [b7 = b7] ⟨rfl, trivial⟩ <|
 .run 2 [b1 = b1, b4 = b4] ⟨rfl, rfl, trivial⟩ <|
 .call (dir_spec f to hp) <|
 .r 3 <| .new fun b8 => .run 2 [b8 = b8] ⟨rfl, trivial⟩ <|
 .ord [0, 1, 2, 4, 5, 6, 3, 7, 8, 9, 10, 11] <| .run 6 [b5 = b5, b1 = b1, b4 = b4, b7 = b7] ⟨rfl, rfl, rfl, rfl, trivial⟩ <|
 .call (check_spec t (by omega)) <|
 .call (within_spec f to (lookN f dir s) okf (by omega) hr) <|
 .call (when_spec (withinB f to (lookN f dir s)) 13) <|
 .r 1 <| .callS (args0 := [.sl 1 true ([[aI (lookE f dir s)], [aI (dirE f to)], [aI (checkE t)], [aI (whenE (withinB f to (lookN f dir s)) 13)]])]) (args := [.sl 1 false ([(lookE f dir s), (dirE f to), (checkE t), (whenE (withinB f to (lookN f dir s)) 13)].map intA)]) ⟨first_lit4 (lookE f dir s) (dirE f to) (checkE t) (whenE (withinB f to (lookN f dir s)) 13), trivial⟩ (first_spec [(lookE f dir s), (dirE f to), (checkE t), (whenE (withinB f to (lookN f dir s)) 13)] (by simp)) <|
 .r 1 <| .r 2 <| .br 45 ((firstE [(lookE f dir s), (dirE f to), (checkE t), (whenE (withinB f to (lookN f dir s)) 13)]) != 0) (fun q1 => have p1 := bneT q1; .run 4 [b1 = b1, b6 = b6] ⟨rfl, rfl, trivial⟩ <|
 .fin (x := .tup [.agg [.sl 5 false (f.l.map nodA), aI f.next], aI (firstE [(lookE f dir s), (dirE f to), (checkE t), (whenE (withinB f to (lookN f dir s)) 13)])]) (r := .tup [.agg (fsyA (movF f dir s to t)), aI (movErr f dir s to t)]) [b6 = b6] ⟨rfl, trivial⟩ (by
    have h1 : ¬ mov1 f dir s to t = 0 := (bneT q1)
    have e1 : movErr f dir s to t = mov1 f dir s to t := if_neg h1
    have e2 : movF f dir s to t = f := if_neg h1
    rw [e1, e2]
    exact Sub.refl _))
 <| fun q1 => have p1 := bneF q1; .run 3 [b8 = b8, b5 = b5] ⟨rfl, rfl, trivial⟩ <|
 .call (nfind_spec ((dirN f to).l) t (by have := (dir_srt hp to).2; omega) (dir_srt hp to).1) <|
 .r 3 <| .new fun b9 => .run 2 [b9 = b9] ⟨rfl, trivial⟩ <|
 .run 2 [b1 = b1] ⟨rfl, trivial⟩ <|
 .call (tfind_spec f (getI ((dirN f to).l) t) (by omega) hr) <|
 .r 3 <| .new fun b10 => .run 2 [b10 = b10] ⟨rfl, trivial⟩ <|
 .run 3 [b9 = b9] ⟨rfl, trivial⟩ <|
 .br 64 (!(isB ((dirN f to).l) t)) (fun q2 => have q2 := notT q2; have p2 := booF q2; .run 4 [b4 = b4, b2 = b2] ⟨rfl, rfl, trivial⟩ <|
 .br 70 (to != dir) (fun q3 => have p3 := bneT q3; .run 3 [b8 = b8] ⟨rfl, trivial⟩ <|
 .val 73 (show (aI (((dirN f to).l.map entA).length : Int) : AV) = aI (((dirN f to).l).length : Int) from by rw [List.length_map]) <| .r 2 <| .call (when_spec (decide ((((dirN f to).l).length : Int) ≥ 256)) 12) <|
 .r 1 <| .frz 5 [5, 6, 7, 8, 9, 10, 11, 12, 13, 17, 18, 45, 64, 70] [6, 7, 8, 9, 10, 12, 17, 18] [b1 = b1] ⟨rfl, trivial⟩ <|
 .frz 17 [5, 6, 7, 8, 9, 10, 11, 12, 13, 17, 18, 45, 64, 70] [6, 7, 8, 9, 10, 12, 18] [b9 = b9] ⟨rfl, trivial⟩ <|
 .frz 8 [5, 6, 7, 8, 9, 10, 11, 12, 13, 17, 18, 45, 64, 70] [6, 7, 9, 10, 12, 18] [b4 = b4] ⟨rfl, trivial⟩ <|
 .frz 9 [5, 6, 7, 8, 9, 10, 11, 12, 13, 17, 18, 45, 64, 70] [6, 7, 10, 12, 18] [b5 = b5] ⟨rfl, trivial⟩ <|
 .frz 18 [5, 6, 7, 8, 9, 10, 11, 12, 13, 17, 18, 45, 64, 70] [6, 7, 10, 12] [b10 = b10] ⟨rfl, trivial⟩ <|
 .frz 6 [5, 6, 7, 8, 9, 10, 11, 12, 13, 17, 18, 45, 64, 70] [7, 10, 12] [b2 = b2] ⟨rfl, trivial⟩ <|
 .frz 7 [5, 6, 7, 8, 9, 10, 11, 12, 13, 17, 18, 45, 64, 70] [10, 12] [b3 = b3] ⟨rfl, trivial⟩ <|
 .frz 12 [5, 6, 7, 8, 9, 10, 11, 12, 13, 17, 18, 45, 64, 70] [10] [b7 = b7] ⟨rfl, trivial⟩ <|
 .r 3 <| .callS (args0 := [.agg [.sl 5 false (f.l.map nodA), aI f.next], aI (whenE (decide ((((dirN f to).l).length : Int) ≥ 256)) 12), .clo 123 [.dptr [.sl 5 false (f.l.map nodA), aI f.next], .dptr [aB (isB ((dirN f to).l) t)], .dptr [aI to], .dptr [aS t], .dptr [aI ((findN f (getI ((dirN f to).l) t)).ino), aI ((findN f (getI ((dirN f to).l) t)).kind), aI ((findN f (getI ((dirN f to).l) t)).links), aS ((findN f (getI ((dirN f to).l) t)).text), .sl 2 false ((findN f (getI ((dirN f to).l) t)).l.map entA)], .dptr [aI dir], .dptr [aS s], .dptr [aI ((lookN f dir s).ino), aI ((lookN f dir s).kind), aI ((lookN f dir s).links), aS ((lookN f dir s).text), .sl 2 false ((lookN f dir s).l.map entA)]]]) (args := [.agg [.sl 5 false (f.l.map nodA), aI f.next], aI (whenE (decide ((((dirN f to).l).length : Int) ≥ 256)) 12), .clo 123 [.dptr [.sl 5 false (f.l.map nodA), aI f.next], .dptr [aB (isB ((dirN f to).l) t)], .dptr [aI to], .dptr [aS t], .dptr [aI ((findN f (getI (dirN f to).l t)).ino), aI ((findN f (getI (dirN f to).l t)).kind), aI ((findN f (getI (dirN f to).l t)).links), aS ((findN f (getI (dirN f to).l t)).text), .sl 2 false ((findN f (getI (dirN f to).l t)).l.map entA)], .dptr [aI dir], .dptr [aS s], .dptr [aI ((lookN f dir s).ino), aI ((lookN f dir s).kind), aI ((lookN f dir s).links), aS ((lookN f dir s).text), .sl 2 false ((lookN f dir s).l.map entA)]]]) ⟨Sub.refl _, Sub.refl _, Sub.refl _, trivial⟩ (unless4_spec (whenE (decide ((((dirN f to).l).length : Int) ≥ 256)) 12) f dir s to t (lookN f dir s) (isB ((dirN f to).l) t) (findN f (getI (dirN f to).l t)) okf hp hs ht (look_node okf hp).1.1 (find_I64 okf hp _) (by have := find_links hp (getI (dirN f to).l t); omega) (fun he => mov_H okf hp (show mov1 f dir s to t = 0 from bneF q1) (fun hb => absurd hb (by show ¬ isB (dirN f to).l t = true; rw [q2]; decide)))) <|
 .run 4 [b6 = b6] ⟨rfl, trivial⟩ <|
 .fin (x := .tup [.agg [.sl 5 false ((if whenE (decide ((((dirN f to).l).length : Int) ≥ 256)) 12 = 0 then mov0 f dir s to t (lookN f dir s) (isB ((dirN f to).l) t) (findN f (getI (dirN f to).l t)) else f).l.map nodA), aI ((if whenE (decide ((((dirN f to).l).length : Int) ≥ 256)) 12 = 0 then mov0 f dir s to t (lookN f dir s) (isB ((dirN f to).l) t) (findN f (getI (dirN f to).l t)) else f).next)], aI (whenE (decide ((((dirN f to).l).length : Int) ≥ 256)) 12)]) (r := .tup [.agg (fsyA (movF f dir s to t)), aI (movErr f dir s to t)]) [b6 = b6] ⟨rfl, trivial⟩ (by
    have h1 : mov1 f dir s to t = 0 := (bneF q1)
    have e1 : movErr f dir s to t = mov2 f dir s to t := if_pos h1
    rw [e1]
    have hb : movB f to t = false := q2
    have e3 : mov2 f dir s to t = whenE (decide ((((dirN f to).l).length : Int) ≥ 256)) 12 := by unfold mov2; rw [if_pos hb]; simp only [q3]; rfl
    have e2 : movF f dir s to t = if mov2 f dir s to t = 0 then mov0 f dir s to t (lookN f dir s) (movB f to t) (findN f (movI f to t)) else f := by unfold movF; rw [if_pos h1, if_neg (fun h => by rw [hb] at h; cases h.1)]
    rw [e2, e3]
    exact Sub.refl _))
 <| fun q3 => have p3 := bneF q3; .r 5 <| .call (when_spec false 12) <|
 .r 1 <| .frz 5 [5, 6, 7, 8, 9, 10, 11, 12, 13, 17, 18, 45, 64, 70, 75] [6, 7, 8, 9, 10, 12, 17, 18] [b1 = b1] ⟨rfl, trivial⟩ <|
 .frz 17 [5, 6, 7, 8, 9, 10, 11, 12, 13, 17, 18, 45, 64, 70, 75] [6, 7, 8, 9, 10, 12, 18] [b9 = b9] ⟨rfl, trivial⟩ <|
 .frz 8 [5, 6, 7, 8, 9, 10, 11, 12, 13, 17, 18, 45, 64, 70, 75] [6, 7, 9, 10, 12, 18] [b4 = b4] ⟨rfl, trivial⟩ <|
 .frz 9 [5, 6, 7, 8, 9, 10, 11, 12, 13, 17, 18, 45, 64, 70, 75] [6, 7, 10, 12, 18] [b5 = b5] ⟨rfl, trivial⟩ <|
 .frz 18 [5, 6, 7, 8, 9, 10, 11, 12, 13, 17, 18, 45, 64, 70, 75] [6, 7, 10, 12] [b10 = b10] ⟨rfl, trivial⟩ <|
 .frz 6 [5, 6, 7, 8, 9, 10, 11, 12, 13, 17, 18, 45, 64, 70, 75] [7, 10, 12] [b2 = b2] ⟨rfl, trivial⟩ <|
 .frz 7 [5, 6, 7, 8, 9, 10, 11, 12, 13, 17, 18, 45, 64, 70, 75] [10, 12] [b3 = b3] ⟨rfl, trivial⟩ <|
 .frz 12 [5, 6, 7, 8, 9, 10, 11, 12, 13, 17, 18, 45, 64, 70, 75] [10] [b7 = b7] ⟨rfl, trivial⟩ <|
 .r 3 <| .callS (args0 := [.agg [.sl 5 false (f.l.map nodA), aI f.next], aI (whenE false 12), .clo 123 [.dptr [.sl 5 false (f.l.map nodA), aI f.next], .dptr [aB (isB ((dirN f to).l) t)], .dptr [aI to], .dptr [aS t], .dptr [aI ((findN f (getI ((dirN f to).l) t)).ino), aI ((findN f (getI ((dirN f to).l) t)).kind), aI ((findN f (getI ((dirN f to).l) t)).links), aS ((findN f (getI ((dirN f to).l) t)).text), .sl 2 false ((findN f (getI ((dirN f to).l) t)).l.map entA)], .dptr [aI dir], .dptr [aS s], .dptr [aI ((lookN f dir s).ino), aI ((lookN f dir s).kind), aI ((lookN f dir s).links), aS ((lookN f dir s).text), .sl 2 false ((lookN f dir s).l.map entA)]]]) (args := [.agg [.sl 5 false (f.l.map nodA), aI f.next], aI (whenE false 12), .clo 123 [.dptr [.sl 5 false (f.l.map nodA), aI f.next], .dptr [aB (isB ((dirN f to).l) t)], .dptr [aI to], .dptr [aS t], .dptr [aI ((findN f (getI (dirN f to).l t)).ino), aI ((findN f (getI (dirN f to).l t)).kind), aI ((findN f (getI (dirN f to).l t)).links), aS ((findN f (getI (dirN f to).l t)).text), .sl 2 false ((findN f (getI (dirN f to).l t)).l.map entA)], .dptr [aI dir], .dptr [aS s], .dptr [aI ((lookN f dir s).ino), aI ((lookN f dir s).kind), aI ((lookN f dir s).links), aS ((lookN f dir s).text), .sl 2 false ((lookN f dir s).l.map entA)]]]) ⟨Sub.refl _, Sub.refl _, Sub.refl _, trivial⟩ (unless4_spec (whenE false 12) f dir s to t (lookN f dir s) (isB ((dirN f to).l) t) (findN f (getI (dirN f to).l t)) okf hp hs ht (look_node okf hp).1.1 (find_I64 okf hp _) (by have := find_links hp (getI (dirN f to).l t); omega) (fun he => mov_H okf hp (show mov1 f dir s to t = 0 from bneF q1) (fun hb => absurd hb (by show ¬ isB (dirN f to).l t = true; rw [q2]; decide)))) <|
 .run 4 [b6 = b6] ⟨rfl, trivial⟩ <|
 .fin (x := .tup [.agg [.sl 5 false ((if whenE false 12 = 0 then mov0 f dir s to t (lookN f dir s) (isB ((dirN f to).l) t) (findN f (getI (dirN f to).l t)) else f).l.map nodA), aI ((if whenE false 12 = 0 then mov0 f dir s to t (lookN f dir s) (isB ((dirN f to).l) t) (findN f (getI (dirN f to).l t)) else f).next)], aI (whenE false 12)]) (r := .tup [.agg (fsyA (movF f dir s to t)), aI (movErr f dir s to t)]) [b6 = b6] ⟨rfl, trivial⟩ (by
    have h1 : mov1 f dir s to t = 0 := (bneF q1)
    have e1 : movErr f dir s to t = mov2 f dir s to t := if_pos h1
    rw [e1]
    have hb : movB f to t = false := q2
    have e3 : mov2 f dir s to t = whenE false 12 := by unfold mov2; rw [if_pos hb]; simp only [q3]; rfl
    have e2 : movF f dir s to t = if mov2 f dir s to t = 0 then mov0 f dir s to t (lookN f dir s) (movB f to t) (findN f (movI f to t)) else f := by unfold movF; rw [if_pos h1, if_neg (fun h => by rw [hb] at h; cases h.1)]
    rw [e2, e3]
    exact Sub.refl _))
 <| fun q2 => have q2 := notF q2; have p2 := booT q2; .run 5 [b7 = b7] ⟨rfl, trivial⟩ <|
 .br 77 ((getI ((dirN f to).l) t) == ((lookN f dir s).ino)) (fun q4 => have p4 := beqT q4; .run 3 [b1 = b1, b6 = b6] ⟨rfl, rfl, trivial⟩ <|
 .fin (x := .tup [.agg [.sl 5 false (f.l.map nodA), aI f.next], aI 0]) (r := .tup [.agg (fsyA (movF f dir s to t)), aI (movErr f dir s to t)]) [b6 = b6] ⟨rfl, trivial⟩ (by
    have h1 : mov1 f dir s to t = 0 := (bneF q1)
    have e1 : movErr f dir s to t = mov2 f dir s to t := if_pos h1
    rw [e1]
    have hb : movB f to t = true := q2
    have hi : movI f to t = (lookN f dir s).ino := (beqT q4)
    have e3 : mov2 f dir s to t = 0 := by unfold mov2; rw [if_neg (by rw [hb]; decide), if_pos hi]
    have e2 : movF f dir s to t = f := by unfold movF; rw [if_pos h1, if_pos ⟨hb, hi⟩]
    rw [e2, e3]
    exact Sub.refl _))
 <| fun q4 => have p4 := beqF q4; .run 2 [b7 = b7, b10 = b10] ⟨rfl, rfl, trivial⟩ <|
 .call (over_spec (lookN f dir s) (findN f (getI (dirN f to).l t)) (findN_ok okf _).2.2.2.2.1) <|
 .r 1 <| .frz 5 [5, 6, 7, 8, 9, 10, 11, 12, 13, 17, 18, 45, 64, 77] [6, 7, 8, 9, 10, 12, 17, 18] [b1 = b1] ⟨rfl, trivial⟩ <|
 .frz 17 [5, 6, 7, 8, 9, 10, 11, 12, 13, 17, 18, 45, 64, 77] [6, 7, 8, 9, 10, 12, 18] [b9 = b9] ⟨rfl, trivial⟩ <|
 .frz 8 [5, 6, 7, 8, 9, 10, 11, 12, 13, 17, 18, 45, 64, 77] [6, 7, 9, 10, 12, 18] [b4 = b4] ⟨rfl, trivial⟩ <|
 .frz 9 [5, 6, 7, 8, 9, 10, 11, 12, 13, 17, 18, 45, 64, 77] [6, 7, 10, 12, 18] [b5 = b5] ⟨rfl, trivial⟩ <|
 .frz 18 [5, 6, 7, 8, 9, 10, 11, 12, 13, 17, 18, 45, 64, 77] [6, 7, 10, 12] [b10 = b10] ⟨rfl, trivial⟩ <|
 .frz 6 [5, 6, 7, 8, 9, 10, 11, 12, 13, 17, 18, 45, 64, 77] [7, 10, 12] [b2 = b2] ⟨rfl, trivial⟩ <|
 .frz 7 [5, 6, 7, 8, 9, 10, 11, 12, 13, 17, 18, 45, 64, 77] [10, 12] [b3 = b3] ⟨rfl, trivial⟩ <|
 .frz 12 [5, 6, 7, 8, 9, 10, 11, 12, 13, 17, 18, 45, 64, 77] [10] [b7 = b7] ⟨rfl, trivial⟩ <|
 .r 3 <| .callS (args0 := [.agg [.sl 5 false (f.l.map nodA), aI f.next], aI (overE (lookN f dir s) (findN f (getI (dirN f to).l t))), .clo 123 [.dptr [.sl 5 false (f.l.map nodA), aI f.next], .dptr [aB (isB ((dirN f to).l) t)], .dptr [aI to], .dptr [aS t], .dptr [aI ((findN f (getI ((dirN f to).l) t)).ino), aI ((findN f (getI ((dirN f to).l) t)).kind), aI ((findN f (getI ((dirN f to).l) t)).links), aS ((findN f (getI ((dirN f to).l) t)).text), .sl 2 false ((findN f (getI ((dirN f to).l) t)).l.map entA)], .dptr [aI dir], .dptr [aS s], .dptr [aI ((lookN f dir s).ino), aI ((lookN f dir s).kind), aI ((lookN f dir s).links), aS ((lookN f dir s).text), .sl 2 false ((lookN f dir s).l.map entA)]]]) (args := [.agg [.sl 5 false (f.l.map nodA), aI f.next], aI (overE (lookN f dir s) (findN f (getI (dirN f to).l t))), .clo 123 [.dptr [.sl 5 false (f.l.map nodA), aI f.next], .dptr [aB (isB ((dirN f to).l) t)], .dptr [aI to], .dptr [aS t], .dptr [aI ((findN f (getI (dirN f to).l t)).ino), aI ((findN f (getI (dirN f to).l t)).kind), aI ((findN f (getI (dirN f to).l t)).links), aS ((findN f (getI (dirN f to).l t)).text), .sl 2 false ((findN f (getI (dirN f to).l t)).l.map entA)], .dptr [aI dir], .dptr [aS s], .dptr [aI ((lookN f dir s).ino), aI ((lookN f dir s).kind), aI ((lookN f dir s).links), aS ((lookN f dir s).text), .sl 2 false ((lookN f dir s).l.map entA)]]]) ⟨Sub.refl _, Sub.refl _, Sub.refl _, trivial⟩ (unless4_spec (overE (lookN f dir s) (findN f (getI (dirN f to).l t))) f dir s to t (lookN f dir s) (isB ((dirN f to).l) t) (findN f (getI (dirN f to).l t)) okf hp hs ht (look_node okf hp).1.1 (find_I64 okf hp _) (by have := find_links hp (getI (dirN f to).l t); omega) (fun he => mov_H okf hp (show mov1 f dir s to t = 0 from bneF q1) (fun hb => he))) <|
 .run 4 [b6 = b6] ⟨rfl, trivial⟩ <|
 .fin (x := .tup [.agg [.sl 5 false ((if overE (lookN f dir s) (findN f (getI (dirN f to).l t)) = 0 then mov0 f dir s to t (lookN f dir s) (isB ((dirN f to).l) t) (findN f (getI (dirN f to).l t)) else f).l.map nodA), aI ((if overE (lookN f dir s) (findN f (getI (dirN f to).l t)) = 0 then mov0 f dir s to t (lookN f dir s) (isB ((dirN f to).l) t) (findN f (getI (dirN f to).l t)) else f).next)], aI (overE (lookN f dir s) (findN f (getI (dirN f to).l t)))]) (r := .tup [.agg (fsyA (movF f dir s to t)), aI (movErr f dir s to t)]) [b6 = b6] ⟨rfl, trivial⟩ (by
    have h1 : mov1 f dir s to t = 0 := (bneF q1)
    have e1 : movErr f dir s to t = mov2 f dir s to t := if_pos h1
    rw [e1]
    have hb : movB f to t = true := q2
    have hi : ¬ movI f to t = (lookN f dir s).ino := (beqF q4)
    have e3 : mov2 f dir s to t = overE (lookN f dir s) (findN f (movI f to t)) := by unfold mov2; rw [if_neg (by rw [hb]; decide), if_neg hi]
    have e2 : movF f dir s to t = if mov2 f dir s to t = 0 then mov0 f dir s to t (lookN f dir s) (movB f to t) (findN f (movI f to t)) else f := by unfold movF; rw [if_pos h1, if_neg (fun h => hi h.2)]
    rw [e2, e3]
    exact Sub.refl _)) Tryz.func85 rfl (by kernel_rfl) (by kernel_rfl)
end Go.Proofs.YtkhnialfkndiiaaGreat

namespace Copyhold
open Go Ieee
def IsN (d : Datum) (n : Nat) : Prop := ∃ (s : Nat), d = .number false (n * 2 ^ s) (-(s : Int)) ∧ s ≤ 1074
theorem signed_up (a s m : Nat) (h : s ≤ m) : signed false (a * 2 ^ s) (m - s) = ((a * 2 ^ m : Nat) : Int) := by
  unfold signed
  rw [if_neg (by decide), Nat.shiftLeft_eq, Nat.mul_assoc, ← Nat.pow_add, show s + (m - s) = m from by omega]
theorem low1 (u v : Nat) : (-(u : Int) - min (-(u : Int)) (-(v : Int))).toNat = max u v - u := by omega
theorem low2 (u v : Nat) : (-(v : Int) - min (-(u : Int)) (-(v : Int))).toNat = max u v - v := by omega
theorem order_isN {d e : Datum} {a b : Nat} (ha : IsN d a) (hb : IsN e b) : d.order e = some (compare a b) := by
  obtain ⟨s, rfl, _⟩ := ha
  obtain ⟨t, rfl, _⟩ := hb
  simp only [Datum.order]
  rw [low1, low2, signed_up a s _ (by omega), signed_up b t _ (by omega)]
  have hp : 0 < 2 ^ max s t := Nat.pow_pos (by decide)
  generalize 2 ^ max s t = p at hp
  congr 1
  rcases Nat.lt_trichotomy a b with h | h | h
  · have h2 : a * p < b * p := Nat.mul_lt_mul_of_pos_right h hp
    rw [Nat.compare_eq_lt.2 h]
    exact Int.compare_eq_lt.2 (by omega)
  · subst h
    rw [Nat.compare_eq_eq.2 rfl]
    exact Int.compare_eq_eq.2 rfl
  · have h2 : b * p < a * p := Nat.mul_lt_mul_of_pos_right h hp
    rw [Nat.compare_eq_gt.2 h]
    exact Int.compare_eq_gt.2 (by omega)
theorem sum_isN {d e : Datum} {a b : Nat} (ha : IsN d a) (hb : IsN e b) : ∃ r, d.sum e = some r ∧ IsN r (a + b) := by
  obtain ⟨s, rfl, hs⟩ := ha
  obtain ⟨t, rfl, ht⟩ := hb
  simp only [Datum.sum]
  refine ⟨_, rfl, max s t, ?_, by omega⟩
  have e3 : signed false (a * 2 ^ s) (-(s : Int) - min (-(s : Int)) (-(t : Int))).toNat + signed false (b * 2 ^ t) (-(t : Int) - min (-(s : Int)) (-(t : Int))).toNat = (((a + b) * 2 ^ max s t : Nat) : Int) := by
    rw [low1, low2, signed_up a s _ (by omega), signed_up b t _ (by omega), Nat.add_mul]; omega
  simp only [e3]
  congr 1
  · split
    · rfl
    · exact decide_eq_false (Int.not_lt.2 (Int.natCast_nonneg _))
  · omega
theorem log2_mul_pow (n s : Nat) (h : n ≠ 0) : (n * 2 ^ s).log2 = n.log2 + s := by
  have hp : 0 < 2 ^ s := Nat.pow_pos (by decide)
  have hn : n * 2 ^ s ≠ 0 := by have := Nat.mul_pos (Nat.pos_of_ne_zero h) hp; omega
  rw [Nat.log2_eq_iff hn]
  have h1 := (Nat.log2_eq_iff h).1 rfl
  constructor
  · rw [Nat.pow_add]; exact Nat.mul_le_mul_right _ h1.1
  · rw [show n.log2 + s + 1 = (n.log2 + 1) + s from by omega, Nat.pow_add]; exact Nat.mul_lt_mul_of_pos_right h1.2 hp
theorem cut_exact (way : Toward) (neg : Bool) (n s : Nat) : way.cut neg (n * 2 ^ s) s = n := by
  have hp : 0 < 2 ^ s := Nat.pow_pos (by decide)
  by_cases h0 : n = 0
  · subst h0
    simp only [Toward.cut, Nat.zero_mul, Nat.zero_div, Nat.zero_mod]
    cases way <;> simp
    all_goals (try omega)
  · have hl := log2_mul_pow n s h0
    have hm : min s ((n * 2 ^ s).log2 + 2) = s := by rw [hl]; omega
    simp only [Toward.cut, hm, Nat.one_shiftLeft, Nat.mul_div_cancel _ hp, Nat.mul_mod_left]
    cases way <;> simp
    all_goals (try omega)
theorem nearest_up (n s : Nat) (hn : n < 2 ^ 53) (h0 : n ≠ 0) (hs : s ≤ 1074) : double.nearest false (n * 2 ^ s) (-(s : Int)) = (n.log2 + 1022) * 2 ^ 52 + n * 2 ^ (52 - n.log2) := by
  have hp : 0 < 2 ^ s := Nat.pow_pos (by decide)
  have hne : n * 2 ^ s ≠ 0 := by have := Nat.mul_pos (Nat.pos_of_ne_zero h0) hp; omega
  have hl := log2_mul_pow n s h0
  have hk : n.log2 ≤ 52 := by
    have := (Nat.log2_lt h0).2 hn
    omega
  have hlast : max (-(s : Int) + ((n * 2 ^ s).log2 : Int) - (double.fractionBits : Int)) double.leastPlace = (n.log2 : Int) - 52 := by
    rw [hl]
    simp only [double, Format.leastPlace]
    have : (2 : Int) ^ (11 - 1) = 1024 := by decide
    omega
  unfold Format.nearest
  rw [if_neg hne]
  simp only [hlast]
  have hfin : ∀ kept, kept = n * 2 ^ (52 - n.log2) → double.word false (min (((n.log2 : Int) - 52 - double.leastPlace).toNat * double.binade + kept) double.infRung) = (n.log2 + 1022) * 2 ^ 52 + n * 2 ^ (52 - n.log2) := by
    rintro kept rfl
    have e1 : ((n.log2 : Int) - 52 - double.leastPlace).toNat = n.log2 + 1022 := by
      simp only [double, Format.leastPlace]
      have : (2 : Int) ^ (11 - 1) = 1024 := by decide
      omega
    have e2 : double.binade = 2 ^ 52 := rfl
    have e3 : double.infRung = 2047 * 2 ^ 52 := rfl
    rw [e1, e2, e3]
    have hb : n * 2 ^ (52 - n.log2) < 2 ^ 53 := by
      have := (Nat.log2_eq_iff h0).1 rfl
      have h3 : n * 2 ^ (52 - n.log2) < 2 ^ (n.log2 + 1) * 2 ^ (52 - n.log2) := Nat.mul_lt_mul_of_pos_right this.2 (Nat.pow_pos (by decide))
      rw [← Nat.pow_add, show n.log2 + 1 + (52 - n.log2) = 53 from by omega] at h3
      exact h3
    have hb2 : (n.log2 + 1022) * 2 ^ 52 ≤ 1074 * 2 ^ 52 := Nat.mul_le_mul_right _ (by omega)
    have hle : (n.log2 + 1022) * 2 ^ 52 + n * 2 ^ (52 - n.log2) ≤ 2047 * 2 ^ 52 := by
      rw [show (2 : Nat) ^ 53 = 2 * 2 ^ 52 from by rw [Nat.pow_succ, Nat.mul_comm]] at hb
      generalize (2 : Nat) ^ 52 = M at *
      generalize (n.log2 + 1022) * M = A at *
      generalize n * 2 ^ (52 - n.log2) = B at *
      omega
    simp only [Format.word]
    rw [if_neg (by decide), Nat.min_eq_left hle]
  apply hfin
  by_cases h : s ≤ 52 - n.log2
  · rw [show ((n.log2 : Int) - 52 - -(s : Int)).toNat = 0 from by omega, show (-(s : Int) - ((n.log2 : Int) - 52)).toNat = 52 - n.log2 - s from by omega, Nat.shiftLeft_eq, Nat.mul_assoc, ← Nat.pow_add, show s + (52 - n.log2 - s) = 52 - n.log2 from by omega]
    have := cut_exact .even false (n * 2 ^ (52 - n.log2)) 0
    simpa using this
  · rw [show ((n.log2 : Int) - 52 - -(s : Int)).toNat = s - (52 - n.log2) from by omega, show (-(s : Int) - ((n.log2 : Int) - 52)).toNat = 0 from by omega, Nat.shiftLeft_zero]
    have := cut_exact .even false (n * 2 ^ (52 - n.log2)) (s - (52 - n.log2))
    rw [Nat.mul_assoc, ← Nat.pow_add, show 52 - n.log2 + (s - (52 - n.log2)) = s from by omega] at this
    exact this
def fl (n : Nat) : Nat := floatOfInt .f64 (n : Int)
theorem fl_eq (n : Nat) (hn : n < 2 ^ 53) (h0 : n ≠ 0) : fl n = (n.log2 + 1022) * 2 ^ 52 + n * 2 ^ (52 - n.log2) := by
  have h := nearest_up n 0 hn h0 (by decide)
  rw [Nat.pow_zero, Nat.mul_one] at h
  exact h
theorem fl_zero : fl 0 = 0 := rfl
theorem read_fl (n : Nat) (hn : n < 2 ^ 53) : IsN (double.read (fl n)) n := by
  by_cases h0 : n = 0
  · subst h0
    obtain ⟨s, hs⟩ : ∃ s : Nat, s = 1074 := ⟨_, rfl⟩
    refine ⟨s, ?_, by omega⟩
    rw [Nat.zero_mul, show (-(s : Int)) = -1074 from by omega]
    rfl
  · have hk : n.log2 ≤ 52 := by
      have := (Nat.log2_lt h0).2 hn
      omega
    have hlo : 2 ^ 52 ≤ n * 2 ^ (52 - n.log2) := by
      have := (Nat.log2_eq_iff h0).1 rfl
      have h3 : 2 ^ n.log2 * 2 ^ (52 - n.log2) ≤ n * 2 ^ (52 - n.log2) := Nat.mul_le_mul_right _ this.1
      rwa [← Nat.pow_add, show n.log2 + (52 - n.log2) = 52 from by omega] at h3
    have hhi : n * 2 ^ (52 - n.log2) < 2 * 2 ^ 52 := by
      have := (Nat.log2_eq_iff h0).1 rfl
      have h3 : n * 2 ^ (52 - n.log2) < 2 ^ (n.log2 + 1) * 2 ^ (52 - n.log2) := Nat.mul_lt_mul_of_pos_right this.2 (Nat.pow_pos (by decide))
      rw [← Nat.pow_add, show n.log2 + 1 + (52 - n.log2) = 53 from by omega] at h3
      rwa [show (2 : Nat) ^ 53 = 2 * 2 ^ 52 from by rw [Nat.pow_succ, Nat.mul_comm]] at h3
    refine ⟨52 - n.log2, ?_, by omega⟩
    rw [fl_eq n hn h0]
    have hsw : double.signWeight = 2048 * 2 ^ 52 := rfl
    have hbi : double.binade = 2 ^ 52 := rfl
    have hin : double.infRung = 2047 * 2 ^ 52 := rfl
    have hlp : double.leastPlace = -1074 := rfl
    unfold Format.read
    simp only [hsw, hbi, hin, hlp]
    have hM : 0 < (2 : Nat) ^ 52 := Nat.pow_pos (by decide)
    generalize hB : n * 2 ^ (52 - n.log2) = B at *
    obtain ⟨c, rfl⟩ : ∃ c, B = 2 ^ 52 + c := ⟨B - 2 ^ 52, by omega⟩
    generalize (2 : Nat) ^ 52 = M at *
    have hc : c < M := by omega
    have e0 : (n.log2 + 1022) * M + (M + c) = c + (n.log2 + 1023) * M := by
      rw [show n.log2 + 1023 = n.log2 + 1022 + 1 from by omega, Nat.add_mul (n.log2 + 1022) 1 M]; omega
    have hlt : c + (n.log2 + 1023) * M < 2047 * M := by
      have : (n.log2 + 1023) * M ≤ 1075 * M := Nat.mul_le_mul_right _ (by omega)
      omega
    rw [e0]
    have hdiv : (c + (n.log2 + 1023) * M) / M = n.log2 + 1023 := by rw [Nat.add_mul_div_right _ _ hM, Nat.div_eq_of_lt hc, Nat.zero_add]
    have hmod : (c + (n.log2 + 1023) * M) % M = c := by rw [Nat.add_mul_mod_self_right, Nat.mod_eq_of_lt hc]
    have hge : ¬ (c + (n.log2 + 1023) * M) < M := by
      have : 1 * M ≤ (n.log2 + 1023) * M := Nat.mul_le_mul_right _ (by omega)
      omega
    rw [Nat.mod_eq_of_lt (by omega), Nat.div_eq_of_lt (by omega), if_neg hge, if_pos hlt, hdiv, hmod]
    have e9 : (-1074 + ((n.log2 + 1023 - 1 : Nat) : Int)) = -((52 - n.log2 : Nat) : Int) := by
      clear hlt hge hdiv hmod e0 hhi hn hB hlo
      omega
    rw [e9]
    rfl
theorem fl_order (a b : Nat) (ha : a < 2 ^ 53) (hb : b < 2 ^ 53) : FloatKind.f64.format.order (fl a) (fl b) = some (compare a b) :=
  order_isN (read_fl a ha) (read_fl b hb)
theorem fl_add (a b : Nat) (h : a + b < 2 ^ 53) : FloatKind.f64.format.add (fl a) (fl b) = some (fl (a + b)) := by
  obtain ⟨r, hr, s, rfl, hs⟩ := sum_isN (read_fl a (Nat.lt_of_le_of_lt (Nat.le_add_right a b) h)) (read_fl b (Nat.lt_of_le_of_lt (Nat.le_add_left b a) h))
  show ((double.read (fl a)).sum (double.read (fl b))).map double.write = _
  rw [hr, Option.map_some]
  congr 1
  show double.nearest false ((a + b) * 2 ^ s) (-(s : Int)) = _
  by_cases h0 : a + b = 0
  · rw [h0, Nat.zero_mul, fl_zero]
    simp [Format.nearest, Format.word]
  · rw [nearest_up _ _ h h0 hs, fl_eq _ h h0]
end Copyhold

namespace Go.Proofs.YtkhnialfkndiiaaGreat
open Go.RowKit Copyhold
theorem fl_conv (n : Nat) : floatOfInt .f64 (n : Int) = fl n := rfl
theorem span_lay (a b : Nat) (w : World) :
    Calls Tryz.prog 159 #[.int .i64 a, .int .i64 b] w fun e w' => e = .returned (.complex .f64 (fl a) (fl b)) ∧ w = w' := by
  have ha := fl_conv a
  have hb := fl_conv b
  go_enter Tryz.func159, Tryz.ntmps159
  go_wp2
  go_ret
  exact ⟨rfl, rfl⟩
def ofOk (a b : Int) : Prop := 0 ≤ a ∧ 0 ≤ b ∧ a ≤ 1099511627776 ∧ b ≤ 1099511627776 - a
theorem span_Of_ok (a b : Nat) (w : World) (h : ofOk a b) :
    Calls Tryz.prog 134 #[.int .i64 a, .int .i64 b] w fun e w' => e = .returned (.tuple #[.complex .f64 (fl a) (fl b), .int .i64 0]) ∧ w = w' := by
  obtain ⟨_, _, h3, h4⟩ := h
  have h1 : (0 : Int) ≤ (a : Int) := by omega
  have h2 : (0 : Int) ≤ (b : Int) := by omega
  go_enter Tryz.func134, Tryz.ntmps134
  go_wp2_with (go_at_call 159; refine (span_lay a b _).mono ?_; rintro e w' ⟨rfl, rfl⟩)
  go_ret2
  exact ⟨rfl, rfl⟩
theorem span_Of_bad (a b : Int) (w : World) (ha1 : -9223372036854775808 ≤ a) (ha2 : a ≤ 9223372036854775807) (hb1 : -9223372036854775808 ≤ b) (hb2 : b ≤ 9223372036854775807) (h : ¬ ofOk a b) :
    Calls Tryz.prog 134 #[.int .i64 a, .int .i64 b] w fun e w' => e = .returned (.tuple #[.complex .f64 0 0, .int .i64 1]) ∧ w = w' := by
  unfold ofOk at h
  rcases (show a < 0 ∨ 0 ≤ a ∧ b < 0 ∨ 0 ≤ a ∧ 0 ≤ b ∧ 1099511627776 < a ∨ 0 ≤ a ∧ 0 ≤ b ∧ a ≤ 1099511627776 ∧ 1099511627776 - a < b from by omega) with h1 | ⟨h1, h2⟩ | ⟨h1, h2, h3⟩ | ⟨h1, h2, h3, h4⟩
  all_goals
    clear h
    go_enter Tryz.func134, Tryz.ntmps134
    go_wp2_with fail
    go_ret2
    exact ⟨rfl, rfl⟩
end Go.Proofs.YtkhnialfkndiiaaGreat

namespace Go.Proofs.YtkhnialfkndiiaaGreat
open Go.RowKit Copyhold
attribute [local go_sem] piece
def readD (l : List UInt8) (a b : Int) : List UInt8 × Int :=
  if 0 ≤ a ∧ 0 ≤ b ∧ a ≤ 1099511627776 ∧ b ≤ 1099511627776 - a then ((l.drop a.toNat).take b.toNat, 0) else ([], 1)
set_option maxHeartbeats 1000000 in
theorem data_Read (l : List UInt8) (a b : Int) (w : World) (hl : l.length ≤ 140737488355328) (ha1 : -9223372036854775808 ≤ a) (ha2 : a ≤ 9223372036854775807) (hb1 : -9223372036854775808 ≤ b) (hb2 : b ≤ 9223372036854775807) :
    Calls Tryz.prog 110 #[.string ⟨l.toArray⟩, .int .i64 a, .int .i64 b] w fun e w' => e = .returned (.tuple #[.string ⟨(readD l a b).1.toArray⟩, .int .i64 (readD l a b).2]) ∧ w = w' := by
  by_cases h : ofOk a b
  · have hr : readD l a b = ((l.drop a.toNat).take b.toNat, 0) := if_pos h
    obtain ⟨h1, h2, h3, h4⟩ := id h
    obtain ⟨a, rfl⟩ := Int.eq_ofNat_of_zero_le h1
    obtain ⟨b, rfl⟩ := Int.eq_ofNat_of_zero_le h2
    rw [Int.toNat_natCast, Int.toNat_natCast] at hr
    have HR := Lib.hid hr
    have HO := Lib.hid h
    clear hr h ha1 hb1
    go_enter Tryz.func110, Tryz.ntmps110
    go_wp2_with fail
    refine (span_Of_ok a b _ HO.out).mono ?_
    rintro e w' ⟨rfl, rfl⟩
    rcases (show l.length < a ∨ a ≤ l.length ∧ l.length < a + b ∨ a + b ≤ l.length from by omega) with q | ⟨q, q'⟩ | q
    · go_wp2_with fail
      go_ret2
      refine ⟨?_, rfl⟩
      rw [HR.out]
      exact ret2 (congrArg (fun x : List UInt8 => Value.string ⟨x.toArray⟩) (by rw [List.drop_eq_nil_of_le (by omega), List.take_nil])) rfl
    · go_wp2_with fail
      go_ret2
      refine ⟨?_, rfl⟩
      rw [HR.out]
      exact ret2 (congrArg (fun x : List UInt8 => Value.string ⟨x.toArray⟩) (by rw [List.take_of_length_le (by rw [List.length_drop]; omega)])) rfl
    · go_wp2_with fail
      go_ret2
      refine ⟨?_, rfl⟩
      rw [HR.out]
      exact ret2 (congrArg (fun x : List UInt8 => Value.string ⟨x.toArray⟩) (by rw [List.drop_take, Nat.add_sub_cancel_left])) rfl
  · have hr : readD l a b = ([], 1) := if_neg h
    have HR := Lib.hid hr
    go_enter Tryz.func110, Tryz.ntmps110
    go_wp2_with fail
    refine (span_Of_bad a b _ ha1 ha2 hb1 hb2 h).mono ?_
    rintro e w' ⟨rfl, rfl⟩
    go_wp2_with fail
    go_ret2
    exact ⟨by rw [HR.out]; rfl, rfl⟩
def refusedD (a b : Int) : Int := if 0 ≤ a ∧ 0 ≤ b ∧ a ≤ 1099511627776 ∧ b ≤ 1099511627776 - a then (if a + b > 4096 then 5 else 0) else 1
theorem fl_4096 : fl 4096 = 4661225614328463360 := by decide +kernel
set_option maxHeartbeats 1000000 in
theorem data_refused (a b : Int) (w : World) (ha1 : -9223372036854775808 ≤ a) (ha2 : a ≤ 9223372036854775807) (hb1 : -9223372036854775808 ≤ b) (hb2 : b ≤ 9223372036854775807) :
    Calls Tryz.prog 135 #[.int .i64 a, .int .i64 b] w fun e w' => e = .returned (.int .i64 (refusedD a b)) ∧ w = w' := by
  by_cases h : ofOk a b
  · have hr : refusedD a b = if a + b > 4096 then 5 else 0 := if_pos h
    obtain ⟨h1, h2, h3, h4⟩ := id h
    obtain ⟨a, rfl⟩ := Int.eq_ofNat_of_zero_le h1
    obtain ⟨b, rfl⟩ := Int.eq_ofNat_of_zero_le h2
    have hadd := run_float_arith (P := Tryz.prog) w .add 180 .f64 (fl a) (fl b) (fl (a + b)) (fl_add a b (by omega))
    have hord := fl_order (a + b) 4096 (by omega) (by decide)
    rw [fl_4096] at hord
    have HR := Lib.hid hr
    have HO := Lib.hid h
    clear hr h ha1 hb1
    by_cases h5 : 4096 < a + b
    · have hf : refusedD a b = 5 := by rw [HR.out, if_pos (by omega)]
      rw [Nat.compare_eq_gt.2 h5] at hord
      have HF := Lib.hid hf
      clear hf HR
      go_enter Tryz.func135, Tryz.ntmps135
      go_wp2_with fail
      refine (span_Of_ok a b _ HO.out).mono ?_
      rintro e w' ⟨rfl, rfl⟩
      go_wp2_with fail
      go_ret
      exact ⟨by rw [HF.out]; rfl, rfl⟩
    · have hf : refusedD a b = 0 := by rw [HR.out, if_neg (by omega)]
      have HF := Lib.hid hf
      clear hf HR
      rcases Nat.lt_or_eq_of_le (Nat.not_lt.1 h5) with h6 | h6
      · rw [Nat.compare_eq_lt.2 h6] at hord
        clear h6
        go_enter Tryz.func135, Tryz.ntmps135
        go_wp2_with fail
        refine (span_Of_ok a b _ HO.out).mono ?_
        rintro e w' ⟨rfl, rfl⟩
        go_wp2_with fail
        go_ret
        exact ⟨by rw [HF.out]; rfl, rfl⟩
      · rw [Nat.compare_eq_eq.2 h6] at hord
        clear h6
        go_enter Tryz.func135, Tryz.ntmps135
        go_wp2_with fail
        refine (span_Of_ok a b _ HO.out).mono ?_
        rintro e w' ⟨rfl, rfl⟩
        go_wp2_with fail
        go_ret
        exact ⟨by rw [HF.out]; rfl, rfl⟩
  · have hr : refusedD a b = 1 := if_neg h
    have HR := Lib.hid hr
    go_enter Tryz.func135, Tryz.ntmps135
    go_wp2_with fail
    refine (span_Of_bad a b _ ha1 ha2 hb1 hb2 h).mono ?_
    rintro e w' ⟨rfl, rfl⟩
    go_wp2_with fail
    go_ret
    exact ⟨by rw [HR.out]; rfl, rfl⟩
end Go.Proofs.YtkhnialfkndiiaaGreat
