import Derived.Test.YtkhnialfkndiiaaGreatMrgT
import Derived.Test.YtkhnialfkndiiaaGreatMrgV
import Derived.Test.YtkhnialfkndiiaaGreatMrgW
import Derived.Laws.FloatArith
import Derived.Laws.ComplexArith
import Derived.Test.YtkhnialfkndiiaaGreatRows
import Derived.Test.YtkhnialfkndiiaaGreatMrgA
set_option maxRecDepth 100000
set_option maxHeartbeats 8000000
set_option linter.unusedVariables false
set_option linter.unusedSimpArgs false
namespace Go.Proofs.YtkhnialfkndiiaaGreat
open Go Go.RowKit Copyhold
open Copyhold.Name (Srt insE delE getE isAt)
theorem under_reach {f : Fsy} {i z : Int} (hp : rowsP f) (hf : midF f) : hasB (underF f i) z = hasB (reachF f i) z := by
 rw [Bool.eq_iff_iff, under_iffM hp hf, reach_iff]
theorem over_8 {n m : Nod} (h1 : n.kind = 2) (h2 : ¬ m.kind = 2) : overE n m = 8 := by
 unfold overE
 have a : (n.kind == 2) = true := by simpa using h1
 have b : (m.kind == 2) = false := by simpa using h2
 rw [a, b]; rfl
theorem over_9 {n m : Nod} (h1 : ¬ n.kind = 2) (h2 : m.kind = 2) : overE n m = 9 := by
 unfold overE
 have a : (n.kind == 2) = false := by simpa using h1
 have b : (m.kind == 2) = true := by simpa using h2
 rw [a, b]; rfl
theorem over_11 {n m : Nod} (hm : nodP m) (h : m.kind = 2 ↔ n.kind = 2) (hl : (m.l.length : Int) > 0) : overE n m = 11 := by
 have hk : m.kind = 2 := by
  by_cases hk : m.kind = 2
  ·exact hk
  ·rw [file_none hm hk] at hl; simp at hl
 unfold overE fullB
 have a : (n.kind == 2) = true := by simpa using h.1 hk
 have b : (m.kind == 2) = true := by simpa using hk
 rw [a, b, decide_eq_true hl]; rfl
theorem over_0 {n m : Nod} (h : m.kind = 2 ↔ n.kind = 2) (hl : ¬ (m.l.length : Int) > 0) : overE n m = 0 := by
 unfold overE fullB
 rw [decide_eq_false hl]
 by_cases hk : n.kind = 2
 ·have a : (n.kind == 2) = true := by simpa using hk
  have b : (m.kind == 2) = true := by simpa using h.2 hk
  rw [a, b]; rfl
 ·have a : (n.kind == 2) = false := by simpa using hk
  have b : (m.kind == 2) = false := by simpa using fun e => hk (h.1 e)
  rw [a, b]; rfl
theorem mov_err {f : Fsy} {dir : Int} {s : Txt} {to : Int} {t : Txt} {v : Int} (h : mov1 f dir s to t = v) (hv : ¬ v = 0) : movErr f dir s to t = v ∧ movF f dir s to t = f := by
 have hn : ¬ mov1 f dir s to t = 0 := by rw [h]; exact hv
 exact ⟨by unfold movErr; rw [if_neg hn, h], if_neg hn⟩
theorem ref_movC {f : Fsy} {dir : Int} {s : Txt} {to : Int} {t : Txt} (okf : OkF f) (T : TreeP f) (h1 : mov1 f dir s to t = 0) (h6 : ¬ lookE f to t = 0) :
  OkF (leaveF f dir s) ∧ rowsP (leaveF f dir s) ∧ (dir ≠ to ∧ ((findN f to).l.length : Int) ≥ 256 → movErr f dir s to t = 12 ∧ movF f dir s to t = f) ∧
   (¬ (dir ≠ to ∧ ((findN f to).l.length : Int) ≥ 256) → movErr f dir s to t = 0 ∧ movF f dir s to t = enterF (leaveF f dir s) to t (lookN f dir s).ino) := by
 have hp := T.rows
 obtain ⟨d, dt, n, j, A⟩ := mov_of hp h1
 obtain ⟨e1, e2, e3⟩ := A.mB
 obtain ⟨l1, l2, _⟩ := leave_all (s := s) okf hp A.dir A.kind
 have hb : isB dt.l t = false := by
  cases hb : isB dt.l t with
  | false => rfl
  | true =>
   obtain ⟨i2, hg⟩ : ∃ i, getE (lI dt.l) t = some i := by
    rw [isB_get] at hb
    cases hg : getE (lI dt.l) t with
    | none => rw [hg] at hb; cases hb
    | some i => exact ⟨i, rfl⟩
   obtain ⟨⟨m, hm⟩, _⟩ := T.kid to i2 (get_kid A.to A.kindt hg)
   exact absurd (look_at A.to A.kindt A.chkt hg hm).1 h6
 have hfd : findN f to = dt := (at_BN A.to).2
 have hE : movErr f dir s to t = mov2 f dir s to t := by unfold movErr; rw [if_pos h1]
 have h2 : mov2 f dir s to t = whenE ((to != dir) && decide ((dt.l.length : Int) ≥ 256)) 12 := by unfold mov2; rw [if_pos (by rw [e1, hb]), e3]
 have hF : movF f dir s to t = if mov2 f dir s to t = 0 then enterF (leaveF f dir s) to t n.ino else f := by
  have e0 : mov0 f dir s to t n (movB f to t) (findN f (movI f to t)) = enterF (leaveF f dir s) to t n.ino := by
   unfold mov0
   rw [if_neg (by rw [e1, hb]; decide)]
  unfold movF
  rw [if_pos h1, if_neg (fun h => by rw [e1, hb] at h; cases h.1), A.look, e0]
 rw [hfd, hE, hF, A.look]
 refine ⟨l1, l2, fun ⟨ha, hl⟩ => ?_, fun h => ?_⟩
 ·have hv : mov2 f dir s to t = 12 := by
   rw [h2, decide_eq_true hl, show (to != dir) = true from by simpa using fun e => ha e.symm]; rfl
  rw [hv]
  exact ⟨rfl, rfl⟩
 ·have hv : mov2 f dir s to t = 0 := by
   rw [h2]
   by_cases ha : dir = to
   ·rw [show (to != dir) = false from by simpa using ha.symm]; rfl
   ·rw [decide_eq_false (fun hl => h ⟨ha, hl⟩), Bool.and_false]; rfl
  rw [hv]
  exact ⟨rfl, rfl⟩
theorem ref_movB {f : Fsy} {dir : Int} {s : Txt} {to : Int} {t : Txt} (okf : OkF f) (T : TreeP f) (h1 : mov1 f dir s to t = 0) (h6 : lookE f to t = 0) :
  nodP (lookN f to t) ∧ ((lookN f to t).ino = (lookN f dir s).ino → movErr f dir s to t = 0 ∧ movF f dir s to t = f) ∧
  (¬ (lookN f to t).ino = (lookN f dir s).ino → movErr f dir s to t = overE (lookN f dir s) (lookN f to t) ∧ (¬ overE (lookN f dir s) (lookN f to t) = 0 → movF f dir s to t = f) ∧
   (overE (lookN f dir s) (lookN f to t) = 0 → movF f dir s to t = enterF (leaveF (awayF f to t (lookN f to t)) dir s) to t (lookN f dir s).ino ∧
    OkF (leaveF f to t) ∧ rowsP (leaveF f to t) ∧ lessF (leaveF f to t) (lookN f to t).ino = awayF f to t (lookN f to t) ∧ OkF (awayF f to t (lookN f to t)) ∧ rowsP (awayF f to t (lookN f to t)) ∧
    OkF (leaveF (awayF f to t (lookN f to t)) dir s) ∧ rowsP (leaveF (awayF f to t (lookN f to t)) dir s) ∧ ((findN (awayF f to t (lookN f to t)) to).l.length : Int) < 256)) := by
 have hp := T.rows
 obtain ⟨d, dt, n, j, A⟩ := mov_of hp h1
 obtain ⟨e1, e2, e3⟩ := A.mB
 obtain ⟨dt', i2, m, b1, b2, b3, b4, b5⟩ := (look_iff hp).1 h6
 have hdt : dt' = dt := by rw [A.to] at b1; exact (Option.some.inj b1).symm
 subst hdt
 have hlm := (look_at b1 b2 b3 b4 b5).2
 have hb : isB dt'.l t = true := by rw [isB_get, b4]; rfl
 have hmi := at_ino b5
 have hnj := A.nino
 have hI : getI dt'.l t = i2 := by rw [getI_get, b4]; rfl
 have hfm : findN f (getI dt'.l t) = m := by rw [hI]; exact (at_BN b5).2
 have hE : movErr f dir s to t = mov2 f dir s to t := by unfold movErr; rw [if_pos h1]
 rw [hlm, A.look]
 refine ⟨(rows_at hp b5).1, fun he => ?_, fun he => ?_⟩
 ·have hij : movI f to t = n.ino := by rw [e2, hI, ← hmi]; exact he
  refine ⟨?_, ?_⟩
  ·rw [hE]; unfold mov2; rw [if_neg (by rw [e1, hb]; decide), if_pos (by rw [A.look]; exact hij)]
  ·unfold movF; rw [if_pos h1, if_pos ⟨by rw [e1, hb], by rw [A.look]; exact hij⟩]
 ·have hij : ¬ movI f to t = n.ino := by rw [e2, hI, ← hmi]; exact he
  have h2 : mov2 f dir s to t = overE n m := by
   unfold mov2
   rw [if_neg (by rw [e1, hb]; decide), if_neg (by rw [A.look]; exact hij), A.look, e2, hfm]
  have hF : movF f dir s to t = if overE n m = 0 then enterF (leaveF (awayF f to t m) dir s) to t n.ino else f := by
   have e0 : mov0 f dir s to t n (movB f to t) (findN f (movI f to t)) = enterF (leaveF (awayF f to t m) dir s) to t n.ino := by
    unfold mov0
    rw [if_pos (by rw [e1, hb]), e2, hfm]
   unfold movF
   rw [if_pos h1, if_neg (fun h => hij (by have := h.2; rw [A.look] at this; exact this)), h2, A.look, e0]
  refine ⟨hE.trans h2, fun h => by rw [hF, if_neg h], fun h => ?_⟩
  obtain ⟨K, k2, k3, k4⟩ := kept_away okf T b1 b2 b4 b5 (over_full h).1
  obtain ⟨w1, w2, w3, w4, w5⟩ := away_all (s := t) okf hp b1 b2 (n := m) (.inl (by rw [hmi]; exact b5))
  obtain ⟨l1, l2, l3, l4, l5⟩ := leave_all (s := t) okf hp b1 b2
  have hH := mov_H okf hp h1 (fun _ => by rw [A.look, e2, hfm]; exact h)
  rw [e1, e2, hfm, hb] at hH
  obtain ⟨q1, q2, q3, q4⟩ := hH.1 rfl
  refine ⟨by rw [hF, if_pos h], l1, l2, less_away ?_, w1, w2, q3, q4, ?_⟩
  ·refine (at_BN ?_).2
   rw [hmi, l5, if_neg k2]
   exact b5
  ·have hst := row_srt (dir_row (rows_at hp b1).1 b2).2
   have hrow := (dir_row (rows_at hp b1).1 b2).2
   have hto : atF (awayF f to t m) to = some (withL dt' (delL dt'.l t)) := by rw [w5, if_neg (fun e => k2 (by rw [← hmi]; exact e.symm)), if_pos rfl]
   rw [(at_BN hto).2]
   show ((delL dt'.l t).length : Int) < 256
   have := del_len1 hst b4
   have := hrow.1
   omega
theorem rbelow_spec (f : Fsy) (i t : Int) (okf : OkF f) (hf : midF f) : FSpec Tryz.prog 95 [.agg (fsyA f), aI i, aI t] (aB (hasB (underF f t) i)) := by
 exact spec_vc (F := Tryz.f95) 400 (
 .new fun b1 => .r 1 <| .run 2 [b1 = b1] rt1 <|
 .call (under_specM f t okf hf) <|
 .r 1 <| .call (has_spec (underF f t) i (by have := under_leM hf t; omega)) <|
 .r 1 <| .fin (x := aB (hasB (underF f t) i)) (r := aB (hasB (underF f t) i)) [] trivial (by exact sR)) Tryz.func95 rfl (by kernel_rfl) (by kernel_rfl)
theorem rmove_spec (f : Fsy) (dir : Int) (s : Txt) (to : Int) (t : Txt) (okf : OkF f) (T : TreeP f) (hp : rowsP f) (hf : midF f) (hs : s.length ≤ 1000000) (ht : t.length ≤ 1000000) : FSpec Tryz.prog 45 [.agg (fsyA f), aI dir, aS s, aI to, aS t] (.tup [.agg (fsyA (movF f dir s to t)), aI (movErr f dir s to t)]) := by
 have hl := hp.1
 have hr := rows_rise hp
 exact spec_vc (F := Tryz.f45) 400 (
 .new fun b1 => .new fun b2 => .r 1 <| .run 3 [b1 = b1] rt1 <|
 .call (rlook_spec f dir s hp hs) <|
 .r 3 <| .new fun b3 => .run 2 [b3 = b3] rt1 <|
 .r 2 <| .br 30 ((lookE f dir s) != 0) (fun q1 => have p1 := bneT q1; .run 4 [b1 = b1, b2 = b2] rt2 <|
 .fin (x := .tup [.agg (fsyA f), aI (lookE f dir s)]) (r := .tup [.agg (fsyA (movF f dir s to t)), aI (movErr f dir s to t)]) [b2 = b2] rt1 (by
  have hm := mov_err (f := f) (dir := dir) (s := s) (to := to) (t := t) (by unfold mov1; exact first_p (bneT q1)) (bneT q1)
  rw [hm.1, hm.2]
  exact sR))
 <| fun q1 => have p1 := bneF q1; have g1 : lookE f dir s = 0 := bneF q1; .run 2 [b1 = b1] rt1 <|
 .call (rdir_spec f to hp) <|
 .r 3 <| .new fun b4 => .run 2 [b4 = b4] rt1 <|
 .r 2 <| .br 40 ((dirE f to) != 0) (fun q2 => have p2 := bneT q2; .run 4 [b1 = b1, b2 = b2] rt2 <|
 .fin (x := .tup [.agg (fsyA f), aI (dirE f to)]) (r := .tup [.agg (fsyA (movF f dir s to t)), aI (movErr f dir s to t)]) [b2 = b2] rt1 (by
  have hm := mov_err (f := f) (dir := dir) (s := s) (to := to) (t := t) (by unfold mov1; rw [first_z g1]; exact first_p (bneT q2)) (bneT q2)
  rw [hm.1, hm.2]
  exact sR))
 <| fun q2 => have p2 := bneF q2; have g2 : dirE f to = 0 := bneF q2; .r 1 <| .call (rcheck_spec t (by omega)) <|
 .r 1 <| .r 2 <| .br 46 ((checkE t) != 0) (fun q3 => have p3 := bneT q3; .run 4 [b1 = b1, b2 = b2] rt2 <|
 .fin (x := .tup [.agg (fsyA f), aI (checkE t)]) (r := .tup [.agg (fsyA (movF f dir s to t)), aI (movErr f dir s to t)]) [b2 = b2] rt1 (by
  have hm := mov_err (f := f) (dir := dir) (s := s) (to := to) (t := t) (by unfold mov1; rw [first_z g1, first_z g2]; exact first_p (bneT q3)) (bneT q3)
  rw [hm.1, hm.2]
  exact sR))
 <| fun q3 => have p3 := bneF q3; have g3 : checkE t = 0 := bneF q3; .run 4 [b3 = b3] rt1 <|
 .br 52 (((lookN f dir s).kind) == 2) (fun q4 => have p4 := beqT q4; have g4b := q4; have g4 : (lookN f dir s).kind = 2 := beqT q4; .run 5 [b3 = b3] rt1 <|
 .br 57 (to == ((lookN f dir s).ino)) (fun q5 => have p5 := beqT q5; .r 7 <| .run 3 [b1 = b1, b2 = b2] rt2 <|
 .fin (x := .tup [.agg (fsyA f), aI 13]) (r := .tup [.agg (fsyA (movF f dir s to t)), aI (movErr f dir s to t)]) [b2 = b2] rt1 (by
  have hw : withinB f to (lookN f dir s) = true := (by unfold withinB; rw [g4b, q5]; rfl)
  have hm := mov_err (f := f) (dir := dir) (s := s) (to := to) (t := t) (by unfold mov1; rw [first_z g1, first_z g2, first_z g3, hw]; first | done | rfl) (by decide)
  rw [hm.1, hm.2]
  exact sR))
 <| fun q5 => have p5 := beqF q5; have g5 := q5; .run 4 [b1 = b1, b3 = b3] rt2 <|
 .call (rbelow_spec f to (lookN f dir s).ino okf hf) <|
 .r 2 <| .br 64 (hasB (underF f (lookN f dir s).ino) to) (fun q6 => have p6 := booT q6; .run 3 [b1 = b1, b2 = b2] rt2 <|
 .fin (x := .tup [.agg (fsyA f), aI 13]) (r := .tup [.agg (fsyA (movF f dir s to t)), aI (movErr f dir s to t)]) [b2 = b2] rt1 (by
  have hw : withinB f to (lookN f dir s) = true := (by unfold withinB; rw [g4b, g5, ← under_reach hp hf, q6]; rfl)
  have hm := mov_err (f := f) (dir := dir) (s := s) (to := to) (t := t) (by unfold mov1; rw [first_z g1, first_z g2, first_z g3, hw]; first | done | rfl) (by decide)
  rw [hm.1, hm.2]
  exact sR))
 <| fun q6 => have p6 := booF q6; have hw : withinB f to (lookN f dir s) = false := (by unfold withinB; rw [g4b, g5, ← under_reach hp hf, q6]; rfl); have h1 : mov1 f dir s to t = 0 := (by unfold mov1; rw [first_z g1, first_z g2, first_z g3, hw]; rfl); .run 1 [b1 = b1] rt1 <|
 .new fun b5 => .run 1 [b5 = b5] rt1 <|
 .run 3 [b1 = b1] rt1 <|
 .call (rlook_spec f to t hp ht) <|
 .r 3 <| .new fun b6 => .run 2 [b6 = b6] rt1 <|
 .r 3 <| .br 76 ((lookE f to t) == 0) (fun q7 => have p7 := beqT q7; have g6 : lookE f to t = 0 := beqT q7; have hB := ref_movB okf T h1 g6; .run 6 [b6 = b6, b3 = b3] rt2 <|
 .br 82 (((lookN f to t).ino) == ((lookN f dir s).ino)) (fun q8 => have p8 := beqT q8; have hi := beqT q8; .run 3 [b1 = b1, b2 = b2] rt2 <|
 .fin (x := .tup [.agg (fsyA f), aI 0]) (r := .tup [.agg (fsyA (movF f dir s to t)), aI (movErr f dir s to t)]) [b2 = b2] rt1 (by
  have hc := hB.2.1 hi
  rw [hc.1, hc.2]
  exact sR))
 <| fun q8 => have p8 := beqF q8; have hi := beqF q8; have hB2 := hB.2.2 hi; .r 2 <| .is 85 q7 <| .run 4 [b3 = b3] rt1 <|
 .is 89 q4 <| .run 4 [b6 = b6] rt1 <|
 .br 93 (((lookN f to t).kind) != 2) (fun q9 => have p9 := bneT q9; have g7 : ¬ (lookN f to t).kind = 2 := bneT q9; .run 3 [b1 = b1, b2 = b2] rt2 <|
 .fin (x := .tup [.agg (fsyA f), aI 8]) (r := .tup [.agg (fsyA (movF f dir s to t)), aI (movErr f dir s to t)]) [b2 = b2] rt1 (by
  have e : overE (lookN f dir s) (lookN f to t) = 8 := over_8 g4 g7
  rw [hB2.1, hB2.2.1 (by rw [e]; decide), e]
  exact sR))
 <| fun q9 => have p9 := bneF q9; have g7 : (lookN f to t).kind = 2 := bneF q9; .run 4 [b3 = b3] rt1 <|
 .is 98 (show (((lookN f dir s).kind) != 2) = false from (by simpa [bne] using g4)) <| .r 4 <| .run 3 [b6 = b6] rt1 <|
 .val 106 (show (aI (((lookN f to t).l.map entA).length : Int) : AV) = aI (((lookN f to t).l).length : Int) from by rw [List.length_map]) <| .r 1 <| .br 107 (decide ((((lookN f to t).l).length : Int) > 0)) (fun q10 => have p10 := decT q10; .run 3 [b1 = b1, b2 = b2] rt2 <|
 .fin (x := .tup [.agg (fsyA f), aI 11]) (r := .tup [.agg (fsyA (movF f dir s to t)), aI (movErr f dir s to t)]) [b2 = b2] rt1 (by
  have e : overE (lookN f dir s) (lookN f to t) = 11 := over_11 hB.1 (by first | exact ⟨fun _ => g4, fun _ => g7⟩ | exact ⟨fun h => absurd h g7, fun h => absurd h g4⟩) (by omega)
  rw [hB2.1, hB2.2.1 (by rw [e]; decide), e]
  exact sR))
 <| fun q10 => have p10 := decF q10; have ho := over_0 (n := lookN f dir s) (m := lookN f to t) (by first | exact ⟨fun _ => g4, fun _ => g7⟩ | exact ⟨fun h => absurd h g7, fun h => absurd h g4⟩) (by omega); have gB := hB2.2.2 ho; .ord [0, 1, 2, 4, 5, 3, 6, 7] <| .run 5 [b1 = b1, b6 = b6] rt2 <|
 .call (rleft_spec f to t okf hp ht) <|
 .call ((show FSpec _ _ _ (.agg (fsyA (awayF f to t (lookN f to t)))) from gB.2.2.2.1 ▸ rless_spec (leaveF f to t) (lookN f to t).ino gB.2.1 gB.2.2.1)) <|
 .run 1 [b5 = b5] rt1 <|
 .run 2 [b5 = b5] rt1 <|
 .call (rfind_spec (awayF f to t (lookN f to t)) to (by have := gB.2.2.2.2.2.1.1; omega)) <|
 .r 3 <| .new fun b7 => .run 2 [b7 = b7] rt1 <|
 .r 4 <| .br 125 (dir != to) (fun q11 => have p11 := bneT q11; .run 3 [b7 = b7] rt1 <|
 .val 128 (show (aI (((findN (awayF f to t (lookN f to t)) to).l.map entA).length : Int) : AV) = aI (((findN (awayF f to t (lookN f to t)) to).l).length : Int) from by rw [List.length_map]) <| .r 2 <| .is 130 (show (decide ((((findN (awayF f to t (lookN f to t)) to).l).length : Int) ≥ 256)) = false from (decide_eq_false (by have := gB.2.2.2.2.2.2.2.2; omega))) <| .ord [0, 1, 2, 4, 5, 6, 7, 3, 8, 9, 10] <| .run 7 [b5 = b5, b3 = b3] rt2 <|
 .call (rleft_spec (awayF f to t (lookN f to t)) dir s gB.2.2.2.2.1 gB.2.2.2.2.2.1 hs) <|
 .call (rentered_spec (leaveF (awayF f to t (lookN f to t)) dir s) to t (lookN f dir s).ino gB.2.2.2.2.2.2.1 gB.2.2.2.2.2.2.2.1 ht) <|
 .run 2 [b2 = b2] rt1 <|
 .fin (x := .tup [.agg [.sl 5 false ((enterF (leaveF (awayF f to t (lookN f to t)) dir s) to t (lookN f dir s).ino).l.map nodA), aI ((enterF (leaveF (awayF f to t (lookN f to t)) dir s) to t (lookN f dir s).ino).next)], aI 0]) (r := .tup [.agg (fsyA (movF f dir s to t)), aI (movErr f dir s to t)]) [b2 = b2] rt1 (by
  rw [hB2.1, ho, gB.1]
  exact sR))
 <| fun q11 => have p11 := bneF q11; .r 5 <| .ord [0, 1, 2, 4, 5, 6, 7, 3, 8, 9, 10] <| .run 7 [b5 = b5, b3 = b3] rt2 <|
 .call (rleft_spec (awayF f to t (lookN f to t)) dir s gB.2.2.2.2.1 gB.2.2.2.2.2.1 hs) <|
 .call (rentered_spec (leaveF (awayF f to t (lookN f to t)) dir s) to t (lookN f dir s).ino gB.2.2.2.2.2.2.1 gB.2.2.2.2.2.2.2.1 ht) <|
 .run 2 [b2 = b2] rt1 <|
 .fin (x := .tup [.agg [.sl 5 false ((enterF (leaveF (awayF f to t (lookN f to t)) dir s) to t (lookN f dir s).ino).l.map nodA), aI ((enterF (leaveF (awayF f to t (lookN f to t)) dir s) to t (lookN f dir s).ino).next)], aI 0]) (r := .tup [.agg (fsyA (movF f dir s to t)), aI (movErr f dir s to t)]) [b2 = b2] rt1 (by
  rw [hB2.1, ho, gB.1]
  exact sR))
 <| fun q7 => have p7 := beqF q7; have g6 : ¬ lookE f to t = 0 := beqF q7; have gC := ref_movC okf T h1 g6; .r 6 <| .r 2 <| .is 85 q7 <| .run 2 [b5 = b5] rt1 <|
 .call (rfind_spec f to (by omega)) <|
 .r 3 <| .new fun b8 => .run 2 [b8 = b8] rt1 <|
 .r 4 <| .br 125 (dir != to) (fun q12 => have p12 := bneT q12; .run 3 [b8 = b8] rt1 <|
 .val 128 (show (aI (((findN f to).l.map entA).length : Int) : AV) = aI (((findN f to).l).length : Int) from by rw [List.length_map]) <| .r 2 <| .br 130 (decide ((((findN f to).l).length : Int) ≥ 256)) (fun q13 => have p13 := decT q13; .run 3 [b1 = b1, b2 = b2] rt2 <|
 .fin (x := .tup [.agg (fsyA f), aI 12]) (r := .tup [.agg (fsyA (movF f dir s to t)), aI (movErr f dir s to t)]) [b2 = b2] rt1 (by
  have hc := gC.2.2.1 ⟨by simpa using q12, by omega⟩
  rw [hc.1, hc.2]
  exact sR))
 <| fun q13 => have p13 := decF q13; .ord [0, 1, 2, 4, 5, 6, 7, 3, 8, 9, 10] <| .run 7 [b5 = b5, b3 = b3] rt2 <|
 .call (rleft_spec f dir s okf hp hs) <|
 .call (rentered_spec (leaveF f dir s) to t (lookN f dir s).ino (gC.1) (gC.2.1) ht) <|
 .run 2 [b2 = b2] rt1 <|
 .fin (x := .tup [.agg [.sl 5 false ((enterF (leaveF f dir s) to t (lookN f dir s).ino).l.map nodA), aI ((enterF (leaveF f dir s) to t (lookN f dir s).ino).next)], aI 0]) (r := .tup [.agg (fsyA (movF f dir s to t)), aI (movErr f dir s to t)]) [b2 = b2] rt1 (by
  have hc := gC.2.2.2 (fun h => by have := h.2; omega)
  rw [hc.1, hc.2]
  exact sR))
 <| fun q12 => have p12 := bneF q12; .r 5 <| .ord [0, 1, 2, 4, 5, 6, 7, 3, 8, 9, 10] <| .run 7 [b5 = b5, b3 = b3] rt2 <|
 .call (rleft_spec f dir s okf hp hs) <|
 .call (rentered_spec (leaveF f dir s) to t (lookN f dir s).ino (gC.1) (gC.2.1) ht) <|
 .run 2 [b2 = b2] rt1 <|
 .fin (x := .tup [.agg [.sl 5 false ((enterF (leaveF f dir s) to t (lookN f dir s).ino).l.map nodA), aI ((enterF (leaveF f dir s) to t (lookN f dir s).ino).next)], aI 0]) (r := .tup [.agg (fsyA (movF f dir s to t)), aI (movErr f dir s to t)]) [b2 = b2] rt1 (by
  have hc := gC.2.2.2 (fun h => h.1 (by simpa using q12))
  rw [hc.1, hc.2]
  exact sR))
 <| fun q4 => have p4 := beqF q4; have g4b := q4; have g4 : ¬ (lookN f dir s).kind = 2 := beqF q4; have hw : withinB f to (lookN f dir s) = false := (by unfold withinB; rw [q4]; rfl); have h1 : mov1 f dir s to t = 0 := (by unfold mov1; rw [first_z g1, first_z g2, first_z g3, hw]; rfl); .r 12 <| .run 1 [b1 = b1] rt1 <|
 .new fun b9 => .run 1 [b9 = b9] rt1 <|
 .run 3 [b1 = b1] rt1 <|
 .call (rlook_spec f to t hp ht) <|
 .r 3 <| .new fun b10 => .run 2 [b10 = b10] rt1 <|
 .r 3 <| .br 76 ((lookE f to t) == 0) (fun q14 => have p14 := beqT q14; have g6 : lookE f to t = 0 := beqT q14; have hB := ref_movB okf T h1 g6; .run 6 [b10 = b10, b3 = b3] rt2 <|
 .br 82 (((lookN f to t).ino) == ((lookN f dir s).ino)) (fun q15 => have p15 := beqT q15; have hi := beqT q15; .run 3 [b1 = b1, b2 = b2] rt2 <|
 .fin (x := .tup [.agg (fsyA f), aI 0]) (r := .tup [.agg (fsyA (movF f dir s to t)), aI (movErr f dir s to t)]) [b2 = b2] rt1 (by
  have hc := hB.2.1 hi
  rw [hc.1, hc.2]
  exact sR))
 <| fun q15 => have p15 := beqF q15; have hi := beqF q15; have hB2 := hB.2.2 hi; .r 2 <| .is 85 q14 <| .run 4 [b3 = b3] rt1 <|
 .is 89 q4 <| .r 4 <| .run 4 [b3 = b3] rt1 <|
 .is 98 (show (((lookN f dir s).kind) != 2) = true from (by simpa [bne] using g4)) <| .run 4 [b10 = b10] rt1 <|
 .br 102 (((lookN f to t).kind) == 2) (fun q16 => have p16 := beqT q16; have g7 : (lookN f to t).kind = 2 := beqT q16; .run 3 [b1 = b1, b2 = b2] rt2 <|
 .fin (x := .tup [.agg (fsyA f), aI 9]) (r := .tup [.agg (fsyA (movF f dir s to t)), aI (movErr f dir s to t)]) [b2 = b2] rt1 (by
  have e : overE (lookN f dir s) (lookN f to t) = 9 := over_9 g4 g7
  rw [hB2.1, hB2.2.1 (by rw [e]; decide), e]
  exact sR))
 <| fun q16 => have p16 := beqF q16; have g7 : ¬ (lookN f to t).kind = 2 := beqF q16; .run 3 [b10 = b10] rt1 <|
 .val 106 (show (aI (((lookN f to t).l.map entA).length : Int) : AV) = aI (((lookN f to t).l).length : Int) from by rw [List.length_map]) <| .r 1 <| .br 107 (decide ((((lookN f to t).l).length : Int) > 0)) (fun q17 => have p17 := decT q17; .run 3 [b1 = b1, b2 = b2] rt2 <|
 .fin (x := .tup [.agg (fsyA f), aI 11]) (r := .tup [.agg (fsyA (movF f dir s to t)), aI (movErr f dir s to t)]) [b2 = b2] rt1 (by
  have e : overE (lookN f dir s) (lookN f to t) = 11 := over_11 hB.1 (by first | exact ⟨fun _ => g4, fun _ => g7⟩ | exact ⟨fun h => absurd h g7, fun h => absurd h g4⟩) (by omega)
  rw [hB2.1, hB2.2.1 (by rw [e]; decide), e]
  exact sR))
 <| fun q17 => have p17 := decF q17; have ho := over_0 (n := lookN f dir s) (m := lookN f to t) (by first | exact ⟨fun _ => g4, fun _ => g7⟩ | exact ⟨fun h => absurd h g7, fun h => absurd h g4⟩) (by omega); have gB := hB2.2.2 ho; .ord [0, 1, 2, 4, 5, 3, 6, 7] <| .run 5 [b1 = b1, b10 = b10] rt2 <|
 .call (rleft_spec f to t okf hp ht) <|
 .call ((show FSpec _ _ _ (.agg (fsyA (awayF f to t (lookN f to t)))) from gB.2.2.2.1 ▸ rless_spec (leaveF f to t) (lookN f to t).ino gB.2.1 gB.2.2.1)) <|
 .run 1 [b9 = b9] rt1 <|
 .run 2 [b9 = b9] rt1 <|
 .call (rfind_spec (awayF f to t (lookN f to t)) to (by have := gB.2.2.2.2.2.1.1; omega)) <|
 .r 3 <| .new fun b11 => .run 2 [b11 = b11] rt1 <|
 .r 4 <| .br 125 (dir != to) (fun q18 => have p18 := bneT q18; .run 3 [b11 = b11] rt1 <|
 .val 128 (show (aI (((findN (awayF f to t (lookN f to t)) to).l.map entA).length : Int) : AV) = aI (((findN (awayF f to t (lookN f to t)) to).l).length : Int) from by rw [List.length_map]) <| .r 2 <| .is 130 (show (decide ((((findN (awayF f to t (lookN f to t)) to).l).length : Int) ≥ 256)) = false from (decide_eq_false (by have := gB.2.2.2.2.2.2.2.2; omega))) <| .ord [0, 1, 2, 4, 5, 6, 7, 3, 8, 9, 10] <| .run 7 [b9 = b9, b3 = b3] rt2 <|
 .call (rleft_spec (awayF f to t (lookN f to t)) dir s gB.2.2.2.2.1 gB.2.2.2.2.2.1 hs) <|
 .call (rentered_spec (leaveF (awayF f to t (lookN f to t)) dir s) to t (lookN f dir s).ino gB.2.2.2.2.2.2.1 gB.2.2.2.2.2.2.2.1 ht) <|
 .run 2 [b2 = b2] rt1 <|
 .fin (x := .tup [.agg [.sl 5 false ((enterF (leaveF (awayF f to t (lookN f to t)) dir s) to t (lookN f dir s).ino).l.map nodA), aI ((enterF (leaveF (awayF f to t (lookN f to t)) dir s) to t (lookN f dir s).ino).next)], aI 0]) (r := .tup [.agg (fsyA (movF f dir s to t)), aI (movErr f dir s to t)]) [b2 = b2] rt1 (by
  rw [hB2.1, ho, gB.1]
  exact sR))
 <| fun q18 => have p18 := bneF q18; .r 5 <| .ord [0, 1, 2, 4, 5, 6, 7, 3, 8, 9, 10] <| .run 7 [b9 = b9, b3 = b3] rt2 <|
 .call (rleft_spec (awayF f to t (lookN f to t)) dir s gB.2.2.2.2.1 gB.2.2.2.2.2.1 hs) <|
 .call (rentered_spec (leaveF (awayF f to t (lookN f to t)) dir s) to t (lookN f dir s).ino gB.2.2.2.2.2.2.1 gB.2.2.2.2.2.2.2.1 ht) <|
 .run 2 [b2 = b2] rt1 <|
 .fin (x := .tup [.agg [.sl 5 false ((enterF (leaveF (awayF f to t (lookN f to t)) dir s) to t (lookN f dir s).ino).l.map nodA), aI ((enterF (leaveF (awayF f to t (lookN f to t)) dir s) to t (lookN f dir s).ino).next)], aI 0]) (r := .tup [.agg (fsyA (movF f dir s to t)), aI (movErr f dir s to t)]) [b2 = b2] rt1 (by
  rw [hB2.1, ho, gB.1]
  exact sR))
 <| fun q14 => have p14 := beqF q14; have g6 : ¬ lookE f to t = 0 := beqF q14; have gC := ref_movC okf T h1 g6; .r 6 <| .r 2 <| .is 85 q14 <| .run 2 [b9 = b9] rt1 <|
 .call (rfind_spec f to (by omega)) <|
 .r 3 <| .new fun b12 => .run 2 [b12 = b12] rt1 <|
 .r 4 <| .br 125 (dir != to) (fun q19 => have p19 := bneT q19; .run 3 [b12 = b12] rt1 <|
 .val 128 (show (aI (((findN f to).l.map entA).length : Int) : AV) = aI (((findN f to).l).length : Int) from by rw [List.length_map]) <| .r 2 <| .br 130 (decide ((((findN f to).l).length : Int) ≥ 256)) (fun q20 => have p20 := decT q20; .run 3 [b1 = b1, b2 = b2] rt2 <|
 .fin (x := .tup [.agg (fsyA f), aI 12]) (r := .tup [.agg (fsyA (movF f dir s to t)), aI (movErr f dir s to t)]) [b2 = b2] rt1 (by
  have hc := gC.2.2.1 ⟨by simpa using q19, by omega⟩
  rw [hc.1, hc.2]
  exact sR))
 <| fun q20 => have p20 := decF q20; .ord [0, 1, 2, 4, 5, 6, 7, 3, 8, 9, 10] <| .run 7 [b9 = b9, b3 = b3] rt2 <|
 .call (rleft_spec f dir s okf hp hs) <|
 .call (rentered_spec (leaveF f dir s) to t (lookN f dir s).ino (gC.1) (gC.2.1) ht) <|
 .run 2 [b2 = b2] rt1 <|
 .fin (x := .tup [.agg [.sl 5 false ((enterF (leaveF f dir s) to t (lookN f dir s).ino).l.map nodA), aI ((enterF (leaveF f dir s) to t (lookN f dir s).ino).next)], aI 0]) (r := .tup [.agg (fsyA (movF f dir s to t)), aI (movErr f dir s to t)]) [b2 = b2] rt1 (by
  have hc := gC.2.2.2 (fun h => by have := h.2; omega)
  rw [hc.1, hc.2]
  exact sR))
 <| fun q19 => have p19 := bneF q19; .r 5 <| .ord [0, 1, 2, 4, 5, 6, 7, 3, 8, 9, 10] <| .run 7 [b9 = b9, b3 = b3] rt2 <|
 .call (rleft_spec f dir s okf hp hs) <|
 .call (rentered_spec (leaveF f dir s) to t (lookN f dir s).ino (gC.1) (gC.2.1) ht) <|
 .run 2 [b2 = b2] rt1 <|
 .fin (x := .tup [.agg [.sl 5 false ((enterF (leaveF f dir s) to t (lookN f dir s).ino).l.map nodA), aI ((enterF (leaveF f dir s) to t (lookN f dir s).ino).next)], aI 0]) (r := .tup [.agg (fsyA (movF f dir s to t)), aI (movErr f dir s to t)]) [b2 = b2] rt1 (by
  have hc := gC.2.2.2 (fun h => h.1 (by simpa using q19))
  rw [hc.1, hc.2]
  exact sR)) Tryz.func45 rfl (by kernel_rfl) (by kernel_rfl)
end Go.Proofs.YtkhnialfkndiiaaGreat

namespace Copyhold
open Go Ieee
def IsN (d : Datum) (n : Nat) : Prop := ∃ (s : Nat), d = .number false (n * 2 ^ s) (-(s : Int)) ∧ s ≤ 1074
theorem signed_up (a s m : Nat) (h : s ≤ m) : signed false (a * 2 ^ s) (m - s) = ((a * 2 ^ m : Nat) : Int) := by
 unfold signed
 rw [if_neg (by decide), Nat.shiftLeft_eq, Nat.mul_assoc, ← Nat.pow_add, show s + (m - s) = m from by omega]
theorem low1 (u v : Nat) : (-(u : Int) - min (-(u : Int)) (-(v : Int))).toNat = max u v - u := by omega
theorem low2 (u v : Nat) : (-(v : Int) - min (-(u : Int)) (-(v : Int))).toNat = max u v - v := by omega
theorem order_isN {d e : Datum} {a b : Nat} (ha : IsN d a) (hb : IsN e b) : d.order e = some (compare a b) := by
 obtain ⟨s, rfl, _⟩ := ha
 obtain ⟨t, rfl, _⟩ := hb
 simp only [Datum.order]
 rw [low1, low2, signed_up a s _ (by omega), signed_up b t _ (by omega)]
 have hp : 0 < 2 ^ max s t := Nat.pow_pos (by decide)
 generalize 2 ^ max s t = p at hp
 congr 1
 rcases Nat.lt_trichotomy a b with h | h | h
 ·have h2 : a * p < b * p := Nat.mul_lt_mul_of_pos_right h hp
  rw [Nat.compare_eq_lt.2 h]
  exact Int.compare_eq_lt.2 (by omega)
 ·subst h
  rw [Nat.compare_eq_eq.2 rfl]
  exact Int.compare_eq_eq.2 rfl
 ·have h2 : b * p < a * p := Nat.mul_lt_mul_of_pos_right h hp
  rw [Nat.compare_eq_gt.2 h]
  exact Int.compare_eq_gt.2 (by omega)
theorem sum_isN {d e : Datum} {a b : Nat} (ha : IsN d a) (hb : IsN e b) : ∃ r, d.sum e = some r ∧ IsN r (a + b) := by
 obtain ⟨s, rfl, hs⟩ := ha
 obtain ⟨t, rfl, ht⟩ := hb
 simp only [Datum.sum]
 refine ⟨_, rfl, max s t, ?_, by omega⟩
 have e3 : signed false (a * 2 ^ s) (-(s : Int) - min (-(s : Int)) (-(t : Int))).toNat + signed false (b * 2 ^ t) (-(t : Int) - min (-(s : Int)) (-(t : Int))).toNat = (((a + b) * 2 ^ max s t : Nat) : Int) := by
  rw [low1, low2, signed_up a s _ (by omega), signed_up b t _ (by omega), Nat.add_mul]; omega
 simp only [e3]
 congr 1
 ·split
  ·rfl
  ·exact decide_eq_false (Int.not_lt.2 (Int.natCast_nonneg _))
 ·omega
theorem log2_mul_pow (n s : Nat) (h : n ≠ 0) : (n * 2 ^ s).log2 = n.log2 + s := by
 have hp : 0 < 2 ^ s := Nat.pow_pos (by decide)
 have hn : n * 2 ^ s ≠ 0 := by have := Nat.mul_pos (Nat.pos_of_ne_zero h) hp; omega
 rw [Nat.log2_eq_iff hn]
 have h1 := (Nat.log2_eq_iff h).1 rfl
 constructor
 ·rw [Nat.pow_add]; exact Nat.mul_le_mul_right _ h1.1
 ·rw [show n.log2 + s + 1 = (n.log2 + 1) + s from by omega, Nat.pow_add]; exact Nat.mul_lt_mul_of_pos_right h1.2 hp
theorem cut_exact (way : Toward) (neg : Bool) (n s : Nat) : way.cut neg (n * 2 ^ s) s = n := by
 have hp : 0 < 2 ^ s := Nat.pow_pos (by decide)
 by_cases h0 : n = 0
 ·subst h0
  simp only [Toward.cut, Nat.zero_mul, Nat.zero_div, Nat.zero_mod]
  cases way <;> simp
  all_goals (try omega)
 ·have hl := log2_mul_pow n s h0
  have hm : min s ((n * 2 ^ s).log2 + 2) = s := by rw [hl]; omega
  simp only [Toward.cut, hm, Nat.one_shiftLeft, Nat.mul_div_cancel _ hp, Nat.mul_mod_left]
  cases way <;> simp
  all_goals (try omega)
theorem nearest_up (n s : Nat) (hn : n < 2 ^ 53) (h0 : n ≠ 0) (hs : s ≤ 1074) : double.nearest false (n * 2 ^ s) (-(s : Int)) = (n.log2 + 1022) * 2 ^ 52 + n * 2 ^ (52 - n.log2) := by
 have hp : 0 < 2 ^ s := Nat.pow_pos (by decide)
 have hne : n * 2 ^ s ≠ 0 := by have := Nat.mul_pos (Nat.pos_of_ne_zero h0) hp; omega
 have hl := log2_mul_pow n s h0
 have hk : n.log2 ≤ 52 := by
  have := (Nat.log2_lt h0).2 hn
  omega
 have hlast : max (-(s : Int) + ((n * 2 ^ s).log2 : Int) - (double.fractionBits : Int)) double.leastPlace = (n.log2 : Int) - 52 := by
  rw [hl]
  simp only [double, Format.leastPlace]
  have : (2 : Int) ^ (11 - 1) = 1024 := by decide
  omega
 unfold Format.nearest
 rw [if_neg hne]
 simp only [hlast]
 have hfin : ∀ kept, kept = n * 2 ^ (52 - n.log2) → double.word false (min (((n.log2 : Int) - 52 - double.leastPlace).toNat * double.binade + kept) double.infRung) = (n.log2 + 1022) * 2 ^ 52 + n * 2 ^ (52 - n.log2) := by
  rintro kept rfl
  have e1 : ((n.log2 : Int) - 52 - double.leastPlace).toNat = n.log2 + 1022 := by
   simp only [double, Format.leastPlace]
   have : (2 : Int) ^ (11 - 1) = 1024 := by decide
   omega
  have e2 : double.binade = 2 ^ 52 := rfl
  have e3 : double.infRung = 2047 * 2 ^ 52 := rfl
  rw [e1, e2, e3]
  have hb : n * 2 ^ (52 - n.log2) < 2 ^ 53 := by
   have := (Nat.log2_eq_iff h0).1 rfl
   have h3 : n * 2 ^ (52 - n.log2) < 2 ^ (n.log2 + 1) * 2 ^ (52 - n.log2) := Nat.mul_lt_mul_of_pos_right this.2 (Nat.pow_pos (by decide))
   rw [← Nat.pow_add, show n.log2 + 1 + (52 - n.log2) = 53 from by omega] at h3
   exact h3
  have hb2 : (n.log2 + 1022) * 2 ^ 52 ≤ 1074 * 2 ^ 52 := Nat.mul_le_mul_right _ (by omega)
  have hle : (n.log2 + 1022) * 2 ^ 52 + n * 2 ^ (52 - n.log2) ≤ 2047 * 2 ^ 52 := by
   rw [show (2 : Nat) ^ 53 = 2 * 2 ^ 52 from by rw [Nat.pow_succ, Nat.mul_comm]] at hb
   generalize (2 : Nat) ^ 52 = M at *
   generalize (n.log2 + 1022) * M = A at *
   generalize n * 2 ^ (52 - n.log2) = B at *
   omega
  simp only [Format.word]
  rw [if_neg (by decide), Nat.min_eq_left hle]
 apply hfin
 by_cases h : s ≤ 52 - n.log2
 ·rw [show ((n.log2 : Int) - 52 - -(s : Int)).toNat = 0 from by omega, show (-(s : Int) - ((n.log2 : Int) - 52)).toNat = 52 - n.log2 - s from by omega, Nat.shiftLeft_eq, Nat.mul_assoc, ← Nat.pow_add, show s + (52 - n.log2 - s) = 52 - n.log2 from by omega]
  have := cut_exact .even false (n * 2 ^ (52 - n.log2)) 0
  simpa using this
 ·rw [show ((n.log2 : Int) - 52 - -(s : Int)).toNat = s - (52 - n.log2) from by omega, show (-(s : Int) - ((n.log2 : Int) - 52)).toNat = 0 from by omega, Nat.shiftLeft_zero]
  have := cut_exact .even false (n * 2 ^ (52 - n.log2)) (s - (52 - n.log2))
  rw [Nat.mul_assoc, ← Nat.pow_add, show 52 - n.log2 + (s - (52 - n.log2)) = s from by omega] at this
  exact this
def fl (n : Nat) : Nat := floatOfInt .f64 (n : Int)
theorem fl_eq (n : Nat) (hn : n < 2 ^ 53) (h0 : n ≠ 0) : fl n = (n.log2 + 1022) * 2 ^ 52 + n * 2 ^ (52 - n.log2) := by
 have h := nearest_up n 0 hn h0 (by decide)
 rw [Nat.pow_zero, Nat.mul_one] at h
 exact h
theorem fl_zero : fl 0 = 0 := rfl
theorem read_fl (n : Nat) (hn : n < 2 ^ 53) : IsN (double.read (fl n)) n := by
 by_cases h0 : n = 0
 ·subst h0
  obtain ⟨s, hs⟩ : ∃ s : Nat, s = 1074 := ⟨_, rfl⟩
  refine ⟨s, ?_, by omega⟩
  rw [Nat.zero_mul, show (-(s : Int)) = -1074 from by omega]
  rfl
 ·have hk : n.log2 ≤ 52 := by
   have := (Nat.log2_lt h0).2 hn
   omega
  have hlo : 2 ^ 52 ≤ n * 2 ^ (52 - n.log2) := by
   have := (Nat.log2_eq_iff h0).1 rfl
   have h3 : 2 ^ n.log2 * 2 ^ (52 - n.log2) ≤ n * 2 ^ (52 - n.log2) := Nat.mul_le_mul_right _ this.1
   rwa [← Nat.pow_add, show n.log2 + (52 - n.log2) = 52 from by omega] at h3
  have hhi : n * 2 ^ (52 - n.log2) < 2 * 2 ^ 52 := by
   have := (Nat.log2_eq_iff h0).1 rfl
   have h3 : n * 2 ^ (52 - n.log2) < 2 ^ (n.log2 + 1) * 2 ^ (52 - n.log2) := Nat.mul_lt_mul_of_pos_right this.2 (Nat.pow_pos (by decide))
   rw [← Nat.pow_add, show n.log2 + 1 + (52 - n.log2) = 53 from by omega] at h3
   rwa [show (2 : Nat) ^ 53 = 2 * 2 ^ 52 from by rw [Nat.pow_succ, Nat.mul_comm]] at h3
  refine ⟨52 - n.log2, ?_, by omega⟩
  rw [fl_eq n hn h0]
  have hsw : double.signWeight = 2048 * 2 ^ 52 := rfl
  have hbi : double.binade = 2 ^ 52 := rfl
  have hin : double.infRung = 2047 * 2 ^ 52 := rfl
  have hlp : double.leastPlace = -1074 := rfl
  unfold Format.read
  simp only [hsw, hbi, hin, hlp]
  have hM : 0 < (2 : Nat) ^ 52 := Nat.pow_pos (by decide)
  generalize hB : n * 2 ^ (52 - n.log2) = B at *
  obtain ⟨c, rfl⟩ : ∃ c, B = 2 ^ 52 + c := ⟨B - 2 ^ 52, by omega⟩
  generalize (2 : Nat) ^ 52 = M at *
  have hc : c < M := by omega
  have e0 : (n.log2 + 1022) * M + (M + c) = c + (n.log2 + 1023) * M := by
   rw [show n.log2 + 1023 = n.log2 + 1022 + 1 from by omega, Nat.add_mul (n.log2 + 1022) 1 M]; omega
  have hlt : c + (n.log2 + 1023) * M < 2047 * M := by
   have : (n.log2 + 1023) * M ≤ 1075 * M := Nat.mul_le_mul_right _ (by omega)
   omega
  rw [e0]
  have hdiv : (c + (n.log2 + 1023) * M) / M = n.log2 + 1023 := by rw [Nat.add_mul_div_right _ _ hM, Nat.div_eq_of_lt hc, Nat.zero_add]
  have hmod : (c + (n.log2 + 1023) * M) % M = c := by rw [Nat.add_mul_mod_self_right, Nat.mod_eq_of_lt hc]
  have hge : ¬ (c + (n.log2 + 1023) * M) < M := by
   have : 1 * M ≤ (n.log2 + 1023) * M := Nat.mul_le_mul_right _ (by omega)
   omega
  rw [Nat.mod_eq_of_lt (by omega), Nat.div_eq_of_lt (by omega), if_neg hge, if_pos hlt, hdiv, hmod]
  have e9 : (-1074 + ((n.log2 + 1023 - 1 : Nat) : Int)) = -((52 - n.log2 : Nat) : Int) := by
   clear hlt hge hdiv hmod e0 hhi hn hB hlo
   omega
  rw [e9]
  rfl
theorem fl_order (a b : Nat) (ha : a < 2 ^ 53) (hb : b < 2 ^ 53) : FloatKind.f64.format.order (fl a) (fl b) = some (compare a b) :=
 order_isN (read_fl a ha) (read_fl b hb)
theorem fl_add (a b : Nat) (h : a + b < 2 ^ 53) : FloatKind.f64.format.add (fl a) (fl b) = some (fl (a + b)) := by
 obtain ⟨r, hr, s, rfl, hs⟩ := sum_isN (read_fl a (Nat.lt_of_le_of_lt (Nat.le_add_right a b) h)) (read_fl b (Nat.lt_of_le_of_lt (Nat.le_add_left b a) h))
 show ((double.read (fl a)).sum (double.read (fl b))).map double.write = _
 rw [hr, Option.map_some]
 congr 1
 show double.nearest false ((a + b) * 2 ^ s) (-(s : Int)) = _
 by_cases h0 : a + b = 0
 ·rw [h0, Nat.zero_mul, fl_zero]
  simp [Format.nearest, Format.word]
 ·rw [nearest_up _ _ h h0 hs, fl_eq _ h h0]
end Copyhold

namespace Go.Proofs.YtkhnialfkndiiaaGreat
open Go.RowKit Copyhold
theorem fl_conv (n : Nat) : floatOfInt .f64 (n : Int) = fl n := rfl
theorem span_lay (a b : Nat) (w : World) :
  Calls Tryz.prog 159 #[.int .i64 a, .int .i64 b] w fun e w' => e = .returned (.complex .f64 (fl a) (fl b)) ∧ w = w' := by
 have ha := fl_conv a
 have hb := fl_conv b
 go_enter Tryz.func159, Tryz.ntmps159
 go_wp2
 go_ret
 exact ⟨rfl, rfl⟩
def ofOk (a b : Int) : Prop := 0 ≤ a ∧ 0 ≤ b ∧ a ≤ 1099511627776 ∧ b ≤ 1099511627776 - a
theorem span_Of_ok (a b : Nat) (w : World) (h : ofOk a b) :
  Calls Tryz.prog 134 #[.int .i64 a, .int .i64 b] w fun e w' => e = .returned (.tuple #[.complex .f64 (fl a) (fl b), .int .i64 0]) ∧ w = w' := by
 obtain ⟨_, _, h3, h4⟩ := h
 have h1 : (0 : Int) ≤ (a : Int) := by omega
 have h2 : (0 : Int) ≤ (b : Int) := by omega
 go_enter Tryz.func134, Tryz.ntmps134
 go_wp2_with (go_at_call 159; refine (span_lay a b _).mono ?_; rintro e w' ⟨rfl, rfl⟩)
 go_ret2
 exact ⟨rfl, rfl⟩
theorem span_Of_bad (a b : Int) (w : World) (ha1 : -9223372036854775808 ≤ a) (ha2 : a ≤ 9223372036854775807) (hb1 : -9223372036854775808 ≤ b) (hb2 : b ≤ 9223372036854775807) (h : ¬ ofOk a b) :
  Calls Tryz.prog 134 #[.int .i64 a, .int .i64 b] w fun e w' => e = .returned (.tuple #[.complex .f64 0 0, .int .i64 1]) ∧ w = w' := by
 unfold ofOk at h
 rcases (show a < 0 ∨ 0 ≤ a ∧ b < 0 ∨ 0 ≤ a ∧ 0 ≤ b ∧ 1099511627776 < a ∨ 0 ≤ a ∧ 0 ≤ b ∧ a ≤ 1099511627776 ∧ 1099511627776 - a < b from by omega) with h1 | ⟨h1, h2⟩ | ⟨h1, h2, h3⟩ | ⟨h1, h2, h3, h4⟩
 all_goals
  clear h
  go_enter Tryz.func134, Tryz.ntmps134
  go_wp2_with fail
  go_ret2
  exact ⟨rfl, rfl⟩
end Go.Proofs.YtkhnialfkndiiaaGreat
