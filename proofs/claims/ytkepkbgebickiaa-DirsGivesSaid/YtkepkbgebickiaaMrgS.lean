/- What is added, or given, is found and taken away again: the mathematics. The document's example of directories. The law DirsFinds over data. The law DirsBack over data. What comes in, by its type: an abstract value that describes it. Over any program. No conditions beyond each law's own. File systems among a law's arguments: what they read as. -/
import Derived.Test.YtkepkbgebickiaaMrgR
import Derived.Test.YtkepkbgebickiaaMrgQ
import Derived.Test.YtkepkbgebickiaaMrgH
import Derived.Test.YtkepkbgebickiaaMrgI
import Derived.Test.YtkepkbgebickiaaRows
set_option linter.unusedVariables false
set_option linter.unusedSimpArgs false
namespace Go.Proofs.Ytkepkbgebickiaa
open Go Go.RowKit Copyhold
open Copyhold.Name (Srt insE delE getE isAt)
theorem first5 {a b c d e : Int} : firstE [a, b, c, d, e] = if a = 0 then (if b = 0 then (if c = 0 then (if d = 0 then e else d) else c) else b) else a := by
  unfold firstE
  by_cases h : a = 0 <;> by_cases h2 : b = 0 <;> by_cases h3 : c = 0 <;> by_cases h4 : d = 0 <;> by_cases h5 : e = 0 <;> simp [h, h2, h3, h4, h5]
theorem first6 {a b c d e g : Int} : firstE [a, b, c, d, e, g] = if a = 0 then (if b = 0 then (if c = 0 then (if d = 0 then (if e = 0 then g else e) else d) else c) else b) else a := by
  unfold firstE
  by_cases h : a = 0 <;> by_cases h2 : b = 0 <;> by_cases h3 : c = 0 <;> by_cases h4 : d = 0 <;> by_cases h5 : e = 0 <;> by_cases h6 : g = 0 <;> simp [h, h2, h3, h4, h5, h6]
theorem when0 {b : Bool} {e : Int} (he : ¬ e = 0) : whenE b e = 0 ↔ b = false := by
  unfold whenE
  cases b <;> simp [he]
theorem find_dir {f : Fsy} {i : Int} {d : Nod} (h : atF f i = some d) : findN f i = d := (at_BN h).2
theorem withL_nod {d : Nod} {l : List Ent} (h : nodP d) (hk : d.kind = 2) (hl : rowP l) : nodP (withL d l) := ⟨h.1, h.2.1, h.2.2.1, .inl ⟨hk, (dir_row h hk).1, hl⟩⟩
def setL (f : Fsy) (d : Nod) (l : List Ent) : Fsy := putF f (withL d l)
theorem setL_rows {f : Fsy} {i : Int} {d : Nod} {l : List Ent} (h : rowsP f) (hd : atF f i = some d) (hk : d.kind = 2) (hl : rowP l) : rowsP (setL f d l) ∧ (setL f d l).l.length = f.l.length ∧ (setL f d l).next = f.next ∧ ∀ j, atF (setL f d l) j = if j = i then some (withL d l) else atF f j := by
  obtain ⟨g1, g2, g3⟩ := rows_at h hd
  have hb : findB f (withL d l).ino = true := by show findB f d.ino = true; rw [g3]; exact (at_BN hd).1
  refine ⟨put_rows2 h (withL_nod g1 hk hl) hb, put_len (rows_rise h) hb, put_next g2, fun j => ?_⟩
  have := at_put (n := withL d l) (j := j) (rows_rise h)
  rw [show (withL d l).ino = i from g3] at this
  exact this
theorem put_there {f : Fsy} {n m : Nod} {i : Int} (h : rowsP f) (hd : atF f i = some m) (hi : n.ino = i) (hn : nodP n) : rowsP (putF f n) ∧ (putF f n).l.length = f.l.length ∧ (putF f n).next = f.next ∧ ∀ j, atF (putF f n) j = if j = i then some n else atF f j := by
  obtain ⟨g1, g2, g3⟩ := rows_at h hd
  have hb : findB f n.ino = true := by rw [hi]; exact (at_BN hd).1
  exact ⟨put_rows2 h hn hb, put_len (rows_rise h) hb, put_next (by omega), fun j => by rw [at_put (rows_rise h), hi]⟩
structure AddsP (f : Fsy) (dir : Int) (s : Txt) (n : Nod) (d : Nod) : Prop where
  dir : atF f dir = some d
  kind : d.kind = 2
  check : checkE s = 0
  away : isB d.l s = false
  few : f.l.length < 256
  fewd : d.l.length < 256
  node : nodP (addN f n)
  nol : n.l = []
theorem adds_of {f : Fsy} {dir : Int} {s : Txt} {n : Nod} (h : addErr f dir s n = 0) : ∃ d, AddsP f dir s n d := by
  unfold addErr at h
  rw [first5] at h
  split at h
  · rename_i h1
    split at h
    · rename_i h2
      split at h
      · rename_i h3
        split at h
        · rename_i h4
          obtain ⟨d, g1, g2, g3, _, _⟩ := at_dir h1
          rw [g3] at h3 h4
          rw [when0 (by decide)] at h h3 h4
          simp only [Bool.or_eq_false_iff, decide_eq_false_iff_not, Bool.not_eq_false'] at h h4
          refine ⟨d, g1, g2, h2, h3, by omega, by omega, dP_true.1 h.1, List.eq_nil_of_length_eq_zero (by omega)⟩
        · exact absurd h (by assumption)
      · exact absurd h (by assumption)
    · exact absurd h (by assumption)
  · exact absurd h (by assumption)
theorem enter_set {f : Fsy} {dir : Int} {s : Txt} {i : Int} {d : Nod} (h : atF f dir = some d) : enterF f dir s i = setL f d (entL d.l s i) := by unfold enterF setL; rw [find_dir h]
theorem leave_set {f : Fsy} {dir : Int} {s : Txt} {d : Nod} (h : atF f dir = some d) : leaveF f dir s = setL f d (delL d.l s) := by unfold leaveF setL; rw [find_dir h]
theorem take_ok {f : Fsy} {dir : Int} {s : Txt} {d n : Nod} {j : Int} (h1 : atF f dir = some d) (h2 : d.kind = 2) (h3 : checkE s = 0) (h4 : getE (lI d.l) s = some j) (h5 : atF f j = some n) (hf : fullB n = false) :
    takeErr f dir s = 0 ∧ takeF f dir s = awayF f dir s n := by
  obtain ⟨g1, g2⟩ := look_at h1 h2 h3 h4 h5
  have e : takeErr f dir s = 0 := by unfold takeErr; rw [first2, if_pos g1, g2, hf]; rfl
  exact ⟨e, by unfold takeF; rw [if_pos e, g2]⟩
theorem at_next {f : Fsy} (h : rowsP f) : atF f f.next = none := by
  cases hc : atF f f.next with
  | none => rfl
  | some n => have := rows_at h hc; omega
theorem back_facts {f : Fsy} {dir : Int} {s : Txt} {n : Nod} (hp : rowsP f) (he : addErr f dir s n = 0) :
    rowsP (addF f dir s (addN f n)) ∧ lookE (addF f dir s (addN f n)) dir s = 0 ∧ lookN (addF f dir s (addN f n)) dir s = withL (addN f n) [] ∧ takeErr (addF f dir s (addN f n)) dir s = 0 ∧
      takeF (addF f dir s (addN f n)) dir s = ⟨f.l, f.next + 1⟩ ∧ rowsP ⟨f.l, f.next + 1⟩ ∧ lookE ⟨f.l, f.next + 1⟩ dir s = 6 := by
  obtain ⟨d, A⟩ := adds_of he
  obtain ⟨g1, g2, g3⟩ := rows_at hp A.dir
  have hr := rows_rise hp
  have hrow := (dir_row g1 A.kind).2
  have hnx : 1 ≤ f.next := hp.2.1
  have hn := at_next hp
  have hne : ¬ dir = f.next := fun e => by rw [← e, A.dir] at hn; cases hn
  have he0 := entE_cases (n := f.next) A.check hnx A.away A.fewd
  have hrow2 := ent_row (n := f.next) hrow A.check hnx A.away A.fewd
  obtain ⟨s1, s2, s3, s4⟩ := setL_rows hp A.dir A.kind hrow2
  have hX : nodP (withL (addN f n) []) := by
    have := A.node
    have hl : withL (addN f n) [] = addN f n := by unfold withL addN; rw [A.nol]
    rw [hl]; exact this
  have hXi : (withL (addN f n) []).ino = f.next := rfl
  have eA : addF f dir s (addN f n) = putF (setL f d (entL d.l s f.next)) (withL (addN f n) []) := by
    unfold addF
    rw [show (addN f n).ino = f.next from rfl, enter_set A.dir]
  have r1 : rowsP (addF f dir s (addN f n)) := by rw [eA]; exact put_rows s1 hX (by rw [s2]; exact A.few)
  have fA : ∀ j, atF (addF f dir s (addN f n)) j = if j = f.next then some (withL (addN f n) []) else if j = dir then some (withL d (entL d.l s f.next)) else atF f j := fun j => by
    rw [eA, at_put (rows_rise s1), hXi, s4]
  have nA : (addF f dir s (addN f n)).next = f.next + 1 := by rw [eA, put_next2 (by rw [hXi, s3]), s3]
  have dA : atF (addF f dir s (addN f n)) dir = some (withL d (entL d.l s f.next)) := by rw [fA, if_neg hne, if_pos rfl]
  have xA : atF (addF f dir s (addN f n)) f.next = some (withL (addN f n) []) := by rw [fA, if_pos rfl]
  have gA : getE (lI (withL d (entL d.l s f.next)).l) s = some f.next := by
    show getE (lI (entL d.l s f.next)) s = _
    rw [get_ent (row_srt hrow) he0 A.away, if_pos rfl]
  obtain ⟨l1, l2⟩ := look_at dA A.kind A.check gA xA
  have hfull : fullB (withL (addN f n) []) = false := by unfold fullB; simp [withL]
  obtain ⟨t1, t2⟩ := take_ok dA A.kind A.check gA xA hfull
  have eL : leaveF (addF f dir s (addN f n)) dir s = setL (addF f dir s (addN f n)) (withL d (entL d.l s f.next)) d.l := by
    rw [leave_set dA]
    show setL _ _ (delL (entL d.l s f.next) s) = _
    rw [del_ent (row_srt hrow) he0 A.away]
  obtain ⟨u1, u2, u3, u4⟩ := setL_rows r1 dA A.kind hrow
  have rN : rowsP ⟨f.l, f.next + 1⟩ := by
    obtain ⟨h1, h2, h3, h4⟩ := rowsP_iff.1 hp
    exact rowsP_iff.2 ⟨h1, by show 1 ≤ f.next + 1; omega, fun x hx => ⟨(h3 x hx).1, by have := (h3 x hx).2; show x.ino < f.next + 1; omega⟩, h4⟩
  have eT : takeF (addF f dir s (addN f n)) dir s = ⟨f.l, f.next + 1⟩ := by
    rw [t2]
    unfold awayF
    rw [if_pos (by show (1 : Int) - 1 < 1; omega), eL, hXi]
    refine fsy_ext (out_rise (rows_rise u1)) hr (fun j => ?_) (by show (setL _ _ _).next = f.next + 1; rw [u3, nA])
    rw [at_out (rows_rise u1), u4, fA]
    show _ = atF f j
    by_cases hj : j = f.next
    · rw [if_pos hj, hj, hn]
    · rw [if_neg hj, if_neg hj]
      by_cases hd : j = dir
      · rw [if_pos hd, hd, A.dir]; rfl
      · rw [if_neg hd, if_neg hd]
  refine ⟨r1, l1, l2, t1, eT, rN, ?_⟩
  refine look_gone (d := d) rN A.dir A.kind A.check ?_
  have := A.away
  rw [isB_get] at this
  cases hg : getE (lI d.l) s with
  | none => rfl
  | some j => rw [hg] at this; cases this
theorem add_ok {f : Fsy} {dir : Int} {s : Txt} {n : Nod} (okf : OkF f) (hp : rowsP f) (okn : OkN n) (hs : s.length ≤ 1000000) (he : addErr f dir s n = 0) (hx : f.next < 4611686018427387904) : OkF (addF f dir s (addN f n)) := by
  obtain ⟨d, A⟩ := adds_of he
  have h1 : f.l.length ≤ 256 := hp.1
  have h2 := (rows_at hp A.dir).2
  have okd := okf.2.2 d (at_mem A.dir)
  have hnx : 1 ≤ f.next := hp.2.1
  have he0 := entE_cases (n := f.next) A.check hnx A.away A.fewd
  have okl : OkN (withL d (entL d.l s f.next)) := by
    refine ⟨okd.1, okd.2.1, okd.2.2.1, okd.2.2.2.1, ?_, fun e hm => ?_⟩
    · have := ent_len (l := d.l) (s := s) (n := f.next); have := A.fewd; show (entL d.l s f.next).length ≤ _; omega
    · have hm' : e ∈ entL d.l s f.next := hm
      unfold entL at hm'
      rw [if_pos he0] at hm'
      rcases List.mem_append.1 hm' with h | h
      · exact okd.2.2.2.2.2 e (List.mem_of_mem_take h)
      · rcases List.mem_cons.1 h with rfl | h
        · exact ⟨by show s.length ≤ _; omega, okf.1⟩
        · exact okd.2.2.2.2.2 e (List.mem_of_mem_drop h)
  have hf := okf.1
  have hs1 := putN_le f.l (withL d (entL d.l s f.next))
  unfold addF
  rw [show (addN f n).ino = f.next from rfl, enter_set A.dir]
  refine put_ok (put_ok okf okl (by show d.ino < _; omega) (by omega)) ?_ (by show f.next < _; omega) (by show (putN f.l _).length ≤ _; omega)
  have := addN_ok (n := n) okf okn
  exact ⟨this.1, this.2.1, this.2.2.1, this.2.2.2.1, by show (0 : Nat) ≤ _; omega, fun e h => by cases h⟩
end Go.Proofs.Ytkepkbgebickiaa

set_option linter.unusedVariables false
set_option linter.unusedSimpArgs false
namespace Go.Proofs.Ytkepkbgebickiaa
open Go Go.RowKit Copyhold
theorem chk_a : checkE [97] = 0 := checkE0 ⟨by decide, by decide, by decide, by decide, by decide, by decide⟩
theorem dir_new : dirE newF 1 = 0 := rfl
theorem look_new : lookE newF 1 [97] = 6 := by
  unfold lookE
  rw [first3, chk_a, dir_new]
  rfl
theorem lookN_new : lookN newF 1 [97] = nod0 := look_no (by rw [look_new]; decide)
theorem walk_new : walkF newF [47] = (rootN, 0) := rfl
def fileN : Nod := ⟨0, 1, 0, [], []⟩
theorem fileN_ok : OkN fileN := ⟨⟨by decide, by decide⟩, ⟨by decide, by decide⟩, ⟨by decide, by decide⟩, by show (0 : Nat) ≤ _; omega, by show (0 : Nat) ≤ _; omega, fun e h => by cases h⟩
theorem file_right : nodP (addN newF fileN) := ⟨by decide, by decide, by decide, .inr ⟨.inl rfl, by decide, rfl⟩⟩
theorem add_new : addErr newF 1 [97] fileN = 0 := by
  unfold addErr
  rw [chk_a, dir_new, dP_true.2 file_right]
  rfl
theorem add_len : ((if addErr newF 1 [97] fileN = 0 then addF newF 1 [97] (addN newF fileN) else newF).l.length : Int) = 2 := by
  rw [if_pos add_new]
  rfl
set_option maxRecDepth 100000 in
set_option maxHeartbeats 4000000 in
theorem shown_spec  : FSpec Try.prog 8 [] (aB true) := by
  exact spec_vc (F := Try.f8) 400 (
 .r 1 <| .call (rnew_spec) <|
 .new fun b1 => .run 1 [b1 = b1] ⟨rfl, trivial⟩ <|
 .run 1 [b1 = b1] ⟨rfl, trivial⟩ <|
 .call (take_no newF 1 [97] newF_rows (by decide) (by rw [look_new]; decide) (by rw [lookN_new]; show (0 : Nat) ≤ _; omega)) <|
 .r 3 <| .new fun b2 => .run 2 [b2 = b2] ⟨rfl, trivial⟩ <|
 .run 1 [b1 = b1] ⟨rfl, trivial⟩ <|
 .call (walk_spec newF [47] newF_rows (by decide)) <|
 .r 3 <| .new fun b3 => .run 2 [b3 = b3] ⟨rfl, trivial⟩ <|
 .run 2 [b1 = b1] ⟨rfl, trivial⟩ <|
 .callS (args0 := [.agg [.sl 5 false (newF.l.map nodA), aI newF.next], aI 1, aS ([97]), .agg [aI 0, aI 1, aI 0, aS ([]), aN]]) (args := [.agg [.sl 5 false (newF.l.map nodA), aI newF.next], aI 1, aS ([97]), .agg [aI fileN.ino, aI fileN.kind, aI fileN.links, aS fileN.text, .sl 2 false (fileN.l.map entA)]]) ⟨Sub.refl _, Sub.refl _, Sub.refl _, Sub.aggs ⟨Sub.refl _, Sub.refl _, Sub.refl _, Sub.refl _, Sub.nil _ _, trivial⟩, trivial⟩ (add_spec newF 1 [97] fileN newF_ok newF_rows (by decide) fileN_ok (by decide)) <|
 .r 3 <| .new fun b4 => .run 2 [b4 = b4] ⟨rfl, trivial⟩ <|
 .r 3 <| .is 27 (show ((lookE newF 1 [97]) == 6) = true from (by rw [look_new]; rfl)) <| .r 4 <| .is 31 (show (((walkF newF [47]).2) == 0) = true from (by rw [walk_new]; rfl)) <| .run 5 [b3 = b3] ⟨rfl, trivial⟩ <|
 .is 36 (show (((walkF newF [47]).1.ino) == 1) = true from (by rw [walk_new]; rfl)) <| .r 4 <| .is 40 (show ((addErr newF 1 [97] fileN) == 0) = true from (by rw [add_new]; rfl)) <| .run 3 [b4 = b4] ⟨rfl, trivial⟩ <|
 .val 43 (show (aI (((if addErr newF 1 [97] fileN = 0 then addF newF 1 [97] (addN newF fileN) else newF).l.map nodA).length : Int) : AV) = aI (((if addErr newF 1 [97] fileN = 0 then addF newF 1 [97] (addN newF fileN) else newF).l).length : Int) from by rw [List.length_map]) <| .r 3 <| .fin (x := aB ((((if addErr newF 1 [97] fileN = 0 then addF newF 1 [97] (addN newF fileN) else newF).l).length : Int) == 2)) (r := aB true) [] trivial (by exact Sub.of_eq (congrArg aB (by first | rfl | (rw [add_len]; rfl) | simp [add_len])))) Try.func8 rfl (by kernel_rfl) (by kernel_rfl)
set_option maxRecDepth 100000 in
set_option maxHeartbeats 4000000 in
theorem fewr_spec (f : Fsy) (okf : OkF f) : FSpec Try.prog 9 [.agg [.sl 5 false (f.l.map nodA), aI f.next]] (aB (dP (fewF f ∧ rightP f))) := by
  exact spec_vc (F := Try.f9) 400 (
 .new fun b1 => .r 1 <| .run 1 [b1 = b1] ⟨rfl, trivial⟩ <|
 .call (few_spec f okf) <|
 .r 1 <| .br 5 (dP (fewF f)) (fun q1 => have p1 := booT q1; .run 1 [b1 = b1] ⟨rfl, trivial⟩ <|
 .call (right_spec f okf (dP_true.1 q1)) <|
 .r 2 <| .fin (x := aB (dP (rightP f))) (r := aB (dP (fewF f ∧ rightP f))) [] trivial (by exact sE (dP_true.trans ⟨fun h => ⟨dP_true.1 q1, h⟩, fun h => h.2⟩)))
 <| fun q1 => have p1 := booF q1; .r 4 <| .fin (x := aB false) (r := aB (dP (fewF f ∧ rightP f))) [] trivial (by exact sF (fun h => dP_false.1 q1 h.1))) Try.func9 rfl (by kernel_rfl) (by kernel_rfl)
end Go.Proofs.Ytkepkbgebickiaa

set_option linter.unusedVariables false
set_option linter.unusedSimpArgs false
namespace Go.Proofs.Ytkepkbgebickiaa
open Go Go.RowKit Copyhold
structure Dfi where
  f : Fsy
  i : Int
  s : Txt
  p : Txt
end Go.Proofs.Ytkepkbgebickiaa

set_option linter.unusedVariables false
set_option linter.unusedSimpArgs false
namespace Go.Proofs.Ytkepkbgebickiaa
open Go Go.RowKit Copyhold
structure Dbk where
  f : Fsy
  i : Int
  s : Txt
  n : Nod
def dbkA (a : Dbk) : List AV := [.sl 5 false (a.f.l.map nodA), aI a.f.next, aI a.i, aS a.s, aI a.n.ino, aI a.n.kind, aI a.n.links, aS a.n.text, .sl 2 false (a.n.l.map entA)]
def OkDbk (a : Dbk) : Prop := OkF a.f ∧ OkN a.n
set_option maxRecDepth 100000 in
set_option maxHeartbeats 4000000 in
theorem dirsBack_data (f : Fsy) (dir : Int) (s : Txt) (n : Nod) (okf : OkF f) (okn : OkN n) : FSpec Try.prog 4 [.agg [.sl 5 false (f.l.map nodA), aI f.next, aI dir, aS s, aI n.ino, aI n.kind, aI n.links, aS n.text, .sl 2 false (n.l.map entA)]] (aB true) := by
  exact spec_vc (F := Try.f4) 400 (
 .new fun b1 => .r 1 <| .run 2 [b1 = b1] ⟨rfl, trivial⟩ <|
 .new fun b2 => .run 1 [b2 = b2] ⟨rfl, trivial⟩ <|
 .run 3 [b1 = b1] ⟨rfl, trivial⟩ <|
 .run 3 [b1 = b1] ⟨rfl, trivial⟩ <|
 .run 2 [b1 = b1] ⟨rfl, trivial⟩ <|
 .new fun b3 => .run 1 [b3 = b3] ⟨rfl, trivial⟩ <|
 .call (shown_spec) <|
 .r 1 <| .run 1 [b2 = b2] ⟨rfl, trivial⟩ <|
 .call (fewr_spec f okf) <|
 .r 1 <| .r 3 <| .br 30 (!(dP (fewF f ∧ rightP f))) (fun q1 => have q1 := notT q1; have p1 := booF q1; .r 21 <| .r 2 <| .fin (x := aB true) (r := aB true) [] trivial (by exact Sub.of_eq (by first | rfl | (exact congrArg aB (dP_true.2 rfl)) | (simp; done))))
 <| fun q1 => have q1 := notF q1; have p1 := booT q1; have hfr := dP_true.1 q1; have hp := hfr.2.1; .r 5 <| .br 35 (decide (((s).length : Int) > 1000)) (fun q2 => have p2 := decT q2; .r 16 <| .r 2 <| .fin (x := aB true) (r := aB true) [] trivial (by exact Sub.of_eq (by first | rfl | (exact congrArg aB (dP_true.2 rfl)) | (simp; done))))
 <| fun q2 => have p2 := decF q2; .run 3 [b3 = b3] ⟨rfl, trivial⟩ <|
 .val 38 (show (aI ((n.l.map entA).length : Int) : AV) = aI (n.l.length : Int) from by rw [List.length_map]) <| .r 3 <| .br 41 (decide ((n.l.length : Int) > 100)) (fun q3 => have p3 := decT q3; .r 10 <| .r 2 <| .fin (x := aB true) (r := aB true) [] trivial (by exact Sub.of_eq (by first | rfl | (exact congrArg aB (dP_true.2 rfl)) | (simp; done))))
 <| fun q3 => have p3 := decF q3; .run 6 [b3 = b3] ⟨rfl, trivial⟩ <|
 .br 47 (decide (((n.text).length : Int) > 5000)) (fun q4 => have p4 := decT q4; .r 4 <| .r 2 <| .fin (x := aB true) (r := aB true) [] trivial (by exact Sub.of_eq (by first | rfl | (exact congrArg aB (dP_true.2 rfl)) | (simp; done))))
 <| fun q4 => have p4 := decF q4; .run 4 [b2 = b2] ⟨rfl, trivial⟩ <|
 .br 51 (decide (f.next ≥ 4611686018427387904)) (fun q5 => have p5 := decT q5; .r 2 <| .fin (x := aB true) (r := aB true) [] trivial (by exact Sub.of_eq (by first | rfl | (exact congrArg aB (dP_true.2 rfl)) | (simp; done))))
 <| fun q5 => have p5 := decF q5; .run 4 [b2 = b2, b3 = b3] ⟨rfl, rfl, trivial⟩ <|
 .call (add_spec f dir s n okf hp (by omega) okn (by omega)) <|
 .r 3 <| .new fun b4 => .run 2 [b4 = b4] ⟨rfl, trivial⟩ <|
 .r 2 <| .br 62 ((addErr f dir s n) != 0) (fun q6 => have p6 := bneT q6; .r 2 <| .fin (x := aB true) (r := aB true) [] trivial (by exact Sub.of_eq (by first | rfl | (exact congrArg aB (dP_true.2 rfl)) | (simp; done))))
 <| fun q6 => have p6 := bneF q6; have he : addErr f dir s n = 0 := (by simpa using q6); have hx : f.next < 4611686018427387904 := (by omega); have hbk := back_facts hp he; .run 3 [b4 = b4] ⟨rfl, trivial⟩ <|
 .callS (args0 := [.agg [.sl 5 false ((if addErr f dir s n = 0 then addF f dir s (addN f n) else f).l.map nodA), aI ((if addErr f dir s n = 0 then addF f dir s (addN f n) else f).next)], aI dir, aS s]) (args := [.agg [.sl 5 false ((addF f dir s (addN f n)).l.map nodA), aI ((addF f dir s (addN f n)).next)], aI dir, aS s]) ⟨by rw [if_pos he]; exact Sub.refl _, Sub.refl _, Sub.refl _, trivial⟩ (look_spec (addF f dir s (addN f n)) dir s hbk.1 (by omega)) <|
 .r 3 <| .new fun b5 => .run 2 [b5 = b5] ⟨rfl, trivial⟩ <|
 .run 3 [b4 = b4] ⟨rfl, trivial⟩ <|
 .callS (args0 := [.agg [.sl 5 false ((if addErr f dir s n = 0 then addF f dir s (addN f n) else f).l.map nodA), aI ((if addErr f dir s n = 0 then addF f dir s (addN f n) else f).next)], aI dir, aS s]) (args := [.agg [.sl 5 false ((addF f dir s (addN f n)).l.map nodA), aI ((addF f dir s (addN f n)).next)], aI dir, aS s]) ⟨by rw [if_pos he]; exact Sub.refl _, Sub.refl _, Sub.refl _, trivial⟩ (take_spec (addF f dir s (addN f n)) dir s (add_ok okf hp okn (by omega) he hx) hbk.1 (by omega)) <|
 .r 3 <| .new fun b6 => .run 2 [b6 = b6] ⟨rfl, trivial⟩ <|
 .run 3 [b6 = b6] ⟨rfl, trivial⟩ <|
 .callS (args0 := [.agg [.sl 5 false ((takeF (addF f dir s (addN f n)) dir s).l.map nodA), aI ((takeF (addF f dir s (addN f n)) dir s).next)], aI dir, aS s]) (args := [.agg [.sl 5 false ((Fsy.mk f.l (f.next + 1)).l.map nodA), aI ((Fsy.mk f.l (f.next + 1)).next)], aI dir, aS s]) ⟨by rw [hbk.2.2.2.2.1]; exact Sub.refl _, Sub.refl _, Sub.refl _, trivial⟩ (look_spec (Fsy.mk f.l (f.next + 1)) dir s hbk.2.2.2.2.2.1 (by omega)) <|
 .r 3 <| .new fun b7 => .run 2 [b7 = b7] ⟨rfl, trivial⟩ <|
 .run 4 [b2 = b2, b6 = b6] ⟨rfl, rfl, trivial⟩ <|
 .r 6 <| .is 93 (show ((lookE (addF f dir s (addN f n)) dir s) == 0) = true from (by rw [hbk.2.1]; rfl)) <| .run 7 [b5 = b5, b2 = b2] ⟨rfl, rfl, trivial⟩ <|
 .is 100 (show (((lookN (addF f dir s (addN f n)) dir s).ino) == f.next) = true from (by rw [hbk.2.2.1]; simp [withL, addN])) <| .run 7 [b5 = b5, b3 = b3] ⟨rfl, rfl, trivial⟩ <|
 .is 107 (show (((lookN (addF f dir s (addN f n)) dir s).text) == n.text) = true from (by rw [hbk.2.2.1]; simp [withL, addN])) <| .run 7 [b5 = b5, b3 = b3] ⟨rfl, rfl, trivial⟩ <|
 .is 114 (show (((lookN (addF f dir s (addN f n)) dir s).kind) == n.kind) = true from (by rw [hbk.2.2.1]; simp [withL, addN])) <| .r 4 <| .is 118 (show ((takeErr (addF f dir s (addN f n)) dir s) == 0) = true from (by rw [hbk.2.2.2.1]; rfl)) <| .r 4 <| .is 122 (show ((lookE (Fsy.mk f.l (f.next + 1)) dir s) == 6) = true from (by rw [hbk.2.2.2.2.2.2]; rfl)) <| .run 2 [b6 = b6, b2 = b2] ⟨rfl, rfl, trivial⟩ <|
 .callS (args0 := [.agg [.sl 5 false ((takeF (addF f dir s (addN f n)) dir s).l.map nodA), aI f.next], .agg [.sl 5 false (f.l.map nodA), aI f.next]]) (args := [.agg [.sl 5 false (f.l.map nodA), aI f.next], .agg [.sl 5 false (f.l.map nodA), aI f.next]]) ⟨by rw [hbk.2.2.2.2.1]; exact Sub.refl _, Sub.refl _, trivial⟩ (fsame_spec f f okf okf) <|
 .r 2 <| .fin (x := aB (dP (f = f))) (r := aB true) [] trivial (by exact Sub.of_eq (by first | rfl | (exact congrArg aB (dP_true.2 rfl)) | (simp; done)))) Try.func4 rfl (by kernel_rfl) (by kernel_rfl)
theorem dirsBack_spec (a : Dbk) (h : OkDbk a) : FSpec Try.prog 4 [.agg (dbkA a)] (aB true) := dirsBack_data a.f a.i a.s a.n h.1 h.2
end Go.Proofs.Ytkepkbgebickiaa

set_option linter.unusedVariables false
set_option linter.unusedSimpArgs false
namespace Copyhold
open Go Go.RowKit Go.ChangeShapes Go.WideShapes Go.ChangeAt Go.Deep
structure Opn {α : Type} (P : Program) (W : World) (t : TypeId) (en : α → List AV) (ok : α → Prop) : Prop where
  run : ∀ (H : Type) (enc : TypeId × Value → H) (fuel : Nat) (cs : List Value) (x : DataW H × List MemPlace),
    DataW.trod enc P W 0 (fun _ => true) true fuel t cs = some x → (∀ p ∈ x.2, p.block < W.heap.size) → (∀ n ∈ DataW.weights P t x.1, n ≤ 140737488351232) →
    ∃ a, CellsR (· < W.heap.size) W (en a) cs ∧ (∀ u ∈ cs, u.oneCell' = true) ∧ ok a
section
variable {P : Program} {W : World} {t : TypeId}
theorem Opn.map {α β : Type} {en : α → List AV} {ok : α → Prop} {en' : β → List AV} {ok' : β → Prop} (h : Opn P W t en ok) (f : α → β) (he : ∀ a, en' (f a) = en a) (ho : ∀ a, ok a → ok' (f a)) : Opn P W t en' ok' := Opn.mk fun H enc fuel cs x h1 h2 h3 => by
  obtain ⟨a, g1, g2, g3⟩ := h.run H enc fuel cs x h1 h2 h3
  exact ⟨f a, by rw [he]; exact g1, g2, ho a g3⟩
theorem cells_one {D : Nat → Prop} {w : World} {a : AV} {v : Value} (h : Ra D w a v) : CellsR D w [a] [v] := ⟨rfl, fun j x u hx hu => by
  match j, hx, hu with
  | 0, hx, hu => simp at hx hu; subst hx hu; exact h
  | j + 1, hx, _ => simp at hx⟩
theorem wf_i64 {z : Int} (w : (Lit.int .i64 z).wf = true) : -9223372036854775808 ≤ z ∧ z ≤ 9223372036854775807 := by
  simpa [Lit.wf, IntKind.min, IntKind.max, IntKind.signed, IntKind.bits] using w
theorem opn_int (hu : P.underlying t = some (.int .i64)) : Opn P W t (fun n : Int => [aI n]) (fun n => -9223372036854775808 ≤ n ∧ n ≤ 9223372036854775807) := Opn.mk fun H enc fuel cs x h1 h2 h3 => by
  obtain ⟨n, rfl, rfl, hw⟩ := DataW.trod_int hu h1
  exact ⟨n, cells_one (.val _), fun u hu => by obtain rfl := List.mem_singleton.1 hu; rfl, wf_i64 hw⟩
theorem opn_string (hu : P.underlying t = some .string) : Opn P W t (fun n : List UInt8 => [aS n]) (fun n => n.length ≤ 140737488351232) := Opn.mk fun H enc fuel cs x h1 h2 h3 => by
  obtain ⟨s, rfl, rfl, _⟩ := DataW.trod_string hu h1
  exact ⟨s.data.toList, cells_one (.val _), fun u hu => by obtain rfl := List.mem_singleton.1 hu; rfl, h3 _ (by simp [DataW.weights])⟩
theorem opn_slice {α : Type} {en : α → List AV} {ok : α → Prop} {e : TypeId} {k : Nat} (h : Opn P W e en ok) (a0 : α) (hu : P.underlying t = some (.slice e)) (hc : P.cellsOf e = k) (hk : 0 < k) (hb : 16 ≤ P.bytesOf e) :
    Opn P W t (fun l : List α => [.sl k false (l.map en)]) (fun l => l.length ≤ 8796093022207 ∧ ∀ a ∈ l, ok a) := Opn.mk fun H enc fuel cs x h1 h2 h3 => by
  obtain ⟨v, rs, rfl, hr, hd⟩ := open_slice_of (k := k) (R := fun a cs => CellsR (· < W.heap.size) W (en a) cs ∧ (∀ u ∈ cs, u.oneCell' = true) ∧ ok a) hu hc hk a0 (fun n cs' y hy hl hcl hww => h.run H enc n cs' y hy hl hww) h1 h2 h3
  have hsz := rows_sized hu hd h3
  have := Nat.le_trans (Nat.mul_le_mul_left rs.length hb) hsz
  have hra : Ra (· < W.heap.size) W (.sl k false (rs.map en)) v := ra_of_slOf hr (· < W.heap.size) (fun _ h => h) (fun a _ cs _ hR => ⟨hR.2.1, hR.1⟩)
  obtain ⟨A, c, rfl⟩ := hr.shape
  refine ⟨rs, cells_one hra, fun u hu => by obtain rfl := List.mem_singleton.1 hu; rfl, by omega, fun a ha => ?_⟩
  obtain ⟨css, g1, g2, g3⟩ := hr
  obtain ⟨i, hi, rfl⟩ := List.mem_iff_getElem.1 ha
  exact (g3 i _ _ (List.getElem?_eq_getElem (by omega)) (List.getElem?_eq_getElem hi)).2.2.2
structure OpnFs {γ : Type} (P : Program) (W : World) (N : Nat) (fs : List Field) (off : Nat) (en : γ → List AV) (ok : γ → Prop) : Prop where
  run : ∀ (H : Type) (enc : TypeId × Value → H) (m : Nat) (cs : List Value) (xs : List (DataW H × List MemPlace)), cs.length = N → xs.length = fs.length →
    (∀ (i : Nat) (f : Field), fs[i]? = some f → DataW.trod enc P W 0 (fun _ => true) true m f.type ((cs.drop f.offset).take (P.cellsOf f.type)) = xs[i]?) →
    (∀ x ∈ xs, ∀ p ∈ x.2, p.block < W.heap.size) → (∀ n ∈ DataW.weightsEach P (fs.map (·.type)) (xs.map (·.1)), n ≤ 140737488351232) →
    ∃ g, CellsR (· < W.heap.size) W (en g) (cs.drop off) ∧ (∀ u ∈ cs.drop off, u.oneCell' = true) ∧ ok g
theorem opnF_nil (N : Nat) : OpnFs P W N [] N (fun _ : Unit => []) (fun _ => True) := OpnFs.mk fun H enc m cs xs h1 h2 h3 h4 h5 => by
  have : cs.drop N = [] := List.drop_eq_nil_of_le (by omega)
  rw [this]
  exact ⟨(), ⟨rfl, fun j a u ha => by simp at ha⟩, fun u hu => by simp at hu, trivial⟩
theorem cells_append {D : Nat → Prop} {w : World} {xs ys : List AV} {cs ds : List Value} (h : CellsR D w xs cs) (k : CellsR D w ys ds) : CellsR D w (xs ++ ys) (cs ++ ds) := by
  refine ⟨by simp [h.1, k.1], fun j a u ha hu => ?_⟩
  by_cases hj : j < xs.length
  · rw [List.getElem?_append_left hj] at ha
    rw [List.getElem?_append_left (by rw [h.1]; exact hj)] at hu
    exact h.2 j a u ha hu
  · rw [List.getElem?_append_right (by omega)] at ha
    rw [List.getElem?_append_right (by rw [h.1]; omega), h.1] at hu
    exact k.2 _ a u ha hu
theorem opnF_cons {α γ : Type} {N off k : Nat} {f : Field} {fs : List Field} {en : α → List AV} {ok : α → Prop} {en2 : γ → List AV} {ok2 : γ → Prop} (h : Opn P W f.type en ok) (ho : f.offset = off) (hk : P.cellsOf f.type = k)
    (hr : OpnFs P W N fs (off + k) en2 ok2) : OpnFs P W N (f :: fs) off (fun g : α × γ => en g.1 ++ en2 g.2) (fun g => ok g.1 ∧ ok2 g.2) := OpnFs.mk fun H enc m cs xs h1 h2 h3 h4 h5 => by
  obtain ⟨x0, xr, rfl⟩ : ∃ a r, xs = a :: r := by
    cases xs with
    | nil => simp at h2
    | cons a r => exact ⟨a, r, rfl⟩
  have g0 := h3 0 f rfl
  rw [ho, hk] at g0
  simp only [List.map_cons, DataW.weightsEach] at h5
  obtain ⟨a, ha, ha2, ha3⟩ := h.run H enc m _ x0 (by simpa using g0) (h4 x0 (by simp)) (fun n hn => h5 n (by simp [hn]))
  obtain ⟨g, hg, hg2, hg3⟩ := hr.run H enc m cs xr h1 (by simpa using h2) (fun i f' hf => by have := h3 (i + 1) f' (by simpa using hf); simpa using this) (fun x hx => h4 x (by simp [hx])) (fun n hn => h5 n (by simp [hn]))
  have e : cs.drop off = (cs.drop off).take k ++ cs.drop (off + k) := by
    rw [← List.drop_drop, List.take_append_drop]
  refine ⟨(a, g), ?_, ?_, ha3, hg3⟩
  · rw [e]; exact cells_append ha hg
  · intro u hu
    rw [e] at hu
    rcases List.mem_append.1 hu with h | h
    · exact ha2 u h
    · exact hg2 u h
theorem opn_struct {γ : Type} {N : Nat} {fs : Array Field} {en : γ → List AV} {ok : γ → Prop} (hu : P.underlying t = some (.struct fs)) (hc : P.cellsOf t = N) (h : OpnFs P W N fs.toList 0 en ok) : Opn P W t en ok := Opn.mk fun H enc fuel cs x h1 h2 h3 => by
  obtain ⟨xs, m, _, rfl, hl, hlen, hfl⟩ := DataW.trod_struct hu h1
  obtain ⟨g, g1, g2, g3⟩ := h.run H enc m cs xs (by rw [hl, hc]) (by simpa using hlen) (fun i f hf => hfl i f (by simpa using hf)) (fun x hx p hp => h2 p (by simp only [List.mem_flatMap]; exact ⟨x, hx, hp⟩))
    (fun n hn => h3 n (by simp only [DataW.weights, hu]; exact hn))
  exact ⟨g, by simpa using g1, by simpa using g2, g3⟩
theorem arg_struct {α : Type} {en : α → List AV} {ok : α → Prop} {fs : Array Field} {H : Type} {enc : TypeId × Value → H} {base : Nat} {v : Value} {d : DataW H} {p : List MemPlace} (h : Opn P W t en ok) (hu : P.underlying t = some (.struct fs)) (hv : Value.okWide P W .any base t v)
    (ht : ∃ fuel, DataW.trod enc P W 0 (fun _ => true) true fuel t v.cells.toList = some (d, p)) (hlt : ∀ x ∈ p, x.block < W.heap.size) (hw : ∀ n ∈ DataW.weights P t d, n ≤ 140737488351232) : ∃ a, Ra (· < W.heap.size) W (.agg (en a)) v ∧ ok a := by
  obtain ⟨cs, rfl, _⟩ := okWide_struct hu hv
  obtain ⟨fuel, ht⟩ := ht
  obtain ⟨a, g1, g2, g3⟩ := h.run H enc fuel _ _ ht hlt hw
  refine ⟨a, .agg _ _ (by have := g1.1; simp [Value.cells] at this; omega) (fun j u hj => g2 u (by have := Array.mem_of_getElem? hj; simpa [Value.cells] using this)) (fun j x u hx hj => g1.2 j x u hx (by simpa [Value.cells] using hj)), g3⟩
def RaL (D : Nat → Prop) (w : World) : List AV → List Value → Prop
  | [], [] => True
  | x :: xs, v :: vs => Ra D w x v ∧ RaL D w xs vs
  | _, _ => False
theorem raAllL {D : Nat → Prop} {w : World} : ∀ (xs : List AV) (vs : List Value), RaL D w xs vs → RaAll D w xs vs.toArray
  | [], [], _ => ⟨rfl, fun j a u ha => by simp at ha⟩
  | x :: xs, v :: vs, h => by
    have ih := raAllL xs vs h.2
    refine ⟨by have := ih.1; simp at this ⊢; exact this, fun j a u ha hu => ?_⟩
    cases j with
    | zero => simp at ha hu; subst ha hu; exact h.1
    | succ j => exact ih.2 j a u (by simpa using ha) (by simpa using hu)
  | [], _ :: _, h => h.elim
  | _ :: _, [], h => h.elim
theorem law_callsV {f : FuncId} {args : List AV} {vs : Array Value} {w : World} (h : FSpec P f args (aB true)) (hv : RaAll (· < w.heap.size) w args vs) :
    Calls P f vs w (fun e w' => e = .returned (.bool true) ∧ Below w.heap.size w w') := by
  refine (h _ w vs (fun _ h => h) hv).mono ?_
  rintro e w' ⟨v, D', rfl, hb, _, _, hr⟩
  cases hr
  exact ⟨rfl, hb⟩
end
end Copyhold

set_option linter.unusedVariables false
set_option linter.unusedSimpArgs false
namespace Go.Proofs.Ytkepkbgebickiaa
open Go Go.RowKit Copyhold
theorem opv_ent (W : World) : Opn Try.prog W 87 entA OkE :=
  (opn_struct (N := 2) Try.underlying87 (by kernel_rfl) (opnF_cons (k := 1) (opn_string Try.underlying9) rfl (by kernel_rfl) (opnF_cons (k := 1) (opn_int Try.underlying3) rfl (by kernel_rfl) (opnF_nil 2)))).map (fun g => ⟨g.1, g.2.1⟩) (fun _ => rfl) (fun a h => ⟨h.1, h.2.1⟩)
theorem opv_ents (W : World) : Opn Try.prog W 29 (fun l : List (Ent) => [.sl 2 false (l.map entA)]) (fun l => l.length ≤ 8796093022207 ∧ ∀ a ∈ l, OkE a) := opn_slice (opv_ent W) (⟨[], 0⟩) Try.underlying29 (by kernel_rfl) (by decide) (Nat.le_of_ble_eq_true (by kernel_rfl))
theorem opv_nod (W : World) : Opn Try.prog W 31 nodA OkN :=
  (opn_struct (N := 5) Try.underlying31 (by kernel_rfl) (opnF_cons (k := 1) (opn_int Try.underlying3) rfl (by kernel_rfl) (opnF_cons (k := 1) (opn_int Try.underlying3) rfl (by kernel_rfl) (opnF_cons (k := 1) (opn_int Try.underlying3) rfl (by kernel_rfl) (opnF_cons (k := 1) (opn_string Try.underlying9) rfl (by kernel_rfl) (opnF_cons (k := 1) (opv_ents W) rfl (by kernel_rfl) (opnF_nil 5))))))).map (fun g => ⟨g.1, g.2.1, g.2.2.1, g.2.2.2.1, g.2.2.2.2.1⟩) (fun _ => rfl) (fun a h => ⟨h.1, h.2.1, h.2.2.1, h.2.2.2.1, h.2.2.2.2.1.1, h.2.2.2.2.1.2⟩)
theorem opv_nods (W : World) : Opn Try.prog W 22 (fun l : List (Nod) => [.sl 5 false (l.map nodA)]) (fun l => l.length ≤ 8796093022207 ∧ ∀ a ∈ l, OkN a) := opn_slice (opv_nod W) (⟨0, 0, 0, [], []⟩) Try.underlying22 (by kernel_rfl) (by decide) (Nat.le_of_ble_eq_true (by kernel_rfl))
theorem opv_fsy (W : World) : Opn Try.prog W 24 fsyA OkF :=
  (opn_struct (N := 2) Try.underlying24 (by kernel_rfl) (opnF_cons (k := 1) (opv_nods W) rfl (by kernel_rfl) (opnF_cons (k := 1) (opn_int Try.underlying3) rfl (by kernel_rfl) (opnF_nil 2)))).map (fun g => ⟨g.1, g.2.1⟩) (fun _ => rfl) (fun a h => ⟨h.2.1, h.1.1, h.1.2⟩)
end Go.Proofs.Ytkepkbgebickiaa
