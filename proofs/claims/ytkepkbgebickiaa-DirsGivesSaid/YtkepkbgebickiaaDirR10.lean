/- What is given is found and taken away again: the mathematics; the law DirsGives over data. -/
import Derived.Test.YtkepkbgebickiaaMrgS
set_option linter.unusedVariables false
set_option linter.unusedSimpArgs false
namespace Go.Proofs.Ytkepkbgebickiaa
open Go Go.RowKit Copyhold
open Copyhold.Name (Srt insE delE getE isAt)
structure GivesP (f : Fsy) (dir : Int) (s : Txt) (i : Int) (d n : Nod) : Prop where
  dir : atF f dir = some d
  kind : d.kind = 2
  node : atF f i = some n
  file : ¬ n.kind = 2
  check : checkE s = 0
  away : isB d.l s = false
  fewd : d.l.length < 256
  links : n.links < 64
theorem gives_of {f : Fsy} {dir : Int} {s : Txt} {i : Int} (h : giveErr f dir s i = 0) : ∃ d n, GivesP f dir s i d n := by
  unfold giveErr at h
  rw [first6] at h
  split at h
  · rename_i h1
    split at h
    · rename_i h2
      split at h
      · rename_i h3
        split at h
        · rename_i h4
          split at h
          · rename_i h5
            obtain ⟨d, g1, g2, g3, _, _⟩ := at_dir h1
            rw [g3] at h h5
            rw [when0 (by decide)] at h h2 h3 h5
            simp only [Bool.or_eq_false_iff, decide_eq_false_iff_not, Bool.not_eq_false'] at h h2
            have hn := at_some h2
            refine ⟨d, findN f i, g1, g2, hn, by simpa using h3, h4, h5, by omega, by omega⟩
          · exact absurd h (by assumption)
        · exact absurd h (by assumption)
      · exact absurd h (by assumption)
    · exact absurd h (by assumption)
  · exact absurd h (by assumption)
theorem right_links {f : Fsy} {i : Int} {n : Nod} (h : rightP f) (hn : atF f i = some n) (hk : ¬ n.kind = 2) : 1 ≤ n.links := by
  obtain ⟨hr, ⟨n0, h0, h1, h2, _⟩, hall⟩ := h
  obtain ⟨j, hj⟩ := List.getElem?_of_mem (at_mem hn)
  have g := (hall j n hj).2.1
  unfold lateR at g
  have hj0 : ¬ j = 0 := fun e => by rw [e, h0] at hj; obtain rfl := Option.some.inj hj; exact hk h2
  have hj1 : decide ((j : Int) > 0) = true := decide_eq_true (by omega)
  rw [hj1] at g
  simp only [Bool.true_and, Bool.not_eq_true', Bool.or_eq_false_iff, decide_eq_false_iff_not] at g
  omega
theorem gives_facts {f : Fsy} {dir : Int} {s : Txt} {i : Int} (okf : OkF f) (hr : rightP f) (hs : s.length ≤ 1000000) (he : giveErr f dir s i = 0) :
    rowsP (giveF f dir s i) ∧ OkF (giveF f dir s i) ∧ lookE (giveF f dir s i) dir s = 0 ∧ (lookN (giveF f dir s i) dir s).ino = i ∧ 2 ≤ (lookN (giveF f dir s i) dir s).links ∧ takeErr (giveF f dir s i) dir s = 0 ∧ takeF (giveF f dir s i) dir s = f := by
  have hp := hr.1
  obtain ⟨d, n, A⟩ := gives_of he
  obtain ⟨d1, d2, d3⟩ := rows_at hp A.dir
  obtain ⟨n1, n2, n3⟩ := rows_at hp A.node
  have hl := right_links hr A.node A.file
  have hrow := (dir_row d1 A.kind).2
  have hi : 1 ≤ i := by have := n1.1; omega
  have he0 := entE_cases A.check hi A.away A.fewd
  have hrow2 := ent_row hrow A.check hi A.away A.fewd
  have hne : ¬ i = dir := fun e => by
    have h1 := A.node
    rw [e, A.dir] at h1
    obtain rfl := Option.some.inj h1
    exact A.file A.kind
  obtain ⟨s1, s2, s3, s4⟩ := setL_rows hp A.dir A.kind hrow2
  have eA : giveF f dir s i = putF (setL f d (entL d.l s i)) (giveN n) := by
    unfold giveF giveF0
    rw [if_pos he, enter_set A.dir, find_dir A.node]
  have hN : nodP (giveN n) := ⟨n1.1, by show 0 ≤ n.links + 1; omega, by have := A.links; show n.links + 1 ≤ 64; omega, n1.2.2.2⟩
  obtain ⟨p1, p2, p3, p4⟩ := put_there (n := giveN n) s1 (show atF (setL f d (entL d.l s i)) i = some n by rw [s4, if_neg hne]; exact A.node) n3 hN
  rw [← eA] at p1 p2 p3 p4
  have dA : atF (giveF f dir s i) dir = some (withL d (entL d.l s i)) := by rw [p4, if_neg (fun e => hne e.symm), s4, if_pos rfl]
  have xA : atF (giveF f dir s i) i = some (giveN n) := by rw [p4, if_pos rfl]
  have gA : getE (lI (withL d (entL d.l s i)).l) s = some i := by
    show getE (lI (entL d.l s i)) s = _
    rw [get_ent (row_srt hrow) he0 A.away, if_pos rfl]
  obtain ⟨l1, l2⟩ := look_at dA A.kind A.check gA xA
  have hfull : fullB (giveN n) = false := by
    unfold fullB
    have : ((giveN n).kind == 2) = false := by simpa [giveN] using A.file
    rw [this]; rfl
  obtain ⟨t1, t2⟩ := take_ok dA A.kind A.check gA xA hfull
  have okd := okf.2.2 d (at_mem A.dir)
  have okn := okf.2.2 n (at_mem A.node)
  obtain ⟨hf, hf2⟩ := okf.1
  have h256 : f.l.length ≤ 256 := hp.1
  refine ⟨p1, ?_, l1, by rw [l2]; exact n3, by rw [l2]; show 2 ≤ n.links + 1; omega, t1, ?_⟩
  · rw [eA]
    have okl : OkN (withL d (entL d.l s i)) := by
      refine ⟨okd.1, okd.2.1, okd.2.2.1, okd.2.2.2.1, ?_, fun e hm => ?_⟩
      · have := ent_len (l := d.l) (s := s) (n := i); have := A.fewd; show (entL d.l s i).length ≤ _; omega
      · have hm' : e ∈ entL d.l s i := hm
        unfold entL at hm'
        rw [if_pos he0] at hm'
        rcases List.mem_append.1 hm' with h | h
        · exact okd.2.2.2.2.2 e (List.mem_of_mem_take h)
        · rcases List.mem_cons.1 h with rfl | h
          · exact ⟨by show s.length ≤ _; omega, by have := okn.1; rw [n3] at this; exact this⟩
          · exact okd.2.2.2.2.2 e (List.mem_of_mem_drop h)
    refine put_ok (put_ok okf okl (by show d.ino < _; omega) (by omega)) ⟨okn.1, okn.2.1, ⟨by show _ ≤ n.links + 1; omega, by have := A.links; show n.links + 1 ≤ _; omega⟩, okn.2.2.2⟩ (by show n.ino < _; omega) (by have := putN_le f.l (withL d (entL d.l s i)); show (putN f.l _).length ≤ _; omega)
  · rw [t2]
    unfold awayF
    have hl1 : (giveN n).links = n.links + 1 := rfl
    have ea : awayN (giveN n) = n := by
      unfold awayN giveN
      simp
    rw [if_neg (by omega), ea, leave_set dA]
    show putF (setL _ _ (delL (entL d.l s i) s)) n = f
    rw [del_ent (row_srt hrow) he0 A.away]
    obtain ⟨u1, u2, u3, u4⟩ := setL_rows p1 dA A.kind hrow
    obtain ⟨v1, v2, v3, v4⟩ := put_there (n := n) u1 (show atF (setL (giveF f dir s i) (withL d (entL d.l s i)) d.l) i = some (giveN n) by rw [u4, if_neg hne]; exact xA) n3 n1
    refine fsy_ext (rows_rise v1) (rows_rise hp) (fun j => ?_) (by rw [v3, u3, p3, s3])
    rw [v4, u4, p4, s4]
    by_cases hj : j = i
    · rw [if_pos hj, hj, A.node]
    · rw [if_neg hj, if_neg hj]
      by_cases hd : j = dir
      · rw [if_pos hd, hd, A.dir]; rfl
      · rw [if_neg hd, if_neg hd]
theorem give_no {f : Fsy} {dir : Int} {s : Txt} {i : Int} (he : ¬ giveErr f dir s i = 0) : giveF f dir s i = f := if_neg he
structure Dgv where
  f : Fsy
  i : Int
  s : Txt
  n : Int
def dgvA (a : Dgv) : List AV := [.sl 5 false (a.f.l.map nodA), aI a.f.next, aI a.i, aS a.s, aI a.n]
def OkDgv (a : Dgv) : Prop := OkF a.f ∧ I64 a.n
set_option maxRecDepth 100000 in
set_option maxHeartbeats 4000000 in
theorem dirsGives_data (f : Fsy) (dir : Int) (s : Txt) (i : Int) (okf : OkF f) (hi : I64 i) : FSpec Try.prog 6 [.agg [.sl 5 false (f.l.map nodA), aI f.next, aI dir, aS s, aI i]] (aB true) := by
  exact spec_vc (F := Try.f6) 400 (
 .new fun b1 => .r 1 <| .run 2 [b1 = b1] ⟨rfl, trivial⟩ <|
 .new fun b2 => .run 1 [b2 = b2] ⟨rfl, trivial⟩ <|
 .run 3 [b1 = b1] ⟨rfl, trivial⟩ <|
 .run 3 [b1 = b1] ⟨rfl, trivial⟩ <|
 .run 3 [b1 = b1] ⟨rfl, trivial⟩ <|
 .call (shown_spec) <|
 .r 1 <| .run 1 [b2 = b2] ⟨rfl, trivial⟩ <|
 .call (fewr_spec f okf) <|
 .r 1 <| .r 3 <| .br 28 (!(dP (fewF f ∧ rightP f))) (fun q1 => have q1 := notT q1; have p1 := booF q1; .r 4 <| .r 2 <| .fin (x := aB true) (r := aB true) [] trivial (by exact Sub.of_eq (by first | rfl | (exact congrArg aB (dP_true.2 rfl)) | (simp; done))))
 <| fun q1 => have q1 := notF q1; have p1 := booT q1; have hfr := dP_true.1 q1; have hp := hfr.2.1; .r 4 <| .br 32 (decide (((s).length : Int) > 1000)) (fun q2 => have p2 := decT q2; .r 2 <| .fin (x := aB true) (r := aB true) [] trivial (by exact Sub.of_eq (by first | rfl | (exact congrArg aB (dP_true.2 rfl)) | (simp; done))))
 <| fun q2 => have p2 := decF q2; .run 4 [b2 = b2] ⟨rfl, trivial⟩ <|
 .call (give_spec f dir s i okf hp (by omega) hi) <|
 .r 3 <| .new fun b3 => .run 2 [b3 = b3] ⟨rfl, trivial⟩ <|
 .r 2 <| .br 43 ((giveErr f dir s i) != 0) (fun q3 => have p3 := bneT q3; have hne : ¬ giveErr f dir s i = 0 := (by simpa using q3); .run 4 [b3 = b3, b2 = b2] ⟨rfl, rfl, trivial⟩ <|
 .callS (args0 := [.agg [.sl 5 false ((giveF f dir s i).l.map nodA), aI ((giveF f dir s i).next)], .agg [.sl 5 false (f.l.map nodA), aI f.next]]) (args := [.agg [.sl 5 false (f.l.map nodA), aI f.next], .agg [.sl 5 false (f.l.map nodA), aI f.next]]) ⟨by rw [give_no hne]; exact Sub.refl _, Sub.refl _, trivial⟩ (fsame_spec f f okf okf) <|
 .r 2 <| .fin (x := aB (dP (f = f))) (r := aB true) [] trivial (by exact Sub.of_eq (by first | rfl | (exact congrArg aB (dP_true.2 rfl)) | (simp; done))))
 <| fun q3 => have p3 := bneF q3; have he : giveErr f dir s i = 0 := (by simpa using q3); have hgv := gives_facts okf hfr.2 (by omega) he; .run 3 [b3 = b3] ⟨rfl, trivial⟩ <|
 .call (look_spec (giveF f dir s i) dir s hgv.1 (by omega)) <|
 .r 3 <| .new fun b4 => .run 2 [b4 = b4] ⟨rfl, trivial⟩ <|
 .run 3 [b3 = b3] ⟨rfl, trivial⟩ <|
 .call (take_spec (giveF f dir s i) dir s hgv.2.1 hgv.1 (by omega)) <|
 .r 3 <| .new fun b5 => .run 2 [b5 = b5] ⟨rfl, trivial⟩ <|
 .r 6 <| .is 69 (show ((lookE (giveF f dir s i) dir s) == 0) = true from (by rw [hgv.2.2.1]; rfl)) <| .run 6 [b4 = b4] ⟨rfl, trivial⟩ <|
 .is 75 (show (((lookN (giveF f dir s i) dir s).ino) == i) = true from (by rw [hgv.2.2.2.1]; simp)) <| .run 5 [b4 = b4] ⟨rfl, trivial⟩ <|
 .is 80 (show (decide (((lookN (giveF f dir s i) dir s).links) ≥ 2)) = true from (by have := hgv.2.2.2.2.1; simp; omega)) <| .r 4 <| .is 84 (show ((takeErr (giveF f dir s i) dir s) == 0) = true from (by rw [hgv.2.2.2.2.2.1]; rfl)) <| .run 2 [b5 = b5, b2 = b2] ⟨rfl, rfl, trivial⟩ <|
 .callS (args0 := [.agg [.sl 5 false ((takeF (giveF f dir s i) dir s).l.map nodA), aI ((takeF (giveF f dir s i) dir s).next)], .agg [.sl 5 false (f.l.map nodA), aI f.next]]) (args := [.agg [.sl 5 false (f.l.map nodA), aI f.next], .agg [.sl 5 false (f.l.map nodA), aI f.next]]) ⟨by rw [hgv.2.2.2.2.2.2]; exact Sub.refl _, Sub.refl _, trivial⟩ (fsame_spec f f okf okf) <|
 .r 2 <| .fin (x := aB (dP (f = f))) (r := aB true) [] trivial (by exact Sub.of_eq (by first | rfl | (exact congrArg aB (dP_true.2 rfl)) | (simp; done)))) Try.func6 rfl (by kernel_rfl) (by kernel_rfl)
theorem dirsGives_spec (a : Dgv) (h : OkDgv a) : FSpec Try.prog 6 [.agg (dgvA a)] (aB true) := dirsGives_data a.f a.i a.s a.n h.1 h.2
end Go.Proofs.Ytkepkbgebickiaa
