/- ref07.Take, ref08.Take: the document's own takers. A range over a map without entries, over abstract states: nothing is done. Over any program. -/
import Derived.Test.YtgcjfhgkkgocpaaMrgQ
import Derived.Test.YtgcjfhgkkgocpaaMrgJ
import Derived.MapKept
set_option linter.unusedVariables false
set_option linter.unusedSimpArgs false
namespace Go.Proofs.Ytgcjfhgkkgocpaa
open Go Go.RowKit Copyhold Copyhold.Name
theorem checkP_iff {s : Txt} : okN s = true ↔ checkP s := by
  simp only [okN, checkP, Bool.and_eq_true, Bool.not_eq_true', decide_eq_true_eq, beq_eq_false_iff_ne, ne_eq]
  constructor
  · rintro ⟨⟨⟨⟨⟨h1, h2⟩, h3⟩, h4⟩, h5⟩, h6⟩
    exact ⟨h1, h2, h3, h4, by simpa using h5, by simpa using h6⟩
  · rintro ⟨h1, h2, h3, h4, h5, h6⟩
    exact ⟨⟨⟨⟨⟨h1, h2⟩, h3⟩, h4⟩, by simpa using h5⟩, by simpa using h6⟩
theorem rowP_iff (l : List NEnt) : rightE l = true ↔ rowP (l.map entO) := by
  simp only [rightE, rowP, Bool.and_eq_true, decide_eq_true_eq, List.all_eq_true, List.mem_range, List.length_map]
  refine and_congr_right fun _ => ⟨fun h i e he => ?_, fun h i hi => ?_⟩
  · rw [List.getElem?_map] at he
    cases hx : l[i]? with
    | none => rw [hx] at he; cases he
    | some x =>
      rw [hx] at he
      obtain rfl := Option.some.inj he
      have := h i (lt_of_some hx)
      simp only [okAt, hx, Bool.and_eq_true, okE, decide_eq_true_eq] at this
      refine ⟨checkP_iff.1 this.1.1, this.1.2, fun d h0 hd => ?_⟩
      rw [List.getElem?_map] at hd
      cases hy : l[i - 1]? with
      | none => rw [hy] at hd; cases hd
      | some y =>
        rw [hy] at hd
        obtain rfl := Option.some.inj hd
        have hu := this.2
        simp only [upAt, hy, Bool.or_eq_true, beq_iff_eq, decide_eq_true_eq] at hu
        show Op.bytesLess y.1 x.1 = true
        rw [less_eq]
        exact decide_eq_true (hu.resolve_left (by omega))
  · have hx := List.getElem?_eq_getElem hi
    have := h i (entO l[i]) (by rw [List.getElem?_map, hx]; rfl)
    simp only [okAt, hx, Bool.and_eq_true, okE, decide_eq_true_eq]
    refine ⟨⟨checkP_iff.2 this.1, this.2.1⟩, ?_⟩
    simp only [upAt, Bool.or_eq_true, beq_iff_eq]
    by_cases h0 : i = 0
    · exact .inl h0
    · have hy := List.getElem?_eq_getElem (l := l) (i := i - 1) (by omega)
      right
      rw [hy]
      have h2 := this.2.2 (entO l[i - 1]) (by omega) (by rw [List.getElem?_map, hy]; rfl)
      have h3 : Op.bytesLess l[i - 1].1 l[i].1 = true := h2
      rw [less_eq] at h3
      exact h3
theorem right_iff (n : NNd) : rightN n = true ↔ nodP (nodO n) := by
  simp only [rightN, nodP, nodO, Bool.and_eq_true, decide_eq_true_eq]
  by_cases h2 : n.kind = 2
  · rw [if_pos h2]
    simp only [Bool.and_eq_true, beq_iff_eq, rowP_iff, h2, true_and]
    constructor
    · rintro ⟨⟨⟨g1, g2⟩, g3⟩, g4⟩
      exact ⟨g1, g2, g3, .inl g4⟩
    · rintro ⟨g1, g2, g3, g4 | g4⟩
      · exact ⟨⟨⟨g1, g2⟩, g3⟩, g4⟩
      · omega
  · rw [if_neg h2]
    by_cases h3 : n.kind = 1 ∨ n.kind = 3
    · rw [if_pos h3]
      simp only [Bool.and_eq_true, beq_iff_eq, decide_eq_true_eq]
      constructor
      · rintro ⟨⟨⟨g1, g2⟩, g3⟩, g4, g5⟩
        exact ⟨g1, g2, g3, .inr ⟨h3, g4, by rw [g5]; rfl⟩⟩
      · rintro ⟨g1, g2, g3, g4 | ⟨_, g4, g5⟩⟩
        · omega
        · exact ⟨⟨⟨g1, g2⟩, g3⟩, g4, by simpa using g5⟩
    · rw [if_neg h3]
      simp only [Bool.false_eq_true, and_false, false_iff]
      rintro ⟨g1, g2, g3, g4 | g4⟩
      · exact h2 g4.1
      · exact h3 g4.1
def w1 (s : Txt) := takeWhole s
def w2 (s : Txt) := takeWhole (w1 s).2.1
def w3 (s : Txt) := takeWhole (w2 s).2.1
def w4 (s : Txt) := takeText (w3 s).2.1 4096
def w5 (s : Txt) := takeNum (w4 s).2.1
theorem w_le (s : Txt) : (w1 s).2.1.length ≤ s.length ∧ (w2 s).2.1.length ≤ s.length ∧ (w3 s).2.1.length ≤ s.length ∧ (w4 s).2.1.length ≤ s.length ∧ (w5 s).2.1.length ≤ s.length ∧ (w4 s).1.length ≤ s.length := by
  have h1 : (w1 s).2.1.length ≤ s.length := (takeWhole_bd s).2.1
  have h2 : (w2 s).2.1.length ≤ (w1 s).2.1.length := (takeWhole_bd (w1 s).2.1).2.1
  have h3 : (w3 s).2.1.length ≤ (w2 s).2.1.length := (takeWhole_bd (w2 s).2.1).2.1
  have h4 := takeText_bd (w3 s).2.1 4096
  have h4a : (w4 s).2.1.length ≤ (w3 s).2.1.length := by show (takeText (w3 s).2.1 4096).2.1.length ≤ _; omega
  have h4b : (w4 s).1.length ≤ (w3 s).2.1.length := by show (takeText (w3 s).2.1 4096).1.length ≤ _; omega
  have h5 : (w5 s).2.1.length ≤ (w4 s).2.1.length := takeNum_le _
  omega
theorem rw1_spec (s : Txt) (hs : s.length ≤ 140737488351232) : FSpec Try.prog 31 [aS s] (.tup [aI (w1 s).1, aS (w1 s).2.1, aI (w1 s).2.2]) := rwhole_spec s (by omega)
theorem rw2_spec (s : Txt) (hs : s.length ≤ 140737488351232) : FSpec Try.prog 31 [aS (w1 s).2.1] (.tup [aI (w2 s).1, aS (w2 s).2.1, aI (w2 s).2.2]) := rwhole_spec _ (by have := w_le s; omega)
theorem rw3_spec (s : Txt) (hs : s.length ≤ 140737488351232) : FSpec Try.prog 31 [aS (w2 s).2.1] (.tup [aI (w3 s).1, aS (w3 s).2.1, aI (w3 s).2.2]) := rwhole_spec _ (by have := w_le s; omega)
theorem rw4_spec (s : Txt) (hs : s.length ≤ 140737488351232) : FSpec Try.prog 52 [aS (w3 s).2.1, aI 4096] (.tup [aS (w4 s).1, aS (w4 s).2.1, aI (w4 s).2.2]) := rtakeText_spec _ 4096 (by have := w_le s; omega) (by decide) (by decide)
theorem rw5_spec (s : Txt) (hs : s.length ≤ 140737488351232) : FSpec Try.prog 32 [aS (w4 s).2.1] (.tup [.val (.int .u64 ((w5 s).1 : Int)), aS (w5 s).2.1, aI (w5 s).2.2]) := rtakeNum_spec _ (by have := w_le s; omega)
theorem w5_bd (s : Txt) : ((w5 s).1 : Int) ≤ 18446744073709551615 := by have := (takeNum_bd (w4 s).2.1).1; show ((takeNum (w4 s).2.1).1 : Int) ≤ _; omega
def EsH (s : Txt) (k : Nat) (acc : List NEnt) (rest : Txt) : Prop := k ≤ (w5 s).1 ∧ takeEs (w5 s).1 [] (w5 s).2.1 = takeEs ((w5 s).1 - k) acc rest ∧ acc.length = k ∧ rest.length ≤ s.length ∧ ∀ x ∈ acc, EntT x
theorem es0 (s : Txt) : EsH s 0 [] (w5 s).2.1 := ⟨Nat.zero_le _, rfl, rfl, (w_le s).2.2.2.2.1, fun x h => by cases h⟩
def e1 (r : Txt) := takeText r 32
def e2 (r : Txt) := takeWhole (e1 r).2.1
theorem e_le (r : Txt) : (e1 r).2.1.length ≤ r.length ∧ (e2 r).2.1.length ≤ r.length ∧ (e1 r).1.length ≤ r.length := by
  have h4 := takeText_bd r 32
  have h5 := (takeWhole_bd (e1 r).2.1).2.1
  have h1 : (e1 r).2.1.length ≤ r.length := by show (takeText r 32).2.1.length ≤ _; omega
  have h2 : (e1 r).1.length ≤ r.length := by show (takeText r 32).1.length ≤ _; omega
  exact ⟨h1, Nat.le_trans h5 h1, h2⟩
theorem re1_spec (r : Txt) (hs : r.length ≤ 140737488351232) : FSpec Try.prog 52 [aS r, aI 32] (.tup [aS (e1 r).1, aS (e1 r).2.1, aI (e1 r).2.2]) := rtakeText_spec _ 32 (by omega) (by decide) (by decide)
theorem re2_spec (r : Txt) (hs : r.length ≤ 140737488351232) : FSpec Try.prog 31 [aS (e1 r).2.1] (.tup [aI (e2 r).1, aS (e2 r).2.1, aI (e2 r).2.2]) := rwhole_spec _ (by have := e_le r; omega)
theorem es_step {s : Txt} {k : Nat} {acc : List NEnt} {rest : Txt} (H : EsH s k acc rest) (hk : k < (w5 s).1) (h1 : (e1 rest).2.2 = 0) (h2 : (e2 rest).2.2 = 0) : EsH s (k + 1) (acc ++ [((e1 rest).1, (e2 rest).1)]) (e2 rest).2.1 := by
  obtain ⟨g1, g2, g3, g4, g5⟩ := H
  refine ⟨hk, ?_, by simp [g3], Nat.le_trans (e_le rest).2.1 g4, fun x hx => ?_⟩
  · rw [g2, show (w5 s).1 - k = ((w5 s).1 - (k + 1)) + 1 from by omega, takeEs]
    exact (thenP_ok (r := e1 rest) h1).trans (thenP_ok (r := e2 rest) h2)
  · rcases List.mem_append.1 hx with hx | hx
    · exact g5 x hx
    · obtain rfl := List.mem_singleton.1 hx
      obtain ⟨t1, t2⟩ := takeText_laid rest 32 h1
      exact ⟨by show (takeText rest 32).1.length ≤ 32; omega, (takeWhole_bd (e1 rest).2.1).1⟩
theorem es_bad1 {s : Txt} {k : Nat} {acc : List NEnt} {rest : Txt} (H : EsH s k acc rest) (hk : k < (w5 s).1) (h1 : ¬ (e1 rest).2.2 = 0) : takeEs (w5 s).1 [] (w5 s).2.1 = ([], [], (e1 rest).2.2) := by
  obtain ⟨g1, g2, g3, g4, g5⟩ := H
  rw [g2, show (w5 s).1 - k = ((w5 s).1 - (k + 1)) + 1 from by omega, takeEs]
  exact thenP_no (r := e1 rest) h1
theorem es_bad2 {s : Txt} {k : Nat} {acc : List NEnt} {rest : Txt} (H : EsH s k acc rest) (hk : k < (w5 s).1) (h1 : (e1 rest).2.2 = 0) (h2 : ¬ (e2 rest).2.2 = 0) : takeEs (w5 s).1 [] (w5 s).2.1 = ([], [], (e2 rest).2.2) := by
  obtain ⟨g1, g2, g3, g4, g5⟩ := H
  rw [g2, show (w5 s).1 - k = ((w5 s).1 - (k + 1)) + 1 from by omega, takeEs]
  exact (thenP_ok (r := e1 rest) h1).trans (thenP_no (r := e2 rest) h2)
theorem es_end {s : Txt} {k : Nat} {acc : List NEnt} {rest : Txt} (H : EsH s k acc rest) (hk : ¬ k < (w5 s).1) : takeEs (w5 s).1 [] (w5 s).2.1 = (acc, rest, 0) := by
  obtain ⟨g1, g2, g3, g4, g5⟩ := H
  rw [g2, show (w5 s).1 - k = 0 from by omega]
  rfl
theorem tn1 {s : Txt} (h : ¬ (w1 s).2.2 = 0) : takeNode s = (nd0, [], (w1 s).2.2) := thenP_no h
theorem tn2 {s : Txt} (h1 : (w1 s).2.2 = 0) (h : ¬ (w2 s).2.2 = 0) : takeNode s = (nd0, [], (w2 s).2.2) := (thenP_ok h1).trans (thenP_no h)
theorem tn3 {s : Txt} (h1 : (w1 s).2.2 = 0) (h2 : (w2 s).2.2 = 0) (h : ¬ (w3 s).2.2 = 0) : takeNode s = (nd0, [], (w3 s).2.2) := (thenP_ok h1).trans ((thenP_ok h2).trans (thenP_no h))
theorem tn4 {s : Txt} (h1 : (w1 s).2.2 = 0) (h2 : (w2 s).2.2 = 0) (h3 : (w3 s).2.2 = 0) (h : ¬ (w4 s).2.2 = 0) : takeNode s = (nd0, [], (w4 s).2.2) := (thenP_ok h1).trans ((thenP_ok h2).trans ((thenP_ok h3).trans (thenP_no h)))
theorem tn5 {s : Txt} (h1 : (w1 s).2.2 = 0) (h2 : (w2 s).2.2 = 0) (h3 : (w3 s).2.2 = 0) (h4 : (w4 s).2.2 = 0) (h : ¬ (w5 s).2.2 = 0) : takeNode s = (nd0, [], (w5 s).2.2) := by
  refine (thenP_ok h1).trans ((thenP_ok h2).trans ((thenP_ok h3).trans ((thenP_ok h4).trans ?_)))
  have e : takeCount (w4 s).2.1 256 = (0, [], (w5 s).2.2) := if_pos h
  show thenP nd0 (takeCount (w4 s).2.1 256) _ = _
  rw [e]
  exact thenP_no h
theorem tn6 {s : Txt} (h1 : (w1 s).2.2 = 0) (h2 : (w2 s).2.2 = 0) (h3 : (w3 s).2.2 = 0) (h4 : (w4 s).2.2 = 0) (h5 : (w5 s).2.2 = 0) (h : ((w5 s).1 : Int) > 256) : takeNode s = (nd0, [], 5) := by
  refine (thenP_ok h1).trans ((thenP_ok h2).trans ((thenP_ok h3).trans ((thenP_ok h4).trans ?_)))
  have e : takeCount (w4 s).2.1 256 = (0, [], 5) := (if_neg (by show ¬ (w5 s).2.2 ≠ 0; simp [h5])).trans (if_pos (.inr h))
  show thenP nd0 (takeCount (w4 s).2.1 256) _ = _
  rw [e]
  exact thenP_no (by decide)
theorem tn7 {s : Txt} (h1 : (w1 s).2.2 = 0) (h2 : (w2 s).2.2 = 0) (h3 : (w3 s).2.2 = 0) (h4 : (w4 s).2.2 = 0) (h5 : (w5 s).2.2 = 0) (h6 : ¬ ((w5 s).1 : Int) > 256) : takeNode s = thenP nd0 (takeEs (w5 s).1 [] (w5 s).2.1) (fun l r => endN ⟨(w1 s).1, (w2 s).1, (w3 s).1, (w4 s).1, l⟩ r) := by
  refine (thenP_ok h1).trans ((thenP_ok h2).trans ((thenP_ok h3).trans ((thenP_ok h4).trans ?_)))
  have e : takeCount (w4 s).2.1 256 = w5 s := (if_neg (by show ¬ (w5 s).2.2 ≠ 0; simp [h5])).trans (if_neg (fun h => h.elim (fun h => absurd h (by decide)) (fun h => h6 h)))
  show thenP nd0 (takeCount (w4 s).2.1 256) _ = _
  rw [e]
  exact thenP_ok h5
abbrev ndOf (s : Txt) (acc : List NEnt) : NNd := ⟨(w1 s).1, (w2 s).1, (w3 s).1, (w4 s).1, acc⟩
theorem ndOf_ok {s : Txt} {k : Nat} {acc : List NEnt} {rest : Txt} (hs : s.length ≤ 140737488351232) (H : EsH s k acc rest) (hm : (w5 s).1 ≤ 256) : OkN (nodO (ndOf s acc)) := by
  refine ⟨(takeWhole_bd s).1, (takeWhole_bd (w1 s).2.1).1, (takeWhole_bd (w2 s).2.1).1, Nat.le_trans (w_le s).2.2.2.2.2 hs, ?_, fun e he => ?_⟩
  · show (acc.map entO).length ≤ _
    have := H.1
    rw [List.length_map, H.2.2.1]; omega
  · obtain ⟨x, hx, rfl⟩ := List.mem_map.1 he
    have := H.2.2.2.2 x hx
    exact ⟨Nat.le_trans this.1 (by decide), this.2⟩
theorem nd0_sub : Sub (.val (.agg #[.int .i64 0, .int .i64 0, .int .i64 0, .string ⟨⟨[]⟩⟩, .slice none 0 0])) (.agg (nodA (nodO nd0))) :=
  (Sub.aggVal _ (fun j v h => by
    match j, h with
    | 0, h => cases h; rfl
    | 1, h => cases h; rfl
    | 2, h => cases h; rfl
    | 3, h => cases h; rfl
    | 4, h => cases h; rfl)).trans (Sub.aggs ⟨Sub.refl _, Sub.refl _, Sub.refl _, Sub.refl _, Sub.nil _ _, trivial⟩)
theorem nd0_sub' : Sub (.agg [aI 0, aI 0, aI 0, aS [], aN]) (.agg (nodA (nodO nd0))) := Sub.aggs ⟨Sub.refl _, Sub.refl _, Sub.refl _, Sub.refl _, Sub.nil _ _, trivial⟩
set_option maxRecDepth 100000 in
set_option maxHeartbeats 4000000 in
theorem rntake_spec (s : Txt) (hs : s.length ≤ 140737488351232) : FSpec Try.prog 33 [aS s] (.tup [.agg (nodA (nodO (takeNode s).1)), aS (takeNode s).2.1, aI (takeNode s).2.2]) := by
  exact spec_vc (F := Try.f33) 400 (
 .new fun b1 => .r 2 <| .r 1 <| .call (rw1_spec s hs) <|
 .r 7 <| .r 2 <| .br 31 (((w1 s).2.2) != 0) (fun q1 => have p1 := bneT q1; .run 5 [b1 = b1] ⟨rfl, trivial⟩ <|
 .fin (x := .tup [.agg [aI 0, aI 0, aI 0, aS ([]), aN], aS ([]), aI ((w1 s).2.2)]) (r := .tup [.agg (nodA (nodO (takeNode s).1)), aS (takeNode s).2.1, aI (takeNode s).2.2]) [b1 = b1] ⟨rfl, trivial⟩ (by
    rw [tn1 (by omega)]
    exact Sub.tups ⟨by first | exact nd0_sub | exact nd0_sub', Sub.refl _, Sub.refl _, trivial⟩))
 <| fun q1 => have p1 := bneF q1; .r 1 <| .call (rw2_spec s hs) <|
 .r 7 <| .r 2 <| .br 41 (((w2 s).2.2) != 0) (fun q2 => have p2 := bneT q2; .run 5 [b1 = b1] ⟨rfl, trivial⟩ <|
 .fin (x := .tup [.agg [aI 0, aI 0, aI 0, aS ([]), aN], aS ([]), aI ((w2 s).2.2)]) (r := .tup [.agg (nodA (nodO (takeNode s).1)), aS (takeNode s).2.1, aI (takeNode s).2.2]) [b1 = b1] ⟨rfl, trivial⟩ (by
    rw [tn2 (by omega) (by omega)]
    exact Sub.tups ⟨by first | exact nd0_sub | exact nd0_sub', Sub.refl _, Sub.refl _, trivial⟩))
 <| fun q2 => have p2 := bneF q2; .r 1 <| .call (rw3_spec s hs) <|
 .r 7 <| .r 2 <| .br 51 (((w3 s).2.2) != 0) (fun q3 => have p3 := bneT q3; .run 5 [b1 = b1] ⟨rfl, trivial⟩ <|
 .fin (x := .tup [.agg [aI 0, aI 0, aI 0, aS ([]), aN], aS ([]), aI ((w3 s).2.2)]) (r := .tup [.agg (nodA (nodO (takeNode s).1)), aS (takeNode s).2.1, aI (takeNode s).2.2]) [b1 = b1] ⟨rfl, trivial⟩ (by
    rw [tn3 (by omega) (by omega) (by omega)]
    exact Sub.tups ⟨by first | exact nd0_sub | exact nd0_sub', Sub.refl _, Sub.refl _, trivial⟩))
 <| fun q3 => have p3 := bneF q3; .r 1 <| .call (rw4_spec s hs) <|
 .r 7 <| .r 2 <| .br 61 (((w4 s).2.2) != 0) (fun q4 => have p4 := bneT q4; .run 5 [b1 = b1] ⟨rfl, trivial⟩ <|
 .fin (x := .tup [.agg [aI 0, aI 0, aI 0, aS ([]), aN], aS ([]), aI ((w4 s).2.2)]) (r := .tup [.agg (nodA (nodO (takeNode s).1)), aS (takeNode s).2.1, aI (takeNode s).2.2]) [b1 = b1] ⟨rfl, trivial⟩ (by
    rw [tn4 (by omega) (by omega) (by omega) (by omega)]
    exact Sub.tups ⟨by first | exact nd0_sub | exact nd0_sub', Sub.refl _, Sub.refl _, trivial⟩))
 <| fun q4 => have p4 := bneF q4; .r 1 <| .call (rw5_spec s hs) <|
 .r 7 <| .r 2 <| .br 71 (((w5 s).2.2) != 0) (fun q5 => have p5 := bneT q5; .run 5 [b1 = b1] ⟨rfl, trivial⟩ <|
 .fin (x := .tup [.agg [aI 0, aI 0, aI 0, aS ([]), aN], aS ([]), aI ((w5 s).2.2)]) (r := .tup [.agg (nodA (nodO (takeNode s).1)), aS (takeNode s).2.1, aI (takeNode s).2.2]) [b1 = b1] ⟨rfl, trivial⟩ (by
    rw [tn5 (by omega) (by omega) (by omega) (by omega) (by omega)]
    exact Sub.tups ⟨by first | exact nd0_sub | exact nd0_sub', Sub.refl _, Sub.refl _, trivial⟩))
 <| fun q5 => have p5 := bneF q5; .r 1 <| .binV .gtr 55 (gtrN (k := .u64) (a := ((w5 s).1 : Int)) (b := 256)) <|
 .br 75 (decide (((w5 s).1 : Int) > 256)) (fun q6 => have p6 := decT q6; .run 4 [b1 = b1] ⟨rfl, trivial⟩ <|
 .fin (x := .tup [.agg [aI 0, aI 0, aI 0, aS ([]), aN], aS ([]), aI 5]) (r := .tup [.agg (nodA (nodO (takeNode s).1)), aS (takeNode s).2.1, aI (takeNode s).2.2]) [b1 = b1] ⟨rfl, trivial⟩ (by
    rw [tn6 (by omega) (by omega) (by omega) (by omega) (by omega) (by omega)]
    exact Sub.tups ⟨by first | exact nd0_sub | exact nd0_sub', Sub.refl _, Sub.refl _, trivial⟩))
 <| fun q6 => have p6 := decF q6; .r 5 <| .new fun b2 => .run 1 [b2 = b2] ⟨rfl, trivial⟩ <|
 .rowNilB 100 15 4 93 2 <| .r 1 <| let L1 : Lp (Nat × List NEnt × Txt × Value) := ⟨fun a1 => ⟨[(2, .ptr 2 b1 0), (13, .val (.int .u64 ((w5 s).1 : Int))), (15, .ptr 15 b2 0), (16, .val (.int .u64 (a1.1 : Int))), (0, aS a1.2.2.1)], [(2, .box b1 27 [aI 0, aI 0, aI 0, aS ([]), aN]), (15, .box b2 27 [aI ((w1 s).1), aI ((w2 s).1), aI ((w3 s).1), aS ((w4 s).1), .rw 100 a1.2.2.2 ((a1.2.1.map entO).length)]), (100, .row a1.2.2.2 93 2 ((a1.2.1.map entO).map entA))]⟩, fun a1 => (w5 s).1 - a1.1, fun a1 => EsH s a1.1 a1.2.1 a1.2.2.1⟩
 .loop L1 (0, [], (w5 s).2.1, .slice none 0 0) (show EsH s 0 ([]) ((w5 s).2.1) from (es0 s)) ⟨[(2, .ptr 2 b1 0), (13, .val (.int .u64 ((w5 s).1 : Int))), (15, .ptr 15 b2 0), (16, .val (.int .u64 0)), (0, aS ((w5 s).2.1))], [(2, .box b1 27 [aI 0, aI 0, aI 0, aS ([]), aN]), (15, .box b2 27 [aI ((w1 s).1), aI ((w2 s).1), aI ((w3 s).1), aS ((w4 s).1), .rw 100 (.slice none 0 0) 0]), (100, .row (.slice none 0 0) 93 2 ([]))]⟩ ⟨Sub.refl _, Sub.refl _, Sub.refl _, Sub.of_eq rfl, Sub.refl _, trivial⟩ ⟨⟨_, rfl, SubB.refl _⟩, ⟨_, rfl, SubB.boxs ⟨Sub.refl _, Sub.refl _, Sub.refl _, Sub.refl _, Sub.of_eq rfl, trivial⟩⟩, ⟨_, rfl, SubB.of_eq rfl⟩, trivial⟩ fun a1 ha1 =>
 (fun (k : Nat) (acc : List NEnt) (rest : Txt) (V : Value) (hH1 : EsH s k acc rest) => have hk1 := hH1.1; have hk2 := hH1.2.2.1; have hw5 := w5_bd s; .r 2 <| .binV .lss 55 (lssN (k := .u64) (a := (k : Int)) (b := ((w5 s).1 : Int))) <|
 .br 84 (decide ((k : Int) < ((w5 s).1 : Int))) (fun q7 => have p7 := decT q7; .r 1 <| .call (re1_spec rest (by have := hH1.2.2.2.1; omega)) <|
 .r 7 <| .r 2 <| .br 94 (((e1 rest).2.2) != 0) (fun q8 => have p8 := bneT q8; .run 5 [b1 = b1] ⟨rfl, trivial⟩ <|
 .fin (x := .tup [.agg [aI 0, aI 0, aI 0, aS ([]), aN], aS ([]), aI ((e1 rest).2.2)]) (r := .tup [.agg (nodA (nodO (takeNode s).1)), aS (takeNode s).2.1, aI (takeNode s).2.2]) [b1 = b1] ⟨rfl, trivial⟩ (by
    rw [tn7 (by omega) (by omega) (by omega) (by omega) (by omega) (by omega), es_bad1 hH1 (by omega) (by omega), thenP_no (by show ¬ (e1 rest).2.2 = 0; omega)]
    exact Sub.tups ⟨by first | exact nd0_sub | exact nd0_sub', Sub.refl _, Sub.refl _, trivial⟩))
 <| fun q8 => have p8 := bneF q8; .r 1 <| .call (re2_spec rest (by have := hH1.2.2.2.1; omega)) <|
 .r 7 <| .r 2 <| .br 104 (((e2 rest).2.2) != 0) (fun q9 => have p9 := bneT q9; .run 5 [b1 = b1] ⟨rfl, trivial⟩ <|
 .fin (x := .tup [.agg [aI 0, aI 0, aI 0, aS ([]), aN], aS ([]), aI ((e2 rest).2.2)]) (r := .tup [.agg (nodA (nodO (takeNode s).1)), aS (takeNode s).2.1, aI (takeNode s).2.2]) [b1 = b1] ⟨rfl, trivial⟩ (by
    rw [tn7 (by omega) (by omega) (by omega) (by omega) (by omega) (by omega), es_bad2 hH1 (by omega) (by omega) (by omega), thenP_no (by show ¬ (e2 rest).2.2 = 0; omega)]
    exact Sub.tups ⟨by first | exact nd0_sub | exact nd0_sub', Sub.refl _, Sub.refl _, trivial⟩))
 <| fun q9 => have p9 := bneF q9; .run 6 [b2 = b2] ⟨rfl, trivial⟩ <|
 .app 24 V ((acc.map entO).map entA) ([[aS ((e1 rest).1), aI ((e2 rest).1)]]) (by simp only [List.length_map, List.length_cons, List.length_nil]; omega) (by simp only [List.length_map, List.length_cons, List.length_nil]; omega) fun V1 =>
 .run 2 [b2 = b2] ⟨rfl, trivial⟩ <|
 .r 2 <| .r 1 <| .binV .add 55 (addU (a := (k : Int)) (b := 1) (by omega) (by omega)) <|
 .r 1 <| .back L1 (k, acc, rest, V) ((k + 1), (acc ++ [((e1 rest).1, (e2 rest).1)]), (e2 rest).2.1, V1) (show EsH s (k + 1) (acc ++ [((e1 rest).1, (e2 rest).1)]) ((e2 rest).2.1) from (es_step hH1 (by omega) (by omega) (by omega))) (show (w5 s).1 - (k + 1) < (w5 s).1 - k from (by omega)) ⟨[(2, .ptr 2 b1 0), (13, .val (.int .u64 ((w5 s).1 : Int))), (15, .ptr 15 b2 0), (16, .val (.int .u64 ((k : Int) + 1))), (0, aS ((e2 rest).2.1))], [(2, .box b1 27 [aI 0, aI 0, aI 0, aS ([]), aN]), (15, .box b2 27 [aI ((w1 s).1), aI ((w2 s).1), aI ((w3 s).1), aS ((w4 s).1), .rw 100 V1 (((acc.map entO).map entA).length + ([[aS ((e1 rest).1), aI ((e2 rest).1)]] : List (List AV)).length)]), (100, .row V1 93 2 (((acc.map entO).map entA) ++ ([[aS ((e1 rest).1), aI ((e2 rest).1)]])))]⟩ ⟨Sub.refl _, Sub.refl _, Sub.refl _, Sub.of_eq (congrArg (fun z => AV.val (.int .u64 z)) (by omega)), Sub.refl _, trivial⟩ ⟨⟨_, rfl, SubB.refl _⟩, ⟨_, rfl, SubB.boxs ⟨Sub.refl _, Sub.refl _, Sub.refl _, Sub.refl _, Sub.of_eq (congrArg (AV.rw 100 V1) (by simp)), trivial⟩⟩, ⟨_, rfl, SubB.of_eq (by simp [entA, entO])⟩, trivial⟩)
 <| fun q7 => have p7 := decF q7; .frz 100 [0, 2, 15, 84] [2, 15] [V = V, (acc.map entO).length = ((acc.map entO).map entA).length] ⟨rfl, (by first | rfl | (simp; done) | (simp; omega)), trivial⟩ <|
 .run 1 [b2 = b2] ⟨rfl, trivial⟩ <|
 .callS (args0 := [.agg [aI ((w1 s).1), aI ((w2 s).1), aI ((w3 s).1), aS ((w4 s).1), .sl 2 false ((acc.map entO).map entA)]]) (args := [.agg [aI ((nodO (ndOf s acc)).ino), aI ((nodO (ndOf s acc)).kind), aI ((nodO (ndOf s acc)).links), aS ((nodO (ndOf s acc)).text), .sl 2 false ((nodO (ndOf s acc)).l.map entA)]]) ⟨Sub.refl _, trivial⟩ (rnright_spec (nodO (ndOf s acc)) (ndOf_ok hs hH1 (by omega))) <|
 .r 1 <| .r 2 <| .br 119 (!(dP (nodP (nodO (ndOf s acc))))) (fun q10 => have q10 := notT q10; have p10 := booF q10; .run 4 [b1 = b1] ⟨rfl, trivial⟩ <|
 .fin (x := .tup [.agg [aI 0, aI 0, aI 0, aS ([]), aN], aS ([]), aI 3]) (r := .tup [.agg (nodA (nodO (takeNode s).1)), aS (takeNode s).2.1, aI (takeNode s).2.2]) [b1 = b1] ⟨rfl, trivial⟩ (by
    rw [tn7 (by omega) (by omega) (by omega) (by omega) (by omega) (by omega), es_end hH1 (by omega), thenP_ok rfl]
    rw [show endN _ _ = (nd0, [], 3) from if_neg (fun h => dP_false.1 (by assumption) ((right_iff _).1 h))]
    exact Sub.tups ⟨by first | exact nd0_sub | exact nd0_sub', Sub.refl _, Sub.refl _, trivial⟩))
 <| fun q10 => have q10 := notF q10; have p10 := booT q10; .run 5 [b2 = b2, b1 = b1] ⟨rfl, rfl, trivial⟩ <|
 .fin (x := .tup [.agg [aI ((w1 s).1), aI ((w2 s).1), aI ((w3 s).1), aS ((w4 s).1), .sl 2 false ((acc.map entO).map entA)], aS rest, aI 0]) (r := .tup [.agg (nodA (nodO (takeNode s).1)), aS (takeNode s).2.1, aI (takeNode s).2.2]) [b1 = b1] ⟨rfl, trivial⟩ (by
    rw [tn7 (by omega) (by omega) (by omega) (by omega) (by omega) (by omega), es_end hH1 (by omega), thenP_ok rfl]
    rw [show endN (ndOf s acc) rest = (ndOf s acc, rest, 0) from if_pos ((right_iff _).2 (dP_true.1 (by assumption)))]
    exact Sub.tups ⟨Sub.refl _, Sub.refl _, Sub.refl _, trivial⟩)) a1.1 a1.2.1 a1.2.2.1 a1.2.2.2 ha1) Try.func33 rfl (by kernel_rfl) (by kernel_rfl)
set_option maxRecDepth 100000 in
set_option maxHeartbeats 4000000 in
theorem rtake_spec (s : Txt) (hs : s.length ≤ 140737488351232) : FSpec Try.prog 11 [aS s] (.tup [.agg (fsyA (takeF s).1), aI (takeF s).2]) := by
  exact spec_vc (F := Try.f11) 400 (
 .new fun b1 => .r 1 <| .r 1 <| .call (rwhole_spec s (by omega)) <|
 .r 7 <| .r 2 <| .br 21 (((takeNum s).2.2) != 0) (fun q1 => have p1 := bneT q1; .run 4 [b1 = b1] ⟨rfl, trivial⟩ <|
 .fin (x := .tup [.agg [aN, aI 0], aI ((takeNum s).2.2)]) (r := .tup [.agg (fsyA (takeF s).1), aI (takeF s).2]) [b1 = b1] ⟨rfl, trivial⟩ (by
    rw [takeF_1 (by omega)]
    exact Sub.tups ⟨fs0_sub, Sub.refl _, trivial⟩))
 <| fun q1 => have p1 := bneF q1; .r 1 <| .call (rtakeNum_spec (takeNum s).2.1 (Nat.le_trans (takeNum_le _) (by omega))) <|
 .r 7 <| .r 2 <| .br 31 (((takeNum (takeNum s).2.1).2.2) != 0) (fun q2 => have p2 := bneT q2; .run 4 [b1 = b1] ⟨rfl, trivial⟩ <|
 .fin (x := .tup [.agg [aN, aI 0], aI ((takeNum (takeNum s).2.1).2.2)]) (r := .tup [.agg (fsyA (takeF s).1), aI (takeF s).2]) [b1 = b1] ⟨rfl, trivial⟩ (by
    rw [takeF_2 (by omega) (by omega)]
    exact Sub.tups ⟨fs0_sub, Sub.refl _, trivial⟩))
 <| fun q2 => have p2 := bneF q2; .r 1 <| .binV .gtr 55 (gtrN (k := .u64) (a := ((takeNum (takeNum s).2.1).1 : Int)) (b := 256)) <|
 .br 35 (decide (((takeNum (takeNum s).2.1).1 : Int) > 256)) (fun q3 => have p3 := decT q3; .run 3 [b1 = b1] ⟨rfl, trivial⟩ <|
 .fin (x := .tup [.agg [aN, aI 0], aI 5]) (r := .tup [.agg (fsyA (takeF s).1), aI (takeF s).2]) [b1 = b1] ⟨rfl, trivial⟩ (by
    rw [takeF_3 (by omega) (by omega) (by omega)]
    exact Sub.tups ⟨fs0_sub, Sub.refl _, trivial⟩))
 <| fun q3 => have p3 := decF q3; .r 2 <| .new fun b2 => .run 1 [b2 = b2] ⟨rfl, trivial⟩ <|
 .rowNilB 100 8 0 27 5 <| .r 1 <| let L1 : Lp (Nat × List Nod × Txt × Value) := ⟨fun a1 => ⟨[(2, .ptr 2 b1 0), (6, .val (.int .u64 ((takeNum (takeNum s).2.1).1 : Int))), (8, .ptr 8 b2 0), (9, .val (.int .u64 (a1.1 : Int))), (0, aS a1.2.2.1)], [(2, .box b1 24 [aN, aI 0]), (8, .box b2 24 [.rw 100 a1.2.2.2 a1.2.1.length, aI (unfoldN ((takeNum s).1 : Int))]), (100, .row a1.2.2.2 27 5 (a1.2.1.map nodA))]⟩, fun a1 => (takeNum (takeNum s).2.1).1 - a1.1, fun a1 => TkH s a1.1 a1.2.1 a1.2.2.1⟩
 .loop L1 (0, [], (takeNum (takeNum s).2.1).2.1, .slice none 0 0) (show TkH s 0 ([]) ((takeNum (takeNum s).2.1).2.1) from (tk0 s)) ⟨[(2, .ptr 2 b1 0), (6, .val (.int .u64 ((takeNum (takeNum s).2.1).1 : Int))), (8, .ptr 8 b2 0), (9, .val (.int .u64 0)), (0, aS ((takeNum (takeNum s).2.1).2.1))], [(2, .box b1 24 [aN, aI 0]), (8, .box b2 24 [.rw 100 (.slice none 0 0) 0, aI (unfoldN ((takeNum s).1 : Int))]), (100, .row (.slice none 0 0) 27 5 ([]))]⟩ ⟨Sub.refl _, Sub.refl _, Sub.refl _, Sub.of_eq rfl, Sub.refl _, trivial⟩ ⟨⟨_, rfl, SubB.refl _⟩, ⟨_, rfl, SubB.boxs ⟨Sub.of_eq rfl, Sub.refl _, trivial⟩⟩, ⟨_, rfl, SubB.of_eq rfl⟩, trivial⟩ fun a1 ha1 =>
 (fun (k : Nat) (acc : List Nod) (rest : Txt) (V : Value) (hH1 : TkH s k acc rest) => have hk1 := hH1.1; have hk2 := hH1.2.2.1; .r 2 <| .binV .lss 55 (lssN (k := .u64) (a := (k : Int)) (b := ((takeNum (takeNum s).2.1).1 : Int))) <|
 .br 41 (decide ((k : Int) < ((takeNum (takeNum s).2.1).1 : Int))) (fun q4 => have p4 := decT q4; .r 1 <| .call (rntake_spec rest (by have := hH1.2.2.2.1; omega)) <|
 .r 4 <| .new fun b3 => .run 3 [b3 = b3] ⟨rfl, trivial⟩ <|
 .r 2 <| .br 51 (((takeNode rest).2.2) != 0) (fun q5 => have p5 := bneT q5; .run 4 [b1 = b1] ⟨rfl, trivial⟩ <|
 .fin (x := .tup [.agg [aN, aI 0], aI ((takeNode rest).2.2)]) (r := .tup [.agg (fsyA (takeF s).1), aI (takeF s).2]) [b1 = b1] ⟨rfl, trivial⟩ (by
    rw [takeF_4 (by omega) (by omega) (by omega) (tk_bad hH1 (by omega) (by omega)) (by omega)]
    exact Sub.tups ⟨fs0_sub, Sub.refl _, trivial⟩))
 <| fun q5 => have p5 := bneF q5; .run 4 [b2 = b2, b3 = b3] ⟨rfl, rfl, trivial⟩ <|
 .app 64 V (acc.map nodA) ([[aI ((nodO (takeNode rest).1).ino), aI ((nodO (takeNode rest).1).kind), aI ((nodO (takeNode rest).1).links), aS ((nodO (takeNode rest).1).text), .sl 2 false ((nodO (takeNode rest).1).l.map entA)]]) (by simp only [List.length_map, List.length_cons, List.length_nil]; omega) (by simp only [List.length_map, List.length_cons, List.length_nil]; omega) fun V1 =>
 .run 2 [b2 = b2] ⟨rfl, trivial⟩ <|
 .r 2 <| .r 1 <| .binV .add 55 (addU (a := (k : Int)) (b := 1) (by omega) (by omega)) <|
 .r 1 <| .back L1 (k, acc, rest, V) ((k + 1), (acc ++ [nodO (takeNode rest).1]), (takeNode rest).2.1, V1) (show TkH s (k + 1) (acc ++ [nodO (takeNode rest).1]) ((takeNode rest).2.1) from (tk_step hH1 (by omega) (by omega))) (show (takeNum (takeNum s).2.1).1 - (k + 1) < (takeNum (takeNum s).2.1).1 - k from (by omega)) ⟨[(2, .ptr 2 b1 0), (6, .val (.int .u64 ((takeNum (takeNum s).2.1).1 : Int))), (8, .ptr 8 b2 0), (9, .val (.int .u64 ((k : Int) + 1))), (0, aS ((takeNode rest).2.1))], [(2, .box b1 24 [aN, aI 0]), (8, .box b2 24 [.rw 100 V1 ((acc.map nodA).length + ([[aI ((nodO (takeNode rest).1).ino), aI ((nodO (takeNode rest).1).kind), aI ((nodO (takeNode rest).1).links), aS ((nodO (takeNode rest).1).text), .sl 2 false ((nodO (takeNode rest).1).l.map entA)]] : List (List AV)).length), aI (unfoldN ((takeNum s).1 : Int))]), (100, .row V1 27 5 ((acc.map nodA) ++ ([[aI ((nodO (takeNode rest).1).ino), aI ((nodO (takeNode rest).1).kind), aI ((nodO (takeNode rest).1).links), aS ((nodO (takeNode rest).1).text), .sl 2 false ((nodO (takeNode rest).1).l.map entA)]])))]⟩ ⟨Sub.refl _, Sub.refl _, Sub.refl _, Sub.of_eq (congrArg (fun z => AV.val (.int .u64 z)) (by omega)), Sub.refl _, trivial⟩ ⟨⟨_, rfl, SubB.refl _⟩, ⟨_, rfl, SubB.boxs ⟨Sub.of_eq (congrArg (AV.rw 100 V1) (by simp)), Sub.refl _, trivial⟩⟩, ⟨_, rfl, SubB.of_eq (by simp [nodA])⟩, trivial⟩)
 <| fun q4 => have p4 := decF q4; .frz 100 [0, 2, 8, 41] [2, 8] [V = V, acc.length = (acc.map nodA).length] ⟨rfl, (by first | rfl | (simp; done) | (simp; omega)), trivial⟩ <|
 .run 1 [b2 = b2] ⟨rfl, trivial⟩ <|
 .call (rrows_spec (⟨acc, unfoldN ((takeNum s).1 : Int)⟩ : Fsy) (tkF_ok hH1 (by omega))) <|
 .r 1 <| .r 3 <| .br 65 (!(rest == ([]))) (fun q6 => have q6 := notT q6; have p6 := beqF q6; .r 3 <| .run 3 [b1 = b1] ⟨rfl, trivial⟩ <|
 .fin (x := .tup [.agg [aN, aI 0], aI 3]) (r := .tup [.agg (fsyA (takeF s).1), aI (takeF s).2]) [b1 = b1] ⟨rfl, trivial⟩ (by
    rw [takeF_5 (by omega) (by omega) (by omega) (tk_end hH1 (by omega))]
    rw [endF_no (fun h => by first | exact dP_false.1 (by assumption) h.1 | (have := h.2; simp_all))]
    exact Sub.tups ⟨fs0_sub, Sub.refl _, trivial⟩))
 <| fun q6 => have q6 := notF q6; have p6 := beqT q6; .r 3 <| .br 68 (!(dP (rowsP (⟨acc, unfoldN ((takeNum s).1 : Int)⟩ : Fsy)))) (fun q7 => have q7 := notT q7; have p7 := booF q7; .run 3 [b1 = b1] ⟨rfl, trivial⟩ <|
 .fin (x := .tup [.agg [aN, aI 0], aI 3]) (r := .tup [.agg (fsyA (takeF s).1), aI (takeF s).2]) [b1 = b1] ⟨rfl, trivial⟩ (by
    rw [takeF_5 (by omega) (by omega) (by omega) (tk_end hH1 (by omega))]
    rw [endF_no (fun h => by first | exact dP_false.1 (by assumption) h.1 | (have := h.2; simp_all))]
    exact Sub.tups ⟨fs0_sub, Sub.refl _, trivial⟩))
 <| fun q7 => have q7 := notF q7; have p7 := booT q7; .run 3 [b2 = b2, b1 = b1] ⟨rfl, rfl, trivial⟩ <|
 .fin (x := .tup [.agg [.sl 5 false (acc.map nodA), aI (unfoldN ((takeNum s).1 : Int))], aI 0]) (r := .tup [.agg (fsyA (takeF s).1), aI (takeF s).2]) [b1 = b1] ⟨rfl, trivial⟩ (by
    rw [takeF_5 (by omega) (by omega) (by omega) (tk_end hH1 (by omega))]
    rw [endF_yes (dP_true.1 (by assumption)) (by simp_all)]
    exact Sub.tups ⟨Sub.refl _, Sub.refl _, trivial⟩)) a1.1 a1.2.1 a1.2.2.1 a1.2.2.2 ha1) Try.func11 rfl (by kernel_rfl) (by kernel_rfl)
end Go.Proofs.Ytgcjfhgkkgocpaa

set_option linter.unusedVariables false
set_option linter.unusedSimpArgs false
namespace Go.Proofs.Ytgcjfhgkkgocpaa
open Go Go.RowKit Copyhold
def seqN : Nat → Code → Code
  | 0, c => c
  | n + 1, .seq _ y => seqN n y
  | _ + 1, c => c
theorem wpOps_val {P : Program} {ops : Array Oper} {Q : Exit → Act → World → Prop} {i : Nat} {rest : List Nat} {a : Act} {w w' : World} {o : Oper} {v : Value} (ho : ops[i]? = some o) (hg : o.guard = none)
    (hx : (execOp a.eval o).run P w = .ok (.value v) w') (k : wpOps P ops Q rest (a.put o.dst v) w') : wpOps P ops Q (i :: rest) a w := by
  simp only [wpOps, ho]
  rw [if_pos (by unfold Region.wanted; rw [hg])]
  left
  unfold Oper.wp
  rw [hx, Oper.upon_value]
  exact k
theorem eval_put {a : Act} {d : Nat} {v : Value} (h : d < a.tmps.size) : (a.put (some d) v).eval (.tmp d) = v := by
  simp [Act.put, Act.eval, h]
theorem size_put (a : Act) (d : Option Tmp) (v : Value) : (a.put d v).tmps.size = a.tmps.size := by
  cases d <;> simp [Act.put]
def rnR (m : Nat) (s : LS) : Option Unit :=
  match lget s.tm m with
  | .mp [] => some ()
  | _ => none
theorem rule_rngNil {P : Program} {nt m x it nx t id7 id8 bid ty : Nat} {o0 o1 o2 o3 : Oper} {B Y code : Code} {kt et : TypeId}
    (hc : code = .seq (.seq (.region id7 #[o0, o1] false) (.block bid (.loop (.seq (.region id8 #[o2, o3] false) (.seq (.cond (.tmp t) .skip (.exit bid)) B))))) Y)
    (h0 : o0.op = .move (.tmp m) ∧ o0.dst = some x ∧ o0.guard = none) (h1 : o1.op = .range ty (.tmp x) ∧ o1.dst = some it ∧ o1.guard = none) (hu : P.underlying ty = some (.map kt et))
    (h2 : o2.op = .next (.tmp it) false ∧ o2.dst = some nx ∧ o2.guard = none) (h3 : o3.op = .extract (.tmp nx) 0 ∧ o3.dst = some t ∧ o3.guard = none)
    (hn : m < nt ∧ x < nt ∧ it < nt ∧ nx < nt ∧ t < nt) :
    ∀ (c : Cx) (Q : Exit → FS → Prop) (s : LS), c.n = nt → P.follows .mixedOrders = true → rnR m s = some () → (∀ _ : Unit, AWp c P Y Q ((((s.put (some x) .any).put (some it) .any).put (some nx) .any).put (some t) .any).fs) → AWp c P code Q s.fs := by
  subst hc
  intro c Q s hcn hm hrd kk a w hr
  obtain ⟨hcb, D, hR⟩ := hr
  obtain ⟨n1, n2, n3, n4, n5⟩ := hn
  have hmp : lget s.tm m = .mp [] := by
    unfold rnR at hrd
    split at hrd
    · assumption
    · cases hrd
  have hv := hR.ev (.tmp m) (fun t' e => by cases e; rw [hcn]; exact n1)
  have hev : s.fs.ev (.tmp m) = .mp [] := hmp
  rw [hev] at hv
  have hsz : a.tmps.size = nt := hR.size.trans hcn
  generalize hva : a.eval (.tmp m) = v at hv
  cases hv with
  | mp es r es' clock hDr hlt hhp hlen hkeys hvals =>
    have hes : es' = #[] := Array.eq_empty_of_size_eq_zero (by simpa using hlen.symm)
    subst hes
    refine wp_seq (wp_seq (wp_region ?_))
    show wpOps P #[o0, o1] _ [0, 1] a w
    refine wpOps_val (o := o0) rfl h0.2.2 (v := .map (some r)) (w' := w) (by simp [execOp, h0.1, hva]) ?_
    rw [h0.2.1]
    have he1 := eval_put (a := a) (d := x) (v := .map (some r)) (by omega)
    have hs1 := size_put a (some x) (.map (some r))
    refine wpOps_val (o := o1) rfl h1.2.2 (v := .pointer (some ⟨w.heap.size, 0, none⟩)) (w' := w.alloc (.mapIter (some r) clock #[] clock)) (by
      simp [execOp, h1.1, he1, Instr.range, run_underlying hu, getObj, Sem.run, hhp, newObj]) ?_
    rw [h1.2.1]
    generalize ha1 : a.put (some x) (.map (some r)) = a1 at he1 hs1
    have hD1 : RelD c D (s.put (some x) .any).fs a1 w := by
      rw [← LS.fs_put, ← ha1]; exact hR.put _ (.any _)
    have he2 := eval_put (a := a1) (d := it) (v := .pointer (some ⟨w.heap.size, 0, none⟩)) (by omega)
    have hs2 := size_put a1 (some it) (.pointer (some ⟨w.heap.size, 0, none⟩))
    generalize ha2 : a1.put (some it) (.pointer (some ⟨w.heap.size, 0, none⟩)) = a2 at he2 hs2
    obtain ⟨w2, hw2⟩ : ∃ w2, w2 = w.alloc (.mapIter (some r) clock #[] clock) := ⟨_, rfl⟩
    have hb2 : Below w.heap.size w w2 := hw2 ▸ (Below.refl _ _).alloc (Nat.le_refl _) _
    have hit : w2.heap[w.heap.size]? = some (.mapIter (some r) clock #[] clock) := hw2 ▸ heap_alloc_new w _
    have hmap : w2.heap[r]? = some (.map #[] clock) := (hb2.block r hlt).trans hhp
    rw [← hw2]
    have hD2 : RelD c D ((s.put (some x) .any).put (some it) .any).fs a2 w2 := by
      have h := hD1.grow (D' := D) hcb hb2 (fun _ h => h) (fun b h => ⟨Nat.lt_of_lt_of_le (hR.dlt b h) hb2.size, .inl h⟩) none (fun id y h => by cases h)
      rw [← LS.fs_put, ← ha2]; exact h.put _ (.any _)
    show Code.wp P _ _ a2 w2
    refine wp_block (wp_loop (fun a' w' => a' = a2 ∧ w' = w2) (fun _ _ => 0) ⟨rfl, rfl⟩ fun a' w' ⟨e1, e2⟩ => ?_)
    subst e1 e2
    refine wp_seq (wp_region ?_)
    show wpOps P #[o2, o3] _ [0, 1] a' w'
    refine wpOps_val (o := o2) rfl h2.2.2 (v := .tuple #[.bool false]) (w' := w') (by
      simp [execOp, h2.1, he2, Instr.next, getObj, Sem.run, hit, hmap, choose, Question.cut, Question.forced]) ?_
    rw [h2.2.1]
    have he3 := eval_put (a := a') (d := nx) (v := .tuple #[.bool false]) (by omega)
    have hs3 := size_put a' (some nx) (.tuple #[.bool false])
    refine wpOps_val (o := o3) rfl h3.2.2 (v := .bool false) (w' := w') (by simp [execOp, h3.1, he3, Instr.extract]) ?_
    rw [h3.2.1]
    have he4 := eval_put (a := a'.put (some nx) (.tuple #[.bool false])) (d := t) (v := .bool false) (by omega)
    show Code.wp P _ _ _ _
    refine wp_seq (wp_cond_false he4 (wp_exit ?_))
    show Exit.inBlock bid _ (.exit bid) _ _
    simp only [Exit.inBlock, if_true]
    refine kk () _ _ ⟨Nat.le_trans hcb hb2.size, D, ?_⟩
    rw [← LS.fs_put _ (some t), ← LS.fs_put _ (some nx)]
    exact (hD2.put _ (.any _)).put _ (.any _)
end Go.Proofs.Ytgcjfhgkkgocpaa
