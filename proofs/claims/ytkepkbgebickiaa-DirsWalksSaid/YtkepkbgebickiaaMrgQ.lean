/- The document's example of directories. The law DirsFinds over data. A path made longer: the mathematics. The law DirsWalks over data. What comes in, by its type: an abstract value that describes it. Over any program. No conditions beyond each law's own. File systems among a law's arguments: what they read as. -/
import Derived.Test.YtkepkbgebickiaaMrgP
import Derived.Test.YtkepkbgebickiaaMrgH
import Derived.Test.YtkepkbgebickiaaMrgI
import Derived.Test.YtkepkbgebickiaaRows
set_option linter.unusedVariables false
set_option linter.unusedSimpArgs false
namespace Go.Proofs.Ytkepkbgebickiaa
open Go Go.RowKit Copyhold
theorem chk_a : checkE [97] = 0 := checkE0 ⟨by decide, by decide, by decide, by decide, by decide, by decide⟩
theorem dir_new : dirE newF 1 = 0 := rfl
theorem look_new : lookE newF 1 [97] = 6 := by
  unfold lookE
  rw [first3, chk_a, dir_new]
  rfl
theorem lookN_new : lookN newF 1 [97] = nod0 := look_no (by rw [look_new]; decide)
theorem walk_new : walkF newF [47] = (rootN, 0) := rfl
def fileN : Nod := ⟨0, 1, 0, [], []⟩
theorem fileN_ok : OkN fileN := ⟨⟨by decide, by decide⟩, ⟨by decide, by decide⟩, ⟨by decide, by decide⟩, by show (0 : Nat) ≤ _; omega, by show (0 : Nat) ≤ _; omega, fun e h => by cases h⟩
theorem file_right : nodP (addN newF fileN) := ⟨by decide, by decide, by decide, .inr ⟨.inl rfl, by decide, rfl⟩⟩
theorem add_new : addErr newF 1 [97] fileN = 0 := by
  unfold addErr
  rw [chk_a, dir_new, dP_true.2 file_right]
  rfl
theorem add_len : ((if addErr newF 1 [97] fileN = 0 then addF newF 1 [97] (addN newF fileN) else newF).l.length : Int) = 2 := by
  rw [if_pos add_new]
  rfl
set_option maxRecDepth 100000 in
set_option maxHeartbeats 4000000 in
theorem shown_spec  : FSpec Try.prog 8 [] (aB true) := by
  exact spec_vc (F := Try.f8) 400 (
 .r 1 <| .call (rnew_spec) <|
 .new fun b1 => .run 1 [b1 = b1] ⟨rfl, trivial⟩ <|
 .run 1 [b1 = b1] ⟨rfl, trivial⟩ <|
 .call (take_no newF 1 [97] newF_rows (by decide) (by rw [look_new]; decide) (by rw [lookN_new]; show (0 : Nat) ≤ _; omega)) <|
 .r 3 <| .new fun b2 => .run 2 [b2 = b2] ⟨rfl, trivial⟩ <|
 .run 1 [b1 = b1] ⟨rfl, trivial⟩ <|
 .call (walk_spec newF [47] newF_rows (by decide)) <|
 .r 3 <| .new fun b3 => .run 2 [b3 = b3] ⟨rfl, trivial⟩ <|
 .run 2 [b1 = b1] ⟨rfl, trivial⟩ <|
 .callS (args0 := [.agg [.sl 5 false (newF.l.map nodA), aI newF.next], aI 1, aS ([97]), .agg [aI 0, aI 1, aI 0, aS ([]), aN]]) (args := [.agg [.sl 5 false (newF.l.map nodA), aI newF.next], aI 1, aS ([97]), .agg [aI fileN.ino, aI fileN.kind, aI fileN.links, aS fileN.text, .sl 2 false (fileN.l.map entA)]]) ⟨Sub.refl _, Sub.refl _, Sub.refl _, Sub.aggs ⟨Sub.refl _, Sub.refl _, Sub.refl _, Sub.refl _, Sub.nil _ _, trivial⟩, trivial⟩ (add_spec newF 1 [97] fileN newF_ok newF_rows (by decide) fileN_ok (by decide)) <|
 .r 3 <| .new fun b4 => .run 2 [b4 = b4] ⟨rfl, trivial⟩ <|
 .r 3 <| .is 27 (show ((lookE newF 1 [97]) == 6) = true from (by rw [look_new]; rfl)) <| .r 4 <| .is 31 (show (((walkF newF [47]).2) == 0) = true from (by rw [walk_new]; rfl)) <| .run 5 [b3 = b3] ⟨rfl, trivial⟩ <|
 .is 36 (show (((walkF newF [47]).1.ino) == 1) = true from (by rw [walk_new]; rfl)) <| .r 4 <| .is 40 (show ((addErr newF 1 [97] fileN) == 0) = true from (by rw [add_new]; rfl)) <| .run 3 [b4 = b4] ⟨rfl, trivial⟩ <|
 .val 43 (show (aI (((if addErr newF 1 [97] fileN = 0 then addF newF 1 [97] (addN newF fileN) else newF).l.map nodA).length : Int) : AV) = aI (((if addErr newF 1 [97] fileN = 0 then addF newF 1 [97] (addN newF fileN) else newF).l).length : Int) from by rw [List.length_map]) <| .r 3 <| .fin (x := aB ((((if addErr newF 1 [97] fileN = 0 then addF newF 1 [97] (addN newF fileN) else newF).l).length : Int) == 2)) (r := aB true) [] trivial (by exact Sub.of_eq (congrArg aB (by first | rfl | (rw [add_len]; rfl) | simp [add_len])))) Try.func8 rfl (by kernel_rfl) (by kernel_rfl)
set_option maxRecDepth 100000 in
set_option maxHeartbeats 4000000 in
theorem fewr_spec (f : Fsy) (okf : OkF f) : FSpec Try.prog 9 [.agg [.sl 5 false (f.l.map nodA), aI f.next]] (aB (dP (fewF f ∧ rightP f))) := by
  exact spec_vc (F := Try.f9) 400 (
 .new fun b1 => .r 1 <| .run 1 [b1 = b1] ⟨rfl, trivial⟩ <|
 .call (few_spec f okf) <|
 .r 1 <| .br 5 (dP (fewF f)) (fun q1 => have p1 := booT q1; .run 1 [b1 = b1] ⟨rfl, trivial⟩ <|
 .call (right_spec f okf (dP_true.1 q1)) <|
 .r 2 <| .fin (x := aB (dP (rightP f))) (r := aB (dP (fewF f ∧ rightP f))) [] trivial (by exact sE (dP_true.trans ⟨fun h => ⟨dP_true.1 q1, h⟩, fun h => h.2⟩)))
 <| fun q1 => have p1 := booF q1; .r 4 <| .fin (x := aB false) (r := aB (dP (fewF f ∧ rightP f))) [] trivial (by exact sF (fun h => dP_false.1 q1 h.1))) Try.func9 rfl (by kernel_rfl) (by kernel_rfl)
end Go.Proofs.Ytkepkbgebickiaa

set_option linter.unusedVariables false
set_option linter.unusedSimpArgs false
namespace Go.Proofs.Ytkepkbgebickiaa
open Go Go.RowKit Copyhold
structure Dfi where
  f : Fsy
  i : Int
  s : Txt
  p : Txt
end Go.Proofs.Ytkepkbgebickiaa

set_option linter.unusedVariables false
set_option linter.unusedSimpArgs false
namespace Go.Proofs.Ytkepkbgebickiaa
open Go Go.RowKit Copyhold
theorem pieces_app (a b : Txt) : Name.pieces (a ++ 47 :: b) = Name.pieces a ++ Name.pieces b := by
  induction a with
  | nil =>
    show Name.pieces (47 :: b) = [] :: Name.pieces b
    rw [Name.pieces, if_pos rfl]
  | cons c l ih =>
    rw [List.cons_append]
    by_cases hc : c = 47
    · rw [Name.pieces, if_pos hc, ih, Name.pieces, if_pos hc]; rfl
    · rw [Name.pieces, if_neg hc, ih, Name.pieces, if_neg hc]
      cases h : Name.pieces l with
      | nil => exact absurd h (Name.pieces_ne l)
      | cons p r => rfl
theorem names_app {a b : Txt} (h : (47 : UInt8) ∉ b) (hc : Name.counts b = true) : Name.namesP (a ++ 47 :: b) = Name.namesP a ++ [b] := by
  unfold Name.namesP
  rw [pieces_app, List.filter_append, Name.pieces_one h]
  simp [hc]
theorem split_ok {p : Txt} (h : (Name.splitD p).2 = 0) : p.head? = some 47 ∧ (Name.namesP p).all Name.okN = true ∧ Name.splitD p = (Name.namesP p, 0) := by
  unfold Name.splitD at h ⊢
  split at h
  · rename_i h1
    split at h
    · rename_i h2
      exact ⟨h1, h2, by rw [if_pos h1, if_pos h2]⟩
    · cases h
  · cases h
theorem split_more {p s : Txt} (h0 : (Name.splitD p).2 = 0) (h : (47 : UInt8) ∉ s) (hc : Name.counts s = true) : Name.splitD (p ++ 47 :: s) = if Name.okN s = true then ((Name.splitD p).1 ++ [s], 0) else ([], 10) := by
  obtain ⟨h1, h2, h3⟩ := split_ok h0
  have e1 : (p ++ 47 :: s).head? = some 47 := by
    cases p with
    | nil => cases h1
    | cons c r => exact h1
  rw [h3]
  unfold Name.splitD
  rw [if_pos e1, names_app h hc]
  cases hk : Name.okN s with
  | true => rw [if_pos (by rw [List.all_append, h2]; simp [hk]), if_pos rfl]
  | false => rw [if_neg (by rw [List.all_append]; simp [hk]), if_neg (by simp)]
def Fnd (f : Fsy) (n : Nod) : Prop := findB f n.ino = true
theorem find_ino {f : Fsy} {i : Int} (h : findB f i = true) : Fnd f (findN f i) := by
  unfold Fnd
  have e : (findN f i).ino = i := by
    unfold findB at h
    unfold findN
    cases hf : f.l.find? (isNo i) with
    | none => rw [List.find?_eq_none] at hf; obtain ⟨x, hx, hi⟩ := List.any_eq_true.1 h; exact absurd hi (hf x hx)
    | some n => have := List.find?_some hf; simpa [isNo] using this
  rw [e]; exact h
theorem look_fnd {f : Fsy} {i : Int} {s : Txt} (h : lookE f i s = 0) : Fnd f (lookN f i s) := by
  rw [look_yes h]
  refine find_ino ?_
  unfold lookE at h
  rw [first3] at h
  cases hb : findB f (lookI f i s) with
  | true => rfl
  | false =>
    rw [hb] at h
    split at h
    · split at h
      · cases h
      · rename_i h1; exact absurd h h1
    · rename_i h1; exact absurd h h1
theorem dir_fnd {f : Fsy} {i : Int} (h : dirE f i = 0) : Fnd f (dirN f i) := by
  unfold dirN
  rw [if_pos h]
  refine find_ino ?_
  unfold dirE at h
  split at h
  · assumption
  · cases h
theorem walkA_app {f : Fsy} {x : Txt} : ∀ (l : List Txt) (n : Nod) (e : Int), Fnd f n ∨ ¬ e = 0 → (walkA f l n e).2 = 0 → Fnd f (walkA f l n e).1 ∧ walkA f (l ++ [x]) n e = (lookN f (walkA f l n e).1.ino x, lookE f (walkA f l n e).1.ino x)
  | [], n, e, hn, h => by
    have he : e = 0 := Classical.byContradiction fun he => by rw [walk_bad he] at h; exact he h
    have hf : Fnd f n := hn.resolve_right (fun h => h he)
    subst he
    have e1 : walkA f [] n 0 = (n, 0) := rfl
    rw [e1]
    refine ⟨hf, ?_⟩
    show walkA f [] (lookN f n.ino x) (lookE f n.ino x) = _
    by_cases hl : lookE f n.ino x = 0
    · rw [hl]; rfl
    · rw [walk_bad hl, look_no hl]
  | y :: r, n, e, hn, h => by
    have he : e = 0 := Classical.byContradiction fun he => by rw [walk_bad he] at h; exact he h
    subst he
    have e1 : walkA f (y :: r) n 0 = walkA f r (lookN f n.ino y) (lookE f n.ino y) := rfl
    have e2 : walkA f (y :: r ++ [x]) n 0 = walkA f (r ++ [x]) (lookN f n.ino y) (lookE f n.ino y) := rfl
    rw [e1] at h ⊢
    rw [e2]
    exact walkA_app r _ _ (if hl : lookE f n.ino y = 0 then .inl (look_fnd hl) else .inr hl) h
theorem walk_more {f : Fsy} {p s : Txt} (h : (walkF f p).2 = 0) (hs : (47 : UInt8) ∉ s) (hc : Name.counts s = true) :
    (lookE f (walkF f p).1.ino s = 8 ∧ (walkF f (p ++ 47 :: s)).2 = 10) ∨ walkF f (p ++ 47 :: s) = (lookN f (walkF f p).1.ino s, lookE f (walkF f p).1.ino s) := by
  have h0 : (Name.splitD p).2 = 0 := Classical.byContradiction fun hn => by rw [walk_e0 hn] at h; exact hn h
  have hm := split_more h0 hs hc
  have hd : dirE f 1 = 0 := Classical.byContradiction fun hd => by
    unfold walkF at h
    rw [first2, if_pos h0, walk_bad hd] at h
    exact hd h
  have hw : walkF f p = walkA f (Name.splitD p).1 (dirN f 1) 0 := by unfold walkF; rw [first2, if_pos h0, hd]
  rw [hw] at h
  obtain ⟨hf, ha⟩ := walkA_app (x := s) _ _ _ (.inl (dir_fnd hd)) h
  rw [← hw] at hf ha
  cases hk : Name.okN s with
  | true =>
    right
    rw [hk, if_pos rfl] at hm
    have e : walkF f (p ++ 47 :: s) = walkA f ((Name.splitD p).1 ++ [s]) (dirN f 1) 0 := by
      unfold walkF
      rw [hm, first2, if_pos rfl, hd]
    rw [e]
    exact ha
  | false =>
    rw [hk, if_neg (by simp)] at hm
    have he : walkF f (p ++ 47 :: s) = (nod0, 10) := by
      rw [walk_e0 (by rw [hm]; decide), hm]
    have hck : checkE s = 10 := checkE1 fun hc => by rw [checkP_iff.2 hc] at hk; cases hk
    by_cases h2 : (findN f (walkF f p).1.ino).kind = 2
    · right
      have hl : lookE f (walkF f p).1.ino s = 10 := by
        unfold lookE
        rw [first3, (dirE_0 hf h2).1, hck]
        rfl
      rw [he, look_no (by rw [hl]; decide), hl]
    · left
      refine ⟨?_, by rw [he]⟩
      unfold lookE
      rw [first3, (dirE_8 hf h2).1]
      rfl
theorem counts_of {s : Txt} (h1 : ¬ s = []) (h2 : ¬ s = [46]) : Name.counts s = true := by
  unfold Name.counts
  simp [h1, h2]
theorem no47 {s : Txt} (h : AllQ (fun _ (c : UInt8) => ¬ (c.toNat : Int) = 47) s) : (47 : UInt8) ∉ s := fun hm => by
  obtain ⟨j, hj⟩ := List.getElem?_of_mem hm
  exact h j 47 hj rfl
end Go.Proofs.Ytkepkbgebickiaa

set_option linter.unusedVariables false
set_option linter.unusedSimpArgs false
namespace Go.Proofs.Ytkepkbgebickiaa
open Go Go.RowKit Copyhold
set_option maxRecDepth 100000 in
set_option maxHeartbeats 4000000 in
theorem dirsWalks_spec (f : Fsy) (p s : Txt) (okf : OkF f) : FSpec Try.prog 7 [.agg [.sl 5 false (f.l.map nodA), aI f.next], aS p, aS s] (aB true) := by
  have l47 : ([47] : Txt).length = 1 := rfl
  have lp : (p ++ [47]).length = p.length + 1 := by simp
  exact spec_vc (F := Try.f7) 400 (
 .new fun b1 => .r 1 <| .call (shown_spec) <|
 .r 1 <| .run 1 [b1 = b1] ⟨rfl, trivial⟩ <|
 .call (fewr_spec f okf) <|
 .r 1 <| .r 3 <| .br 21 (!(dP (fewF f ∧ rightP f))) (fun q1 => have q1 := notT q1; have p1 := booF q1; .r 9 <| .r 2 <| .fin (x := aB true) (r := aB true) [] trivial (by exact Sub.of_eq (by first | rfl | (refine congrArg aB ?_; rw [(walk_more (by omega) (no47 (hH1.2.full (by omega))) (counts_of (by assumption) (by assumption))).resolve_left (by omega)]; simp; done) | (simp; done))))
 <| fun q1 => have q1 := notF q1; have p1 := booT q1; have hfr := dP_true.1 q1; have hf := hfr.1; have hp := hfr.2.1; have hd := right_dir hfr.2; .r 5 <| .br 26 (decide (((p).length : Int) > 500)) (fun q2 => have p2 := decT q2; .r 4 <| .r 2 <| .fin (x := aB true) (r := aB true) [] trivial (by exact Sub.of_eq (by first | rfl | (refine congrArg aB ?_; rw [(walk_more (by omega) (no47 (hH1.2.full (by omega))) (counts_of (by assumption) (by assumption))).resolve_left (by omega)]; simp; done) | (simp; done))))
 <| fun q2 => have p2 := decF q2; .r 4 <| .br 30 (decide (((s).length : Int) > 40)) (fun q3 => have p3 := decT q3; .r 2 <| .fin (x := aB true) (r := aB true) [] trivial (by exact Sub.of_eq (by first | rfl | (refine congrArg aB ?_; rw [(walk_more (by omega) (no47 (hH1.2.full (by omega))) (counts_of (by assumption) (by assumption))).resolve_left (by omega)]; simp; done) | (simp; done))))
 <| fun q3 => have p3 := decF q3; .run 2 [b1 = b1] ⟨rfl, trivial⟩ <|
 .call (walk_spec f p hp (by omega)) <|
 .r 3 <| .new fun b2 => .run 2 [b2 = b2] ⟨rfl, trivial⟩ <|
 .r 1 <| let L1 : Lp (Nat) := ⟨fun a1 => ⟨[(1, aS p), (2, aS s), (3, .ptr 3 b1 0), (7, aB true), (9, .ptr 9 b2 0), (10, aI ((walkF f p).2)), (11, aI (a1 : Int))], [(3, .box b1 24 [.sl 5 false (f.l.map nodA), aI f.next]), (9, .box b2 31 [aI ((walkF f p).1.ino), aI ((walkF f p).1.kind), aI ((walkF f p).1.links), aS ((walkF f p).1.text), .sl 2 false ((walkF f p).1.l.map entA)])]⟩, fun a1 => s.length - a1, fun a1 => a1 ≤ s.length ∧ AllTo (fun _ (c : UInt8) => ¬ (c.toNat : Int) = 47) s a1⟩
 .loop L1 0 (show 0 ≤ s.length ∧ AllTo (fun _ (c : UInt8) => ¬ (c.toNat : Int) = 47) s 0 from ⟨Nat.zero_le _, AllTo.zero _ _⟩) ⟨[(1, aS p), (2, aS s), (3, .ptr 3 b1 0), (7, aB true), (9, .ptr 9 b2 0), (10, aI ((walkF f p).2)), (11, aI 0)], [(3, .box b1 24 [.sl 5 false (f.l.map nodA), aI f.next]), (9, .box b2 31 [aI ((walkF f p).1.ino), aI ((walkF f p).1.kind), aI ((walkF f p).1.links), aS ((walkF f p).1.text), .sl 2 false ((walkF f p).1.l.map entA)])]⟩ ⟨Sub.refl _, Sub.refl _, Sub.refl _, Sub.refl _, Sub.refl _, Sub.refl _, Sub.of_eq (congrArg aI (by first | omega | rfl)), trivial⟩ ⟨⟨_, rfl, SubB.refl _⟩, ⟨_, rfl, SubB.refl _⟩, trivial⟩ fun a1 ha1 =>
 (fun (k : Nat) (hH1 : k ≤ s.length ∧ AllTo (fun _ (c : UInt8) => ¬ (c.toNat : Int) = 47) s k) => .r 4 <| .br 41 (decide ((k : Int) < ((s).length : Int))) (fun q4 => have p4 := decT q4; .r 2 <| .byte k (m := (k : Int)) (tx := s) rfl (by omega) fun c1 hc1 =>
 .binV .eql 5 (eqlN (k := .u8) (a := (c1.toNat : Int)) (b := 47)) <|
 .br 47 ((c1.toNat : Int) == 47) (fun q5 => have p5 := beqT q5; .r 2 <| .fin (x := aB true) (r := aB true) [] trivial (by exact Sub.of_eq (by first | rfl | (refine congrArg aB ?_; rw [(walk_more (by omega) (no47 (hH1.2.full (by omega))) (counts_of (by assumption) (by assumption))).resolve_left (by omega)]; simp; done) | (simp; done))))
 <| fun q5 => have p5 := beqF q5; .run 3 [rng .i64 ((k : Int) + 1)] ⟨rng64 (by omega) (by omega), trivial⟩ <|
 .back L1 k (k + 1) (show (k + 1) ≤ s.length ∧ AllTo (fun _ (c : UInt8) => ¬ (c.toNat : Int) = 47) s (k + 1) from ⟨by omega, hH1.2.step hc1 (by assumption)⟩) (show s.length - (k + 1) < s.length - k from (by omega)) ⟨[(1, aS p), (2, aS s), (3, .ptr 3 b1 0), (7, aB true), (9, .ptr 9 b2 0), (10, aI ((walkF f p).2)), (11, aI ((k : Int) + 1))], [(3, .box b1 24 [.sl 5 false (f.l.map nodA), aI f.next]), (9, .box b2 31 [aI ((walkF f p).1.ino), aI ((walkF f p).1.kind), aI ((walkF f p).1.links), aS ((walkF f p).1.text), .sl 2 false ((walkF f p).1.l.map entA)])]⟩ ⟨Sub.refl _, Sub.refl _, Sub.refl _, Sub.refl _, Sub.refl _, Sub.refl _, Sub.of_eq (congrArg aI (by first | omega | rfl)), trivial⟩ ⟨⟨_, rfl, SubB.refl _⟩, ⟨_, rfl, SubB.refl _⟩, trivial⟩)
 <| fun q4 => have p4 := decF q4; .r 3 <| .br 51 (((walkF f p).2) != 0) (fun q6 => have p6 := bneT q6; .r 7 <| .r 2 <| .fin (x := aB true) (r := aB true) [] trivial (by exact Sub.of_eq (by first | rfl | (refine congrArg aB ?_; rw [(walk_more (by omega) (no47 (hH1.2.full (by omega))) (counts_of (by assumption) (by assumption))).resolve_left (by omega)]; simp; done) | (simp; done))))
 <| fun q6 => have p6 := bneF q6; .r 4 <| .br 55 (s == ([])) (fun q7 => have p7 := beqT q7; .r 3 <| .r 2 <| .fin (x := aB true) (r := aB true) [] trivial (by exact Sub.of_eq (by first | rfl | (refine congrArg aB ?_; rw [(walk_more (by omega) (no47 (hH1.2.full (by omega))) (counts_of (by assumption) (by assumption))).resolve_left (by omega)]; simp; done) | (simp; done))))
 <| fun q7 => have p7 := beqF q7; .r 3 <| .br 58 (s == ([46])) (fun q8 => have p8 := beqT q8; .r 2 <| .fin (x := aB true) (r := aB true) [] trivial (by exact Sub.of_eq (by first | rfl | (refine congrArg aB ?_; rw [(walk_more (by omega) (no47 (hH1.2.full (by omega))) (counts_of (by assumption) (by assumption))).resolve_left (by omega)]; simp; done) | (simp; done))))
 <| fun q8 => have p8 := beqF q8; .run 5 [b1 = b1, p.length + ([47]).length ≤ 9223372036854775807, (p ++ ([47])).length + s.length ≤ 9223372036854775807] ⟨rfl, (by omega), (by omega), trivial⟩ <|
 .callS (args0 := [.agg [.sl 5 false (f.l.map nodA), aI f.next], aS ((p ++ ([47])) ++ s)]) (args := [.agg [.sl 5 false (f.l.map nodA), aI f.next], aS (p ++ 47 :: s)]) ⟨Sub.refl _, Sub.of_eq (congrArg aS (by simp)), trivial⟩ (walk_spec f (p ++ 47 :: s) hp (by simp only [List.length_append, List.length_cons]; omega)) <|
 .r 3 <| .new fun b3 => .run 2 [b3 = b3] ⟨rfl, trivial⟩ <|
 .run 4 [b1 = b1, b2 = b2] ⟨rfl, rfl, trivial⟩ <|
 .call (look_spec f (walkF f p).1.ino s hp (by omega)) <|
 .r 3 <| .new fun b4 => .run 2 [b4 = b4] ⟨rfl, trivial⟩ <|
 .r 3 <| .br 79 ((lookE f (walkF f p).1.ino s) == 8) (fun q9 => have p9 := beqT q9; .r 3 <| .br 82 (((walkF f (p ++ 47 :: s)).2) == 10) (fun q10 => have p10 := beqT q10; .r 2 <| .fin (x := aB true) (r := aB true) [] trivial (by exact Sub.of_eq (by first | rfl | (refine congrArg aB ?_; rw [(walk_more (by omega) (no47 (hH1.2.full (by omega))) (counts_of (by assumption) (by assumption))).resolve_left (by omega)]; simp; done) | (simp; done))))
 <| fun q10 => have p10 := beqF q10; .r 7 <| .is 90 (show (((walkF f (p ++ 47 :: s)).2) == (lookE f (walkF f p).1.ino s)) = true from (by rw [(walk_more (by omega) (no47 (hH1.2.full (by omega))) (counts_of (by assumption) (by assumption))).resolve_left (by omega)]; simp)) <| .run 7 [b3 = b3, b4 = b4] ⟨rfl, rfl, trivial⟩ <|
 .fin (x := aB (((walkF f (p ++ 47 :: s)).1.ino) == ((lookN f (walkF f p).1.ino s).ino))) (r := aB true) [] trivial (by exact Sub.of_eq (by first | rfl | (refine congrArg aB ?_; rw [(walk_more (by omega) (no47 (hH1.2.full (by omega))) (counts_of (by assumption) (by assumption))).resolve_left (by omega)]; simp; done) | (simp; done))))
 <| fun q9 => have p9 := beqF q9; .r 3 <| .r 7 <| .is 90 (show (((walkF f (p ++ 47 :: s)).2) == (lookE f (walkF f p).1.ino s)) = true from (by rw [(walk_more (by omega) (no47 (hH1.2.full (by omega))) (counts_of (by assumption) (by assumption))).resolve_left (by omega)]; simp)) <| .run 7 [b3 = b3, b4 = b4] ⟨rfl, rfl, trivial⟩ <|
 .fin (x := aB (((walkF f (p ++ 47 :: s)).1.ino) == ((lookN f (walkF f p).1.ino s).ino))) (r := aB true) [] trivial (by exact Sub.of_eq (by first | rfl | (refine congrArg aB ?_; rw [(walk_more (by omega) (no47 (hH1.2.full (by omega))) (counts_of (by assumption) (by assumption))).resolve_left (by omega)]; simp; done) | (simp; done)))) a1 ha1) Try.func7 rfl (by kernel_rfl) (by kernel_rfl)
end Go.Proofs.Ytkepkbgebickiaa

set_option linter.unusedVariables false
set_option linter.unusedSimpArgs false
namespace Copyhold
open Go Go.RowKit Go.ChangeShapes Go.WideShapes Go.ChangeAt Go.Deep
structure Opn {α : Type} (P : Program) (W : World) (t : TypeId) (en : α → List AV) (ok : α → Prop) : Prop where
  run : ∀ (H : Type) (enc : TypeId × Value → H) (fuel : Nat) (cs : List Value) (x : DataW H × List MemPlace),
    DataW.trod enc P W 0 (fun _ => true) true fuel t cs = some x → (∀ p ∈ x.2, p.block < W.heap.size) → (∀ n ∈ DataW.weights P t x.1, n ≤ 140737488351232) →
    ∃ a, CellsR (· < W.heap.size) W (en a) cs ∧ (∀ u ∈ cs, u.oneCell' = true) ∧ ok a
section
variable {P : Program} {W : World} {t : TypeId}
theorem Opn.map {α β : Type} {en : α → List AV} {ok : α → Prop} {en' : β → List AV} {ok' : β → Prop} (h : Opn P W t en ok) (f : α → β) (he : ∀ a, en' (f a) = en a) (ho : ∀ a, ok a → ok' (f a)) : Opn P W t en' ok' := Opn.mk fun H enc fuel cs x h1 h2 h3 => by
  obtain ⟨a, g1, g2, g3⟩ := h.run H enc fuel cs x h1 h2 h3
  exact ⟨f a, by rw [he]; exact g1, g2, ho a g3⟩
theorem cells_one {D : Nat → Prop} {w : World} {a : AV} {v : Value} (h : Ra D w a v) : CellsR D w [a] [v] := ⟨rfl, fun j x u hx hu => by
  match j, hx, hu with
  | 0, hx, hu => simp at hx hu; subst hx hu; exact h
  | j + 1, hx, _ => simp at hx⟩
theorem wf_i64 {z : Int} (w : (Lit.int .i64 z).wf = true) : -9223372036854775808 ≤ z ∧ z ≤ 9223372036854775807 := by
  simpa [Lit.wf, IntKind.min, IntKind.max, IntKind.signed, IntKind.bits] using w
theorem opn_int (hu : P.underlying t = some (.int .i64)) : Opn P W t (fun n : Int => [aI n]) (fun n => -9223372036854775808 ≤ n ∧ n ≤ 9223372036854775807) := Opn.mk fun H enc fuel cs x h1 h2 h3 => by
  obtain ⟨n, rfl, rfl, hw⟩ := DataW.trod_int hu h1
  exact ⟨n, cells_one (.val _), fun u hu => by obtain rfl := List.mem_singleton.1 hu; rfl, wf_i64 hw⟩
theorem opn_string (hu : P.underlying t = some .string) : Opn P W t (fun n : List UInt8 => [aS n]) (fun n => n.length ≤ 140737488351232) := Opn.mk fun H enc fuel cs x h1 h2 h3 => by
  obtain ⟨s, rfl, rfl, _⟩ := DataW.trod_string hu h1
  exact ⟨s.data.toList, cells_one (.val _), fun u hu => by obtain rfl := List.mem_singleton.1 hu; rfl, h3 _ (by simp [DataW.weights])⟩
theorem opn_slice {α : Type} {en : α → List AV} {ok : α → Prop} {e : TypeId} {k : Nat} (h : Opn P W e en ok) (a0 : α) (hu : P.underlying t = some (.slice e)) (hc : P.cellsOf e = k) (hk : 0 < k) (hb : 16 ≤ P.bytesOf e) :
    Opn P W t (fun l : List α => [.sl k false (l.map en)]) (fun l => l.length ≤ 8796093022207 ∧ ∀ a ∈ l, ok a) := Opn.mk fun H enc fuel cs x h1 h2 h3 => by
  obtain ⟨v, rs, rfl, hr, hd⟩ := open_slice_of (k := k) (R := fun a cs => CellsR (· < W.heap.size) W (en a) cs ∧ (∀ u ∈ cs, u.oneCell' = true) ∧ ok a) hu hc hk a0 (fun n cs' y hy hl hcl hww => h.run H enc n cs' y hy hl hww) h1 h2 h3
  have hsz := rows_sized hu hd h3
  have := Nat.le_trans (Nat.mul_le_mul_left rs.length hb) hsz
  have hra : Ra (· < W.heap.size) W (.sl k false (rs.map en)) v := ra_of_slOf hr (· < W.heap.size) (fun _ h => h) (fun a _ cs _ hR => ⟨hR.2.1, hR.1⟩)
  obtain ⟨A, c, rfl⟩ := hr.shape
  refine ⟨rs, cells_one hra, fun u hu => by obtain rfl := List.mem_singleton.1 hu; rfl, by omega, fun a ha => ?_⟩
  obtain ⟨css, g1, g2, g3⟩ := hr
  obtain ⟨i, hi, rfl⟩ := List.mem_iff_getElem.1 ha
  exact (g3 i _ _ (List.getElem?_eq_getElem (by omega)) (List.getElem?_eq_getElem hi)).2.2.2
structure OpnFs {γ : Type} (P : Program) (W : World) (N : Nat) (fs : List Field) (off : Nat) (en : γ → List AV) (ok : γ → Prop) : Prop where
  run : ∀ (H : Type) (enc : TypeId × Value → H) (m : Nat) (cs : List Value) (xs : List (DataW H × List MemPlace)), cs.length = N → xs.length = fs.length →
    (∀ (i : Nat) (f : Field), fs[i]? = some f → DataW.trod enc P W 0 (fun _ => true) true m f.type ((cs.drop f.offset).take (P.cellsOf f.type)) = xs[i]?) →
    (∀ x ∈ xs, ∀ p ∈ x.2, p.block < W.heap.size) → (∀ n ∈ DataW.weightsEach P (fs.map (·.type)) (xs.map (·.1)), n ≤ 140737488351232) →
    ∃ g, CellsR (· < W.heap.size) W (en g) (cs.drop off) ∧ (∀ u ∈ cs.drop off, u.oneCell' = true) ∧ ok g
theorem opnF_nil (N : Nat) : OpnFs P W N [] N (fun _ : Unit => []) (fun _ => True) := OpnFs.mk fun H enc m cs xs h1 h2 h3 h4 h5 => by
  have : cs.drop N = [] := List.drop_eq_nil_of_le (by omega)
  rw [this]
  exact ⟨(), ⟨rfl, fun j a u ha => by simp at ha⟩, fun u hu => by simp at hu, trivial⟩
theorem cells_append {D : Nat → Prop} {w : World} {xs ys : List AV} {cs ds : List Value} (h : CellsR D w xs cs) (k : CellsR D w ys ds) : CellsR D w (xs ++ ys) (cs ++ ds) := by
  refine ⟨by simp [h.1, k.1], fun j a u ha hu => ?_⟩
  by_cases hj : j < xs.length
  · rw [List.getElem?_append_left hj] at ha
    rw [List.getElem?_append_left (by rw [h.1]; exact hj)] at hu
    exact h.2 j a u ha hu
  · rw [List.getElem?_append_right (by omega)] at ha
    rw [List.getElem?_append_right (by rw [h.1]; omega), h.1] at hu
    exact k.2 _ a u ha hu
theorem opnF_cons {α γ : Type} {N off k : Nat} {f : Field} {fs : List Field} {en : α → List AV} {ok : α → Prop} {en2 : γ → List AV} {ok2 : γ → Prop} (h : Opn P W f.type en ok) (ho : f.offset = off) (hk : P.cellsOf f.type = k)
    (hr : OpnFs P W N fs (off + k) en2 ok2) : OpnFs P W N (f :: fs) off (fun g : α × γ => en g.1 ++ en2 g.2) (fun g => ok g.1 ∧ ok2 g.2) := OpnFs.mk fun H enc m cs xs h1 h2 h3 h4 h5 => by
  obtain ⟨x0, xr, rfl⟩ : ∃ a r, xs = a :: r := by
    cases xs with
    | nil => simp at h2
    | cons a r => exact ⟨a, r, rfl⟩
  have g0 := h3 0 f rfl
  rw [ho, hk] at g0
  simp only [List.map_cons, DataW.weightsEach] at h5
  obtain ⟨a, ha, ha2, ha3⟩ := h.run H enc m _ x0 (by simpa using g0) (h4 x0 (by simp)) (fun n hn => h5 n (by simp [hn]))
  obtain ⟨g, hg, hg2, hg3⟩ := hr.run H enc m cs xr h1 (by simpa using h2) (fun i f' hf => by have := h3 (i + 1) f' (by simpa using hf); simpa using this) (fun x hx => h4 x (by simp [hx])) (fun n hn => h5 n (by simp [hn]))
  have e : cs.drop off = (cs.drop off).take k ++ cs.drop (off + k) := by
    rw [← List.drop_drop, List.take_append_drop]
  refine ⟨(a, g), ?_, ?_, ha3, hg3⟩
  · rw [e]; exact cells_append ha hg
  · intro u hu
    rw [e] at hu
    rcases List.mem_append.1 hu with h | h
    · exact ha2 u h
    · exact hg2 u h
theorem opn_struct {γ : Type} {N : Nat} {fs : Array Field} {en : γ → List AV} {ok : γ → Prop} (hu : P.underlying t = some (.struct fs)) (hc : P.cellsOf t = N) (h : OpnFs P W N fs.toList 0 en ok) : Opn P W t en ok := Opn.mk fun H enc fuel cs x h1 h2 h3 => by
  obtain ⟨xs, m, _, rfl, hl, hlen, hfl⟩ := DataW.trod_struct hu h1
  obtain ⟨g, g1, g2, g3⟩ := h.run H enc m cs xs (by rw [hl, hc]) (by simpa using hlen) (fun i f hf => hfl i f (by simpa using hf)) (fun x hx p hp => h2 p (by simp only [List.mem_flatMap]; exact ⟨x, hx, hp⟩))
    (fun n hn => h3 n (by simp only [DataW.weights, hu]; exact hn))
  exact ⟨g, by simpa using g1, by simpa using g2, g3⟩
theorem arg_struct {α : Type} {en : α → List AV} {ok : α → Prop} {fs : Array Field} {H : Type} {enc : TypeId × Value → H} {base : Nat} {v : Value} {d : DataW H} {p : List MemPlace} (h : Opn P W t en ok) (hu : P.underlying t = some (.struct fs)) (hv : Value.okWide P W .any base t v)
    (ht : ∃ fuel, DataW.trod enc P W 0 (fun _ => true) true fuel t v.cells.toList = some (d, p)) (hlt : ∀ x ∈ p, x.block < W.heap.size) (hw : ∀ n ∈ DataW.weights P t d, n ≤ 140737488351232) : ∃ a, Ra (· < W.heap.size) W (.agg (en a)) v ∧ ok a := by
  obtain ⟨cs, rfl, _⟩ := okWide_struct hu hv
  obtain ⟨fuel, ht⟩ := ht
  obtain ⟨a, g1, g2, g3⟩ := h.run H enc fuel _ _ ht hlt hw
  refine ⟨a, .agg _ _ (by have := g1.1; simp [Value.cells] at this; omega) (fun j u hj => g2 u (by have := Array.mem_of_getElem? hj; simpa [Value.cells] using this)) (fun j x u hx hj => g1.2 j x u hx (by simpa [Value.cells] using hj)), g3⟩
def RaL (D : Nat → Prop) (w : World) : List AV → List Value → Prop
  | [], [] => True
  | x :: xs, v :: vs => Ra D w x v ∧ RaL D w xs vs
  | _, _ => False
theorem raAllL {D : Nat → Prop} {w : World} : ∀ (xs : List AV) (vs : List Value), RaL D w xs vs → RaAll D w xs vs.toArray
  | [], [], _ => ⟨rfl, fun j a u ha => by simp at ha⟩
  | x :: xs, v :: vs, h => by
    have ih := raAllL xs vs h.2
    refine ⟨by have := ih.1; simp at this ⊢; exact this, fun j a u ha hu => ?_⟩
    cases j with
    | zero => simp at ha hu; subst ha hu; exact h.1
    | succ j => exact ih.2 j a u (by simpa using ha) (by simpa using hu)
  | [], _ :: _, h => h.elim
  | _ :: _, [], h => h.elim
theorem law_callsV {f : FuncId} {args : List AV} {vs : Array Value} {w : World} (h : FSpec P f args (aB true)) (hv : RaAll (· < w.heap.size) w args vs) :
    Calls P f vs w (fun e w' => e = .returned (.bool true) ∧ Below w.heap.size w w') := by
  refine (h _ w vs (fun _ h => h) hv).mono ?_
  rintro e w' ⟨v, D', rfl, hb, _, _, hr⟩
  cases hr
  exact ⟨rfl, hb⟩
end
end Copyhold

set_option linter.unusedVariables false
set_option linter.unusedSimpArgs false
namespace Go.Proofs.Ytkepkbgebickiaa
open Go Go.RowKit Copyhold
theorem opv_ent (W : World) : Opn Try.prog W 87 entA OkE :=
  (opn_struct (N := 2) Try.underlying87 (by kernel_rfl) (opnF_cons (k := 1) (opn_string Try.underlying9) rfl (by kernel_rfl) (opnF_cons (k := 1) (opn_int Try.underlying3) rfl (by kernel_rfl) (opnF_nil 2)))).map (fun g => ⟨g.1, g.2.1⟩) (fun _ => rfl) (fun a h => ⟨h.1, h.2.1⟩)
theorem opv_ents (W : World) : Opn Try.prog W 29 (fun l : List (Ent) => [.sl 2 false (l.map entA)]) (fun l => l.length ≤ 8796093022207 ∧ ∀ a ∈ l, OkE a) := opn_slice (opv_ent W) (⟨[], 0⟩) Try.underlying29 (by kernel_rfl) (by decide) (Nat.le_of_ble_eq_true (by kernel_rfl))
theorem opv_nod (W : World) : Opn Try.prog W 31 nodA OkN :=
  (opn_struct (N := 5) Try.underlying31 (by kernel_rfl) (opnF_cons (k := 1) (opn_int Try.underlying3) rfl (by kernel_rfl) (opnF_cons (k := 1) (opn_int Try.underlying3) rfl (by kernel_rfl) (opnF_cons (k := 1) (opn_int Try.underlying3) rfl (by kernel_rfl) (opnF_cons (k := 1) (opn_string Try.underlying9) rfl (by kernel_rfl) (opnF_cons (k := 1) (opv_ents W) rfl (by kernel_rfl) (opnF_nil 5))))))).map (fun g => ⟨g.1, g.2.1, g.2.2.1, g.2.2.2.1, g.2.2.2.2.1⟩) (fun _ => rfl) (fun a h => ⟨h.1, h.2.1, h.2.2.1, h.2.2.2.1, h.2.2.2.2.1.1, h.2.2.2.2.1.2⟩)
theorem opv_nods (W : World) : Opn Try.prog W 22 (fun l : List (Nod) => [.sl 5 false (l.map nodA)]) (fun l => l.length ≤ 8796093022207 ∧ ∀ a ∈ l, OkN a) := opn_slice (opv_nod W) (⟨0, 0, 0, [], []⟩) Try.underlying22 (by kernel_rfl) (by decide) (Nat.le_of_ble_eq_true (by kernel_rfl))
theorem opv_fsy (W : World) : Opn Try.prog W 24 fsyA OkF :=
  (opn_struct (N := 2) Try.underlying24 (by kernel_rfl) (opnF_cons (k := 1) (opv_nods W) rfl (by kernel_rfl) (opnF_cons (k := 1) (opn_int Try.underlying3) rfl (by kernel_rfl) (opnF_nil 2)))).map (fun g => ⟨g.1, g.2.1⟩) (fun _ => rfl) (fun a h => ⟨h.2.1, h.1.1, h.1.2⟩)
end Go.Proofs.Ytkepkbgebickiaa
