/- dirs.Walk (a goto), ref10.Walk. ref10.Walk. A box lent to a callee that may turn it: the callee's contract, and the call. name.place, name.Enter. What is put in, and taken out, is found so: the mathematics. dirs.enter, Add (its closure turns a box of its caller's). -/
import Derived.Test.YtkepkbgebickiaaMrgO
import Derived.Test.YtkepkbgebickiaaVc
import Derived.Test.YtkepkbgebickiaaMrgI
import Derived.Test.YtkepkbgebickiaaMrgL
set_option linter.unusedVariables false
set_option linter.unusedSimpArgs false
namespace Go.Proofs.Ytkepkbgebickiaa
open Go Go.RowKit Copyhold
noncomputable def walkA (f : Fsy) : List Txt → Nod → Int → Nod × Int
  | [], n, e => if e = 0 then (n, 0) else (nod0, e)
  | x :: r, n, e => if e = 0 then walkA f r (lookN f n.ino x) (lookE f n.ino x) else (nod0, e)
theorem walk_bad {f : Fsy} {l : List Txt} {n : Nod} {e : Int} (h : ¬ e = 0) : walkA f l n e = (nod0, e) := by
  cases l <;> simp [walkA, h]
theorem walk_end {f : Fsy} {l : List Txt} {n : Nod} {e : Int} (h : e = 0) (hl : l.length = 0) : walkA f l n e = (n, 0) := by
  obtain rfl := List.eq_nil_of_length_eq_zero hl
  simp [walkA, h]
theorem walk_step {f : Fsy} {l : List Txt} {n : Nod} {e : Int} {x : Txt} (h : e = 0) (hx : l[0]? = some x) : walkA f l n e = walkA f (l.drop 1) (lookN f n.ino x) (lookE f n.ino x) := by
  cases l with
  | nil => cases hx
  | cons y r =>
    obtain rfl := Option.some.inj hx
    simp [walkA, h]
noncomputable def walkF (f : Fsy) (p : Txt) : Nod × Int := walkA f (Name.splitD p).1 (dirN f 1) (firstE [(Name.splitD p).2, dirE f 1])
theorem split_texts (p : Txt) : ∀ s ∈ (Name.splitD p).1, s.length ≤ 32 := fun s hs => by
  unfold Name.splitD at hs
  split at hs
  · split at hs
    · rename_i h
      exact (Name.okN_len (List.all_eq_true.1 h s hs)).1
    · cases hs
  · cases hs
theorem cut1 {L : List Txt} {n : Nat} (h : n = L.length) : ((L.map txA).take n).drop 1 = (L.drop 1).map txA := by
  subst h
  rw [List.take_of_length_le (by rw [List.length_map]; exact Nat.le_refl _), List.map_drop]
theorem split_len (p : Txt) : (Name.splitD p).1.length ≤ p.length + 1 := by
  unfold Name.splitD
  split
  · split
    · exact Name.len_names p
    · exact Nat.zero_le _
  · exact Nat.zero_le _
theorem walk_zero {f : Fsy} {p : Txt} (h0 : (Name.splitD p).2 = 0) (hd : dirE f 1 = 0) : walkA f (Name.splitD p).1 (findN f 1) 0 = walkF f p := by
  unfold walkF dirN
  rw [if_pos hd, h0, hd]
  rfl
theorem walk_e0 {f : Fsy} {p : Txt} (h0 : ¬ (Name.splitD p).2 = 0) : walkF f p = (nod0, (Name.splitD p).2) := by
  unfold walkF
  rw [first2, if_neg h0]
  exact walk_bad h0
theorem right_dir {f : Fsy} (h : rightP f) : dirE f 1 = 0 := by
  obtain ⟨hr, ⟨n, hn, h1, h2, _⟩, _⟩ := h
  have e : f.l.find? (isNo 1) = some n := by
    cases hl : f.l with
    | nil => rw [hl] at hn; cases hn
    | cons y r =>
      rw [hl] at hn
      obtain rfl := Option.some.inj hn
      simp [isNo, h1]
  have hb : findB f 1 = true := List.any_eq_true.2 ⟨n, List.mem_of_getElem? hn, by simp [isNo, h1]⟩
  refine (dirE_0 hb ?_).1
  unfold findN
  rw [e]
  exact h2
set_option maxRecDepth 100000 in
set_option maxHeartbeats 4000000 in
theorem walk_spec (f : Fsy) (p : Txt) (hp : rowsP f) (hs : p.length ≤ 1000000) : FSpec Try.prog 14 [.agg [.sl 5 false (f.l.map nodA), aI f.next], aS p] (.tup [.agg (nodA (walkF f p).1), aI (walkF f p).2]) := by
  have hl := hp.1
  have hr := rows_rise hp
  exact spec_vc (F := Try.f14) 400 (
 .new fun b1 => .new fun b2 => .r 1 <| let L1 : Lp (Nat × Nod × Int × Nat) := ⟨fun a1 => ⟨[(2, .ptr 2 b1 0), (4, .ptr 4 b2 0), (6, .sl 1 false (((Name.splitD p).1.drop a1.1).map txA)), (7, aI a1.2.2.1), (8, .ptr 8 a1.2.2.2 0)], [(2, .box b1 24 [.sl 5 false (f.l.map nodA), aI f.next]), (4, .box b2 31 [aI 0, aI 0, aI 0, aS ([]), aN]), (8, .box a1.2.2.2 31 [aI a1.2.1.ino, aI a1.2.1.kind, aI a1.2.1.links, aS a1.2.1.text, .sl 2 false (a1.2.1.l.map entA)])]⟩, fun a1 => (Name.splitD p).1.length - a1.1, fun a1 => a1.1 ≤ (Name.splitD p).1.length ∧ walkA f ((Name.splitD p).1.drop a1.1) a1.2.1 a1.2.2.1 = walkF f p⟩
 .jump 0 L1 (.r 1 <| .call (split_spec p (by omega)) <|
 .r 5 <| .run 1 [b1 = b1] ⟨rfl, trivial⟩ <|
 .call (dir_spec f 1 hp) <|
 .r 3 <| .new fun b3 => .run 2 [b3 = b3] ⟨rfl, trivial⟩ <|
 .r 3 <| .callS (args0 := [.sl 1 true ([[aI ((Name.splitD p).2)], [aI (dirE f 1)]])]) (args := [.sl 1 false ([((Name.splitD p).2), (dirE f 1)].map intA)]) ⟨first_lit2 ((Name.splitD p).2) (dirE f 1), trivial⟩ (first_spec [((Name.splitD p).2), (dirE f 1)] (by simp)) <|
 .r 1 <| .r 2 <| .br 25 ((firstE [((Name.splitD p).2), (dirE f 1)]) != 0) (fun q1 => have p1 := bneT q1; .run 4 [b2 = b2] ⟨rfl, trivial⟩ <|
 .fin (x := .tup [.agg [aI 0, aI 0, aI 0, aS ([]), aN], aI (firstE [((Name.splitD p).2), (dirE f 1)])]) (r := .tup [.agg (nodA (walkF f p).1), aI (walkF f p).2]) [b2 = b2] ⟨rfl, trivial⟩ (by
    rw [show walkF f p = _ from walk_bad (by assumption)]
    exact Sub.tups ⟨nod0_sub rfl, Sub.refl _, trivial⟩))
 <| fun q1 => have p1 := bneF q1; .r 2 <| .val 29 (show (aI (((Name.splitD p).1.map txA).length : Int) : AV) = aI (((Name.splitD p).1).length : Int) from by rw [List.length_map]) <| .r 1 <| .br 30 ((((Name.splitD p).1).length : Int) == 0) (fun q2 => have p2 := beqT q2; .run 3 [b3 = b3, b2 = b2] ⟨rfl, rfl, trivial⟩ <|
 .fin (x := .tup [.agg [aI ((dirN f 1).ino), aI ((dirN f 1).kind), aI ((dirN f 1).links), aS ((dirN f 1).text), .sl 2 false ((dirN f 1).l.map entA)], aI 0]) (r := .tup [.agg (nodA (walkF f p).1), aI (walkF f p).2]) [b2 = b2] ⟨rfl, trivial⟩ (by
    rw [show walkF f p = _ from walk_end (by assumption) (by omega)]
    exact Sub.refl _))
 <| fun q2 => have p2 := beqF q2; .ord [0, 1, 2, 3, 4, 5, 6, 7, 8, 9, 10, 11] <| .run 4 [b1 = b1, b3 = b3] ⟨rfl, rfl, trivial⟩ <|
 .idxM ((Name.splitD p).1) txA 0 (m := 0) rfl (by omega) fun x1 hx1 =>
 have sx1 := split_texts p x1 (List.mem_of_getElem? hx1); .r 1 <| .call (look_spec f ((dirN f 1).ino) x1 hp (by omega)) <|
 .run 5 [b3 = b3] ⟨rfl, trivial⟩ <|
 .r 1 <| .slc 1 false ((Name.splitD p).1.map txA) (some 1) none none 1 (((Name.splitD p).1.map txA).length) false (.inr rfl) (.inl ⟨rfl, rfl⟩) (.inl ⟨rfl, fun h => by cases h⟩) (by first | (simp <;> omega) | (rw [List.length_map]; omega)) (by first | (simp <;> omega) | (rw [List.length_map]; omega)) <|
 .r 1 <| .back0 L1 (1, (lookN f (dirN f 1).ino x1), (lookE f (dirN f 1).ino x1), b3) (show 1 ≤ (Name.splitD p).1.length ∧ walkA f ((Name.splitD p).1.drop 1) (lookN f (dirN f 1).ino x1) (lookE f (dirN f 1).ino x1) = walkF f p from ⟨by have := lt_of_some hx1; omega, (walk_step (by assumption) hx1).symm⟩) ⟨[(2, .ptr 2 b1 0), (4, .ptr 4 b2 0), (6, .sl 1 false ((((Name.splitD p).1.map txA).take (((Name.splitD p).1.map txA).length)).drop 1)), (7, aI (lookE f ((dirN f 1).ino) x1)), (8, .ptr 8 b3 0)], [(2, .box b1 24 [.sl 5 false (f.l.map nodA), aI f.next]), (4, .box b2 31 [aI 0, aI 0, aI 0, aS ([]), aN]), (8, .box b3 31 [aI ((lookN f ((dirN f 1).ino) x1).ino), aI ((lookN f ((dirN f 1).ino) x1).kind), aI ((lookN f ((dirN f 1).ino) x1).links), aS ((lookN f ((dirN f 1).ino) x1).text), .sl 2 false ((lookN f ((dirN f 1).ino) x1).l.map entA)])]⟩ ⟨Sub.refl _, Sub.refl _, Sub.of_eq (congrArg (AV.sl 1 false) (cut1 (by simp))), Sub.of_eq (congrArg aI (by first | omega | rfl)), Sub.refl _, trivial⟩ ⟨⟨_, rfl, SubB.refl _⟩, ⟨_, rfl, SubB.refl _⟩, ⟨_, rfl, SubB.boxs ⟨Sub.of_eq (congrArg aI (by first | omega | rfl)), Sub.of_eq (congrArg aI (by first | omega | rfl)), Sub.of_eq (congrArg aI (by first | omega | rfl)), Sub.refl _, Sub.refl _, trivial⟩⟩, trivial⟩)
 <| fun a1 ha1 =>
 (fun (k : Nat) (n : Nod) (e : Int) (b : Nat) (hH1 : k ≤ (Name.splitD p).1.length ∧ walkA f ((Name.splitD p).1.drop k) n e = walkF f p) => .r 2 <| .br 25 (e != 0) (fun q3 => have p3 := bneT q3; .run 4 [b2 = b2] ⟨rfl, trivial⟩ <|
 .fin (x := .tup [.agg [aI 0, aI 0, aI 0, aS ([]), aN], aI e]) (r := .tup [.agg (nodA (walkF f p).1), aI (walkF f p).2]) [b2 = b2] ⟨rfl, trivial⟩ (by
    rw [← hH1.2, walk_bad (by assumption)]
    exact Sub.tups ⟨nod0_sub rfl, Sub.refl _, trivial⟩))
 <| fun q3 => have p3 := bneF q3; .r 2 <| .val 29 (show (aI ((((Name.splitD p).1.drop k).map txA).length : Int) : AV) = aI (((Name.splitD p).1.drop k).length : Int) from by rw [List.length_map]) <| .r 1 <| .br 30 ((((Name.splitD p).1.drop k).length : Int) == 0) (fun q4 => have p4 := beqT q4; .run 3 [b = b, b2 = b2] ⟨rfl, rfl, trivial⟩ <|
 .fin (x := .tup [.agg [aI n.ino, aI n.kind, aI n.links, aS n.text, .sl 2 false (n.l.map entA)], aI 0]) (r := .tup [.agg (nodA (walkF f p).1), aI (walkF f p).2]) [b2 = b2] ⟨rfl, trivial⟩ (by
    rw [← hH1.2, walk_end (by assumption) (by omega)]
    exact Sub.refl _))
 <| fun q4 => have p4 := beqF q4; .ord [0, 1, 2, 3, 4, 5, 6, 7, 8, 9, 10, 11] <| .run 4 [b1 = b1, b = b] ⟨rfl, rfl, trivial⟩ <|
 .idxM ((Name.splitD p).1.drop k) txA 0 (m := 0) rfl (by omega) fun x2 hx2 =>
 have sx2 := split_texts p x2 (List.mem_of_mem_drop (List.mem_of_getElem? hx2)); .r 1 <| .call (look_spec f n.ino x2 hp (by omega)) <|
 .run 5 [b = b] ⟨rfl, trivial⟩ <|
 .r 1 <| .slc 1 false (((Name.splitD p).1.drop k).map txA) (some 1) none none 1 ((((Name.splitD p).1.drop k).map txA).length) false (.inr rfl) (.inl ⟨rfl, rfl⟩) (.inl ⟨rfl, fun h => by cases h⟩) (by first | (simp <;> omega) | (rw [List.length_map]; omega)) (by first | (simp <;> omega) | (rw [List.length_map]; omega)) <|
 .r 1 <| .back L1 (k, n, e, b) ((k + 1), (lookN f n.ino x2), (lookE f n.ino x2), b) (show (k + 1) ≤ (Name.splitD p).1.length ∧ walkA f ((Name.splitD p).1.drop (k + 1)) (lookN f n.ino x2) (lookE f n.ino x2) = walkF f p from ⟨by have := lt_of_some hx2; rw [List.length_drop] at this; omega, by rw [← hH1.2, walk_step (by assumption) hx2, List.drop_drop]⟩) (show (Name.splitD p).1.length - (k + 1) < (Name.splitD p).1.length - k from (by have := lt_of_some hx2; rw [List.length_drop] at this; omega)) ⟨[(2, .ptr 2 b1 0), (4, .ptr 4 b2 0), (6, .sl 1 false (((((Name.splitD p).1.drop k).map txA).take ((((Name.splitD p).1.drop k).map txA).length)).drop 1)), (7, aI (lookE f n.ino x2)), (8, .ptr 8 b 0)], [(2, .box b1 24 [.sl 5 false (f.l.map nodA), aI f.next]), (4, .box b2 31 [aI 0, aI 0, aI 0, aS ([]), aN]), (8, .box b 31 [aI ((lookN f n.ino x2).ino), aI ((lookN f n.ino x2).kind), aI ((lookN f n.ino x2).links), aS ((lookN f n.ino x2).text), .sl 2 false ((lookN f n.ino x2).l.map entA)])]⟩ ⟨Sub.refl _, Sub.refl _, Sub.of_eq (congrArg (AV.sl 1 false) ((cut1 (by simp)).trans (by rw [List.drop_drop]))), Sub.refl _, Sub.refl _, trivial⟩ ⟨⟨_, rfl, SubB.refl _⟩, ⟨_, rfl, SubB.refl _⟩, ⟨_, rfl, SubB.refl _⟩, trivial⟩) a1.1 a1.2.1 a1.2.2.1 a1.2.2.2 ha1) Try.func14 rfl (by kernel_rfl) (by kernel_rfl)
end Go.Proofs.Ytkepkbgebickiaa

set_option linter.unusedVariables false
set_option linter.unusedSimpArgs false
namespace Go.Proofs.Ytkepkbgebickiaa
open Go Go.RowKit Copyhold
set_option maxRecDepth 100000 in
set_option maxHeartbeats 4000000 in
theorem rwalk_spec (f : Fsy) (p : Txt) (hp : rowsP f) (hd : dirE f 1 = 0) (hs : p.length ≤ 1000000) : FSpec Try.prog 15 [.agg [.sl 5 false (f.l.map nodA), aI f.next], aS p] (.tup [.agg (nodA (walkF f p).1), aI (walkF f p).2]) := by
  have hl := hp.1
  have hr := rows_rise hp
  have htl := split_len p
  exact spec_vc (F := Try.f15) 400 (
 .new fun b1 => .new fun b2 => .r 1 <| .r 1 <| .call (rsplit_spec p (by omega)) <|
 .r 5 <| .r 2 <| .br 19 (((Name.splitD p).2) != 0) (fun q1 => have p1 := bneT q1; .run 4 [b2 = b2] ⟨rfl, trivial⟩ <|
 .fin (x := .tup [.agg [aI 0, aI 0, aI 0, aS ([]), aN], aI ((Name.splitD p).2)]) (r := .tup [.agg (nodA (walkF f p).1), aI (walkF f p).2]) [b2 = b2] ⟨rfl, trivial⟩ (by
    rw [walk_e0 (by assumption)]
    exact Sub.tups ⟨nod0_sub rfl, Sub.refl _, trivial⟩))
 <| fun q1 => have p1 := bneF q1; .run 1 [b1 = b1] ⟨rfl, trivial⟩ <|
 .call (rfind_spec f 1 (by omega)) <|
 .r 3 <| .new fun b3 => .run 2 [b3 = b3] ⟨rfl, trivial⟩ <|
 .r 1 <| let L1 : Lp (Nat × Nod) := ⟨fun a1 => ⟨[(2, .ptr 2 b1 0), (4, .ptr 4 b2 0), (6, .sl 1 false ((Name.splitD p).1.map txA)), (8, .ptr 8 b3 0), (10, aI (a1.1 : Int))], [(2, .box b1 24 [.sl 5 false (f.l.map nodA), aI f.next]), (4, .box b2 31 [aI 0, aI 0, aI 0, aS ([]), aN]), (8, .box b3 31 [aI a1.2.ino, aI a1.2.kind, aI a1.2.links, aS a1.2.text, .sl 2 false (a1.2.l.map entA)])]⟩, fun a1 => (Name.splitD p).1.length - a1.1, fun a1 => a1.1 ≤ (Name.splitD p).1.length ∧ walkA f ((Name.splitD p).1.drop a1.1) a1.2 0 = walkF f p⟩
 .loop L1 (0, (findN f 1)) (show 0 ≤ (Name.splitD p).1.length ∧ walkA f ((Name.splitD p).1.drop 0) (findN f 1) 0 = walkF f p from ⟨Nat.zero_le _, walk_zero (by assumption) hd⟩) ⟨[(2, .ptr 2 b1 0), (4, .ptr 4 b2 0), (6, .sl 1 false ((Name.splitD p).1.map txA)), (8, .ptr 8 b3 0), (10, aI 0)], [(2, .box b1 24 [.sl 5 false (f.l.map nodA), aI f.next]), (4, .box b2 31 [aI 0, aI 0, aI 0, aS ([]), aN]), (8, .box b3 31 [aI ((findN f 1).ino), aI ((findN f 1).kind), aI ((findN f 1).links), aS ((findN f 1).text), .sl 2 false ((findN f 1).l.map entA)])]⟩ ⟨Sub.refl _, Sub.refl _, Sub.refl _, Sub.refl _, Sub.of_eq (congrArg aI (by first | omega | rfl)), trivial⟩ ⟨⟨_, rfl, SubB.refl _⟩, ⟨_, rfl, SubB.refl _⟩, ⟨_, rfl, SubB.refl _⟩, trivial⟩ fun a1 ha1 =>
 (fun (k : Nat) (n : Nod) (hH1 : k ≤ (Name.splitD p).1.length ∧ walkA f ((Name.splitD p).1.drop k) n 0 = walkF f p) => .r 3 <| .val 29 (show (aI (((Name.splitD p).1.map txA).length : Int) : AV) = aI (((Name.splitD p).1).length : Int) from by rw [List.length_map]) <| .r 1 <| .br 30 (decide ((k : Int) < (((Name.splitD p).1).length : Int))) (fun q2 => have p2 := decT q2; .pick [0, 1, 2, 3, 4, 5, 6] <| .run 5 [b1 = b1, b3 = b3] ⟨rfl, rfl, trivial⟩ <|
 .idxM ((Name.splitD p).1) txA k (m := (k : Int)) rfl (by omega) fun x1 hx1 =>
 have sx1 := split_texts p x1 (List.mem_of_getElem? hx1); .r 1 <| .fork <| .alt (.call (rlook_spec f n.ino x1 hp (by omega)) <|
 .pick [8, 9, 10, 11, 12, 13] <| .r 3 <| .new fun b4 => .run 2 [b4 = b4] ⟨rfl, trivial⟩ <|
 .r 2 <| .br 45 ((lookE f n.ino x1) != 0) (fun q3 => have p3 := bneT q3; .run 4 [b2 = b2] ⟨rfl, trivial⟩ <|
 .fin (x := .tup [.agg [aI 0, aI 0, aI 0, aS ([]), aN], aI (lookE f n.ino x1)]) (r := .tup [.agg (nodA (walkF f p).1), aI (walkF f p).2]) [b2 = b2] ⟨rfl, trivial⟩ (by
    rw [← hH1.2, walk_step (l := ((Name.splitD p).1.drop k)) rfl (show ((Name.splitD p).1.drop k)[0]? = some x1 from by rw [List.getElem?_drop]; exact hx1), walk_bad (by assumption)]
    exact Sub.tups ⟨nod0_sub rfl, Sub.refl _, trivial⟩))
 <| fun q3 => have p3 := bneF q3; .run 2 [b4 = b4, b3 = b3] ⟨rfl, rfl, trivial⟩ <|
 .run 3 [rng .i64 ((k : Int) + 1)] ⟨rng64 (by omega) (by omega), trivial⟩ <|
 .back L1 (k, n) ((k + 1), (lookN f n.ino x1)) (show (k + 1) ≤ (Name.splitD p).1.length ∧ walkA f ((Name.splitD p).1.drop (k + 1)) (lookN f n.ino x1) 0 = walkF f p from ⟨by omega, by rw [← hH1.2, walk_step (l := ((Name.splitD p).1.drop k)) rfl (show ((Name.splitD p).1.drop k)[0]? = some x1 from by rw [List.getElem?_drop]; exact hx1), List.drop_drop, show lookE f n.ino x1 = 0 from by assumption]⟩) (show (Name.splitD p).1.length - (k + 1) < (Name.splitD p).1.length - k from (by omega)) ⟨[(2, .ptr 2 b1 0), (4, .ptr 4 b2 0), (6, .sl 1 false ((Name.splitD p).1.map txA)), (8, .ptr 8 b3 0), (10, aI ((k : Int) + 1))], [(2, .box b1 24 [.sl 5 false (f.l.map nodA), aI f.next]), (4, .box b2 31 [aI 0, aI 0, aI 0, aS ([]), aN]), (8, .box b3 31 [aI ((lookN f n.ino x1).ino), aI ((lookN f n.ino x1).kind), aI ((lookN f n.ino x1).links), aS ((lookN f n.ino x1).text), .sl 2 false ((lookN f n.ino x1).l.map entA)])]⟩ ⟨Sub.refl _, Sub.refl _, Sub.refl _, Sub.refl _, Sub.of_eq (congrArg aI (by first | omega | rfl)), trivial⟩ ⟨⟨_, rfl, SubB.refl _⟩, ⟨_, rfl, SubB.refl _⟩, ⟨_, rfl, SubB.refl _⟩, trivial⟩)
 <| .new fun b5 => .pick [7, 8, 9, 10, 12, 13] <| .call (rlook_spec f n.ino x1 hp (by omega)) <|
 .run 5 [b5 = b5] ⟨rfl, trivial⟩ <|
 .r 2 <| .br 45 ((lookE f n.ino x1) != 0) (fun q4 => have p4 := bneT q4; .run 4 [b2 = b2] ⟨rfl, trivial⟩ <|
 .fin (x := .tup [.agg [aI 0, aI 0, aI 0, aS ([]), aN], aI (lookE f n.ino x1)]) (r := .tup [.agg (nodA (walkF f p).1), aI (walkF f p).2]) [b2 = b2] ⟨rfl, trivial⟩ (by
    rw [← hH1.2, walk_step (l := ((Name.splitD p).1.drop k)) rfl (show ((Name.splitD p).1.drop k)[0]? = some x1 from by rw [List.getElem?_drop]; exact hx1), walk_bad (by assumption)]
    exact Sub.tups ⟨nod0_sub rfl, Sub.refl _, trivial⟩))
 <| fun q4 => have p4 := bneF q4; .run 2 [b5 = b5, b3 = b3] ⟨rfl, rfl, trivial⟩ <|
 .run 3 [rng .i64 ((k : Int) + 1)] ⟨rng64 (by omega) (by omega), trivial⟩ <|
 .back L1 (k, n) ((k + 1), (lookN f n.ino x1)) (show (k + 1) ≤ (Name.splitD p).1.length ∧ walkA f ((Name.splitD p).1.drop (k + 1)) (lookN f n.ino x1) 0 = walkF f p from ⟨by omega, by rw [← hH1.2, walk_step (l := ((Name.splitD p).1.drop k)) rfl (show ((Name.splitD p).1.drop k)[0]? = some x1 from by rw [List.getElem?_drop]; exact hx1), List.drop_drop, show lookE f n.ino x1 = 0 from by assumption]⟩) (show (Name.splitD p).1.length - (k + 1) < (Name.splitD p).1.length - k from (by omega)) ⟨[(2, .ptr 2 b1 0), (4, .ptr 4 b2 0), (6, .sl 1 false ((Name.splitD p).1.map txA)), (8, .ptr 8 b3 0), (10, aI ((k : Int) + 1))], [(2, .box b1 24 [.sl 5 false (f.l.map nodA), aI f.next]), (4, .box b2 31 [aI 0, aI 0, aI 0, aS ([]), aN]), (8, .box b3 31 [aI ((lookN f n.ino x1).ino), aI ((lookN f n.ino x1).kind), aI ((lookN f n.ino x1).links), aS ((lookN f n.ino x1).text), .sl 2 false ((lookN f n.ino x1).l.map entA)])]⟩ ⟨Sub.refl _, Sub.refl _, Sub.refl _, Sub.refl _, Sub.of_eq (congrArg aI (by first | omega | rfl)), trivial⟩ ⟨⟨_, rfl, SubB.refl _⟩, ⟨_, rfl, SubB.refl _⟩, ⟨_, rfl, SubB.refl _⟩, trivial⟩)
 <| fun q2 => have p2 := decF q2; .run 3 [b3 = b3, b2 = b2] ⟨rfl, rfl, trivial⟩ <|
 .fin (x := .tup [.agg [aI n.ino, aI n.kind, aI n.links, aS n.text, .sl 2 false (n.l.map entA)], aI 0]) (r := .tup [.agg (nodA (walkF f p).1), aI (walkF f p).2]) [b2 = b2] ⟨rfl, trivial⟩ (by
    rw [← hH1.2, walk_end rfl (by rw [List.length_drop]; omega)]
    exact Sub.refl _)) a1.1 a1.2 ha1) Try.func15 rfl (by kernel_rfl) (by kernel_rfl)
end Go.Proofs.Ytkepkbgebickiaa

set_option linter.unusedVariables false
set_option linter.unusedSimpArgs false
namespace Go.Proofs.Ytkepkbgebickiaa
open Go Go.RowKit Copyhold
def LSpec (P : Program) (f : FuncId) (args : List AV) (y : Bx) (r : AV) : Prop :=
  ∀ (D : Nat → Prop) (w : World) (vs : Array Value), (∀ b, D b → b < w.heap.size) → RaAll D w args vs → BoxR D w y → (∀ g, y.blk = some g → ¬ D g) →
    Calls P f vs w (fun e w' => ∃ v, ∃ D' : Nat → Prop, e = .returned v ∧ Below 0 w w' ∧ (∀ k, y.blk ≠ some k → k < w.heap.size → w'.heap[k]? = w.heap[k]?) ∧ (∀ b, D b → D' b) ∧
      (∀ b, D' b → b < w'.heap.size ∧ (D b ∨ y.blk = some b ∨ w.heap.size ≤ b)) ∧ Ra D' w' r v)
theorem lspec_vc {P : Program} {f : FuncId} {F : Func} {code : Code} {args : List AV} {q : Nat} {y : Bx} {r : AV} (n : Nat) (ct : Ct P) (hf : P.funcs[f]? = some F) (hb : F.body = some code)
    (hk : (decide (args.length ≤ F.ntmps) && (P.follows .mixedOrders && (F.results.toList.all fun rv => decide ((match rv with | .tmp t => t | .cell t _ => t) < F.ntmps)))) = true)
    (h : vcC ct = vc P F (.val r) n ct (.code code) [] ⟨initL args 0, [(q, y)]⟩) : LSpec P f args y r := by
  simp only [Bool.and_eq_true] at hk
  have hsz : args.length ≤ F.ntmps := of_decide_eq_true hk.1
  have hn := hk.2.2
  have hv : vc P F (.val r) n ct (.code code) [] ⟨initL args 0, [(q, y)]⟩ := h ▸ vcC_true ct
  intro D w vs hD hvs hy hyD
  refine calls_of_wp hf hb ?_
  let c : Cx := ⟨w.heap.size, w, F.ntmps, D, fun k => y.blk = some k⟩
  have hawp : AWp c P code (FinG P F (.val r)) (LS.mk (initL args 0) [(q, y)]).fs := vc_sound (c := c) rfl hk.2.1 n ct (.code code) [] _ hv
  have htm : ∀ t, (LS.mk (initL args 0) [(q, y)]).fs.tm t = args.getD t .any := fun t => by
    show lget (initL args 0) t = _
    rw [lget_initL]; simp
  have hbx : ∀ i x, (LS.mk (initL args 0) [(q, y)]).fs.bx i = some x → i = q ∧ x = y := fun i x hx => by
    have hx' : bget [(q, y)] i = some x := hx
    simp only [bget] at hx'
    cases hb : Nat.beq q i with
    | true =>
      rw [hb] at hx'
      exact ⟨(Nat.eq_of_beq_eq_true hb).symm, (Option.some.inj hx').symm⟩
    | false => rw [hb] at hx'; cases hx'
  have hrel : Rel c (LS.mk (initL args 0) [(q, y)]).fs { tmps := vs ++ Array.replicate (F.ntmps - vs.size) undef, defers := [] } w := by
    refine ⟨Nat.le_refl _, D, rfl, ?_, BelowL.refl (c := c), hD, ⟨fun _ h => h, fun _ h => .inl h⟩, fun t v hv => ?_, fun id x h => ?_, fun i j x z hx hz hij => ?_⟩
    · have := hvs.1
      simp [c]
      omega
    · rw [htm]
      by_cases ht : t < vs.size
      · rw [Array.getElem?_append_left ht] at hv
        have hta : t < args.length := by rw [hvs.1]; exact ht
        have := hvs.2 t args[t] v (List.getElem?_eq_getElem hta) hv
        simpa [List.getD, List.getElem?_eq_getElem hta] using this
      · have hta : args.length ≤ t := by rw [hvs.1]; omega
        have : args.getD t .any = .any := by simp [List.getD, List.getElem?_eq_none hta]
        rw [this]
        exact .any v
    · obtain ⟨_, rfl⟩ := hbx id x h
      exact ⟨fun g hg => ⟨.inr hg, hyD g hg⟩, hy⟩
    · exact absurd ((hbx i x hx).1.trans (hbx j z hz).1.symm) hij
  refine wp_mono (hawp _ _ hrel) fun e' a' w' ⟨s', hq, hc, D', hR⟩ => ?_
  obtain ⟨he, hd⟩ := hq
  have hn' : ∀ rv ∈ F.results.toList, (match rv with | .tmp t => t | .cell t _ => t) < c.n := fun rv hrv => by
    have := List.all_eq_true.1 hn rv hrv
    simpa using this
  obtain ⟨v, hv1, hrv⟩ := run_results hR hn' hd
  have fin : ∃ u, ∃ D'' : Nat → Prop, Ending.returned v = .returned u ∧ Below 0 w w' ∧ (∀ k, y.blk ≠ some k → k < w.heap.size → w'.heap[k]? = w.heap[k]?) ∧ (∀ b, D b → D'' b) ∧
      (∀ b, D'' b → b < w'.heap.size ∧ (D b ∨ y.blk = some b ∨ w.heap.size ≤ b)) ∧ Ra D'' w' r u :=
    ⟨v, D', rfl, ⟨hR.below.os, hR.below.tape, hR.below.output, hR.below.size, fun k hk => absurd hk (by omega)⟩, fun k hk hl => hR.below.block k hl hk, hR.old.1,
      fun b hb => ⟨hR.dlt b hb, (hR.old.2 b hb).imp id fun h => h.symm⟩, hrv⟩
  rcases he with rfl | rfl
  · exact ⟨hR.defers, v, hv1, fin⟩
  · exact ⟨hR.defers, v, hv1, fin⟩
def gone : Bx := .row (.slice none 0 0) 0 0 []
def lcR (P : Program) (q : Nat) (ops : Array Oper) (s : LS) (i : Nat) : Option ((FuncId × List AV × Option Tmp) × Bx) :=
  match callO ops s i, bget s.bx q with
  | some (f, args, d), some y => bif entB P f then some ((f, args, d), y) else none
  | _, _ => none
theorem gone_ok (D : Nat → Prop) (w : World) : BoxR D w gone := by
  show BoxR D w (.row (.slice none 0 0) 0 0 [])
  refine ⟨fun l h => (by cases h), [], World.ownsRow_nil _ _ _ _, fun u h => (by cases h), fun j a u h => (by simp at h)⟩
theorem rule_lent {P : Program} {q : Nat} {f : FuncId} {args args' : List AV} {d : Option Tmp} {y : Bx} {r : AV} (hs : SubAll args args') (hsp : LSpec P f args' y r) :
    ∀ (ops : Array Oper) (i : Nat) (s : LS) (K : FS → Prop), lcR P q ops s i = some ((f, args, d), y) → (∀ a : Unit, K ((s.put d r).setB q gone).fs) → StepL P ops i s.fs K := by
  intro ops i s K h kk
  unfold lcR at h
  split at h
  · rename_i f' args0 d' y' hc hr
    cases he : entB P f' with
    | false => rw [he] at h; cases h
    | true =>
      rw [he] at h
      simp only [cond_true, Option.some.injEq, Prod.mk.injEq] at h
      obtain ⟨⟨rfl, rfl, rfl⟩, rfl⟩ := h
      obtain ⟨o, hi, hg, hrd, hd, hrun⟩ := callO_run (P := P) hc
      refine ⟨o, hi, hg, q, fun x z => x = r ∧ z = gone, ?_, ?_⟩
      · intro D w a Q K' hD hops hbx hnd hcont
        obtain ⟨hl, hsa⟩ := hs.ok
        obtain ⟨vs, h1, h2⟩ := hrun D w a.eval hops
        have hra : RaAll D w args' vs := by
          refine ⟨by rw [← hl]; exact h2.1, fun j x v hx hv => ?_⟩
          have hj : j < args0.length := by have := (List.getElem?_eq_some_iff.1 hx).1; omega
          exact hsa j args0[j] x (List.getElem?_eq_getElem hj) hx D w v (h2.2 j args0[j] v (List.getElem?_eq_getElem hj) hv)
        unfold Oper.wp
        rw [h1, entB_ok he, Oper.upon_enter]
        refine (hsp D w _ hD hra (hbx q _ hr) (fun g hg => hnd _ g hr hg)).mono ?_
        rintro e' w' ⟨v, D', rfl, g1, g2, g3, g4, g5⟩
        exact hcont v w' r _ gone D' ⟨rfl, rfl⟩ hr g1 g2 g3 g4 (fun g h => by cases h) (gone_ok D' w') g5
      · rintro x z ⟨rfl, rfl⟩
        rw [hd, LS.fs_put, LS.fs_setB]
        exact kk ()
  · cases h
end Go.Proofs.Ytkepkbgebickiaa

set_option linter.unusedVariables false
set_option linter.unusedSimpArgs false
namespace Go.Proofs.Ytkepkbgebickiaa
open Go Go.RowKit Copyhold
open Copyhold.Name in
theorem nplace_spec (l : List Ent) (s : Txt) (hl : l.length ≤ 1000000) (hr : Srt (lI l)) : FSpec Try.prog 54 [.sl 2 false (l.map entA), aS s] (.tup [aI (pos (lI l) s : Int), aB (isB l s)]) := fspec_plain (tup2_ra _ _) fun D w vs h => by
  obtain ⟨u, v, rfl, hu, hv⟩ := RaAll.two h
  cases hv
  obtain ⟨A, c, rfl, he⟩ := ents_of_ra hu
  exact (name_place (lI l) s A c w he (by simp [lI]; omega) hr)
def posI (l : List Ent) (s : Txt) : Nat := Name.pos (lI l) s
theorem posI_le (l : List Ent) (s : Txt) : posI l s ≤ l.length := by
  have := Name.pos_le (lI l) s
  have h : (lI l).length = l.length := by simp [lI]
  unfold posI; omega
noncomputable def entE (l : List Ent) (s : Txt) (n : Int) : Int := if (checkE s != 0) = true then 10 else if n < 1 then 1 else if isB l s = true then 7 else if (l.length : Int) ≥ 256 then 12 else 0
noncomputable def entL (l : List Ent) (s : Txt) (n : Int) : List Ent := if entE l s n = 0 then l.take (posI l s) ++ ⟨s, n⟩ :: l.drop (posI l s) else l
set_option maxRecDepth 100000 in
set_option maxHeartbeats 4000000 in
theorem enter_spec (l : List Ent) (s : Txt) (n : Int) (hl : l.length ≤ 256) (hr : Name.Srt (lI l)) (hs : s.length ≤ 1000000) (hn : I64 n) : FSpec Try.prog 60 [.sl 2 false (l.map entA), aS s, aI n] (.tup [.sl 2 false ((entL l s n).map entA), aI (entE l s n)]) := by
  have hn1 := hn.1
  exact spec_vc (F := Try.f60) 400 (
 .r 2 <| .r 2 <| .call (nplace_spec l s (by omega) hr) <|
 .r 5 <| .r 1 <| .r 1 <| .call (check_spec s (by omega)) <|
 .r 2 <| .br 18 ((checkE s) != 0) (fun q1 => have p1 := bneT q1; .r 1 <| .r 2 <| .is 32 (show (10 != 0) = true from rfl) <| .r 4 <| .fin (x := .tup [.sl 2 false (l.map entA), aI 10]) (r := .tup [.sl 2 false ((entL l s n).map entA), aI (entE l s n)]) [] trivial (by
    have e : entE l s n = 10 := by
      unfold entE
      rw [if_pos q1]
    have e2 : entL l s n = l := if_neg (by omega)
    rw [e, e2]
    exact Sub.tups ⟨by first | exact Sub.refl _ | exact Sub.loose _ _ _, Sub.refl _, trivial⟩))
 <| fun q1 => have p1 := bneF q1; .r 3 <| .br 22 (decide (n < 1)) (fun q2 => have p2 := decT q2; .r 1 <| .r 2 <| .is 32 (show (1 != 0) = true from rfl) <| .r 4 <| .fin (x := .tup [.sl 2 false (l.map entA), aI 1]) (r := .tup [.sl 2 false ((entL l s n).map entA), aI (entE l s n)]) [] trivial (by
    have e : entE l s n = 1 := by
      unfold entE
      rw [if_neg (by rw [q1]; decide)]
      rw [if_pos (by omega)]
    have e2 : entL l s n = l := if_neg (by omega)
    rw [e, e2]
    exact Sub.tups ⟨by first | exact Sub.refl _ | exact Sub.loose _ _ _, Sub.refl _, trivial⟩))
 <| fun q2 => have p2 := decF q2; .r 2 <| .br 25 (isB l s) (fun q3 => have p3 := booT q3; .r 1 <| .r 2 <| .is 32 (show (7 != 0) = true from rfl) <| .r 4 <| .fin (x := .tup [.sl 2 false (l.map entA), aI 7]) (r := .tup [.sl 2 false ((entL l s n).map entA), aI (entE l s n)]) [] trivial (by
    have e : entE l s n = 7 := by
      unfold entE
      rw [if_neg (by rw [q1]; decide)]
      rw [if_neg (by omega)]
      rw [if_pos q3]
    have e2 : entL l s n = l := if_neg (by omega)
    rw [e, e2]
    exact Sub.tups ⟨by first | exact Sub.refl _ | exact Sub.loose _ _ _, Sub.refl _, trivial⟩))
 <| fun q3 => have p3 := booF q3; .r 2 <| .val 29 (show (aI ((l.map entA).length : Int) : AV) = aI (l.length : Int) from by rw [List.length_map]) <| .r 2 <| .br 27 (decide ((l.length : Int) ≥ 256)) (fun q4 => have p4 := decT q4; .r 1 <| .r 2 <| .is 32 (show (12 != 0) = true from rfl) <| .r 4 <| .fin (x := .tup [.sl 2 false (l.map entA), aI 12]) (r := .tup [.sl 2 false ((entL l s n).map entA), aI (entE l s n)]) [] trivial (by
    have e : entE l s n = 12 := by
      unfold entE
      rw [if_neg (by rw [q1]; decide)]
      rw [if_neg (by omega)]
      rw [if_neg (by rw [q3]; decide)]
      rw [if_pos (by omega)]
    have e2 : entL l s n = l := if_neg (by omega)
    rw [e, e2]
    exact Sub.tups ⟨by first | exact Sub.refl _ | exact Sub.loose _ _ _, Sub.refl _, trivial⟩))
 <| fun q4 => have p4 := decF q4; .r 2 <| .is 32 (show (0 != 0) = false from rfl) <| .r 2 <| .val 36 (show (aI ((l.map entA).length : Int) : AV) = aI (l.length : Int) from by rw [List.length_map]) <| .run 1 [rng .i64 ((l.length : Int) + 1)] ⟨rng64 (by omega) (by omega), trivial⟩ <|
 .mk0 24 (l.length + 1) (show (l.length : Int) + 1 = ((l.length + 1 : Nat) : Int) from by omega) (by have hq := posI_le l s; simp <;> omega) (by have hq := posI_le l s; simp <;> omega) fun V1 =>
 .r 1 <| .r 3 <| .slc 2 false (l.map entA) none (some (posI l s : Int)) none 0 (posI l s) false (.inl ⟨rfl, rfl⟩) (.inr rfl) (.inl ⟨rfl, fun h => by cases h⟩) (by have hq := posI_le l s; first | omega | (rw [List.length_map]; omega) | (simp <;> omega)) (by have hq := posI_le l s; first | omega | (rw [List.length_map]; omega) | (simp <;> omega)) <|
 .app 24 V1 ([] : List (List AV)) (((l.map entA).take (posI l s)).drop 0) (by have hq := posI_le l s; simp <;> omega) (by have hq := posI_le l s; simp <;> omega) fun V2 =>
 .r 1 <| .r 5 <| .app 24 V2 (([] : List (List AV)) ++ (((l.map entA).take (posI l s)).drop 0)) ([[aS s, aI n]]) (by have hq := posI_le l s; simp <;> omega) (by have hq := posI_le l s; simp <;> omega) fun V3 =>
 .r 1 <| .r 3 <| .slc 2 false (l.map entA) (some (posI l s : Int)) none none (posI l s) ((l.map entA).length) false (.inr rfl) (.inl ⟨rfl, rfl⟩) (.inl ⟨rfl, fun h => by cases h⟩) (by have hq := posI_le l s; first | omega | (rw [List.length_map]; omega) | (simp <;> omega)) (by have hq := posI_le l s; first | omega | (rw [List.length_map]; omega) | (simp <;> omega)) <|
 .app 24 V3 ((([] : List (List AV)) ++ (((l.map entA).take (posI l s)).drop 0)) ++ ([[aS s, aI n]])) (((l.map entA).take ((l.map entA).length)).drop (posI l s)) (by have hq := posI_le l s; simp <;> omega) (by have hq := posI_le l s; simp <;> omega) fun V4 =>
 .r 2 <| .frz 38 [6, 7] [] [V4 = V4, ((([] : List (List AV)) ++ (((l.map entA).take (posI l s)).drop 0)) ++ ([[aS s, aI n]])).length + (((l.map entA).take ((l.map entA).length)).drop (posI l s)).length = (((([] : List (List AV)) ++ (((l.map entA).take (posI l s)).drop 0)) ++ ([[aS s, aI n]])) ++ (((l.map entA).take ((l.map entA).length)).drop (posI l s))).length] ⟨rfl, (by first | rfl | (simp; done) | (simp; omega)), trivial⟩ <|
 .fin (x := .tup [.sl 2 false (((([] : List (List AV)) ++ (((l.map entA).take (posI l s)).drop 0)) ++ ([[aS s, aI n]])) ++ (((l.map entA).take ((l.map entA).length)).drop (posI l s))), aI 0]) (r := .tup [.sl 2 false ((entL l s n).map entA), aI (entE l s n)]) [] trivial (by
    have e : entE l s n = 0 := by
      unfold entE
      rw [if_neg (by rw [q1]; decide)]
      rw [if_neg (by omega)]
      rw [if_neg (by rw [q3]; decide)]
      rw [if_neg (by omega)]
    have e2 : entL l s n = l.take (posI l s) ++ ⟨s, n⟩ :: l.drop (posI l s) := if_pos e
    rw [e, e2]
    exact Sub.tups ⟨Sub.of_eq (congrArg (AV.sl 2 false) (by simp [entA, List.map_take, List.map_drop, take_all])), Sub.refl _, trivial⟩)) Try.func60 rfl (by kernel_rfl) (by kernel_rfl)
end Go.Proofs.Ytkepkbgebickiaa

set_option linter.unusedVariables false
set_option linter.unusedSimpArgs false
namespace Go.Proofs.Ytkepkbgebickiaa
open Go Go.RowKit Copyhold
theorem put_rise {l : List Nod} {n : Nod} (hr : RiseN l) : RiseN (putN l n) := by
  have hc := hr.cut n.ino
  have e : putN l n = l.take (plN l n.ino) ++ n :: (l.drop (plN l n.ino)).filter (fun x => x.ino != n.ino) := by unfold putN; rw [drop_filter hr]
  rw [e]
  refine List.pairwise_append.2 ⟨List.Pairwise.sublist (List.take_sublist _ _) hr, List.pairwise_cons.2 ⟨fun x hx => ?_, List.Pairwise.filter _ (List.Pairwise.sublist (List.drop_sublist _ _) hr)⟩, fun x hx y hy => ?_⟩
  · obtain ⟨h1, h2⟩ := List.mem_filter.1 hx
    have h3 := hc.2 x h1
    have h4 : ¬ x.ino = n.ino := by simpa using h2
    show n.ino < x.ino
    omega
  · have h1 := hc.1 x hx
    rcases List.mem_cons.1 hy with rfl | hy
    · exact h1
    · have h3 := hc.2 y (List.mem_filter.1 hy).1
      show x.ino < y.ino
      omega
end Go.Proofs.Ytkepkbgebickiaa

set_option linter.unusedVariables false
set_option linter.unusedSimpArgs false
namespace Go.Proofs.Ytkepkbgebickiaa
open Go Go.RowKit Copyhold
def withL (n : Nod) (l : List Ent) : Nod := ⟨n.ino, n.kind, n.links, n.text, l⟩
noncomputable def enterF (f : Fsy) (d : Int) (s : Txt) (i : Int) : Fsy := putF f (withL (findN f d) (entL (findN f d).l s i))
theorem find_I64 {f : Fsy} (okf : OkF f) (hp : rowsP f) (i : Int) : I64 (findN f i).ino ∧ (findN f i).ino < 9223372036854775807 := by
  refine ⟨(findN_ok okf i).1, ?_⟩
  by_cases h : findB f i = true
  · have := ((rowsP_iff.1 hp).2.2.1 _ (find_mem h)).2
    have := okf.1.2
    omega
  · have h' : findB f i = false := by simpa using h
    unfold findN findB at *
    rw [List.find?_eq_none.2 fun x hx => by simpa using List.any_eq_false.1 h' x hx]
    decide
theorem find_srt {f : Fsy} (h : rowsP f) (i : Int) : Name.Srt (lI (findN f i).l) ∧ (findN f i).l.length ≤ 256 := by
  by_cases hb : findB f i = true
  · exact node_srt ((rowsP_iff.1 h).2.2.1 _ (find_mem hb)).1
  · have h' : findB f i = false := by simpa using hb
    unfold findN findB at *
    rw [List.find?_eq_none.2 fun x hx => by simpa using List.any_eq_false.1 h' x hx]
    exact ⟨List.Pairwise.nil, by decide⟩
set_option maxRecDepth 100000 in
set_option maxHeartbeats 4000000 in
theorem denter_spec (f : Fsy) (dir : Int) (s : Txt) (ino : Int) (okf : OkF f) (hp : rowsP f) (hs : s.length ≤ 1000000) (hi : I64 ino) : FSpec Try.prog 40 [.agg [.sl 5 false (f.l.map nodA), aI f.next], aI dir, aS s, aI ino] (.agg (fsyA (enterF f dir s ino))) := by
  have hl := hp.1
  have hr := rows_rise hp
  exact spec_vc (F := Try.f40) 400 (
 .new fun b1 => .new fun b2 => .run 2 [b1 = b1] ⟨rfl, trivial⟩ <|
 .call (tfind_spec f dir (by omega) hr) <|
 .r 3 <| .new fun b3 => .run 2 [b3 = b3] ⟨rfl, trivial⟩ <|
 .run 4 [b3 = b3] ⟨rfl, trivial⟩ <|
 .call (enter_spec ((findN f dir).l) s ino (find_srt hp dir).2 (find_srt hp dir).1 (by omega) hi) <|
 .run 5 [b3 = b3] ⟨rfl, trivial⟩ <|
 .run 2 [b1 = b1, b3 = b3] ⟨rfl, rfl, trivial⟩ <|
 .callS (args0 := [.agg [.sl 5 false (f.l.map nodA), aI f.next], .agg [aI ((findN f dir).ino), aI ((findN f dir).kind), aI ((findN f dir).links), aS ((findN f dir).text), .sl 2 false ((entL ((findN f dir).l) s ino).map entA)]]) (args := [.agg [.sl 5 false (f.l.map nodA), aI f.next], .agg [aI ((withL (findN f dir) (entL (findN f dir).l s ino)).ino), aI ((withL (findN f dir) (entL (findN f dir).l s ino)).kind), aI ((withL (findN f dir) (entL (findN f dir).l s ino)).links), aS ((withL (findN f dir) (entL (findN f dir).l s ino)).text), .sl 2 false ((withL (findN f dir) (entL (findN f dir).l s ino)).l.map entA)]]) ⟨Sub.refl _, Sub.refl _, trivial⟩ (put_spec f (withL (findN f dir) (entL (findN f dir).l s ino)) (find_I64 okf hp dir) (by omega) hr) <|
 .run 1 [b2 = b2] ⟨rfl, trivial⟩ <|
 .fin (x := .agg [.sl 5 false ((putF f (withL (findN f dir) (entL (findN f dir).l s ino))).l.map nodA), aI ((putF f (withL (findN f dir) (entL (findN f dir).l s ino))).next)]) (r := .agg (fsyA (enterF f dir s ino))) [b2 = b2] ⟨rfl, trivial⟩ (by exact Sub.refl _)) Try.func40 rfl (by kernel_rfl) (by kernel_rfl)
theorem enter_le (f : Fsy) (d : Int) (s : Txt) (i : Int) : (enterF f d s i).l.length ≤ f.l.length + 1 := putN_le _ _
theorem enter_rise {f : Fsy} (h : rowsP f) (d : Int) (s : Txt) (i : Int) : RiseN (enterF f d s i).l := put_rise (rows_rise h)
noncomputable def addF (f : Fsy) (d : Int) (s : Txt) (n : Nod) : Fsy := putF (enterF f d s n.ino) (withL n [])
set_option maxRecDepth 100000 in
set_option maxHeartbeats 4000000 in
theorem add1_spec (f : Fsy) (dir : Int) (s : Txt) (n : Nod) (b : Nat) (okf : OkF f) (hp : rowsP f) (hs : s.length ≤ 1000000) (hn : I64 n.ino ∧ n.ino < 9223372036854775807) : LSpec Try.prog 38 [.ptr 7 b 0, .dptr [.sl 5 false (f.l.map nodA), aI f.next], .dptr [aI dir], .dptr [aS s]] (.box b 31 [aI n.ino, aI n.kind, aI n.links, aS n.text, .sl 2 false (n.l.map entA)]) (.agg (fsyA (addF f dir s n))) := by
  have hl := hp.1
  have hr := rows_rise hp
  exact lspec_vc (q := 7) (F := Try.f38) 400 (
 .new fun b1 => .run 2 [b = b] ⟨rfl, trivial⟩ <|
 .ord [0, 1, 2, 3, 4, 6, 5, 7, 8] <| .run 6 [b = b, b = b] ⟨rfl, rfl, trivial⟩ <|
 .call (denter_spec f dir s n.ino okf hp (by omega) hn.1) <|
 .callS (args0 := [.agg [.sl 5 false ((enterF f dir s n.ino).l.map nodA), aI ((enterF f dir s n.ino).next)], .agg [aI n.ino, aI n.kind, aI n.links, aS n.text, aN]]) (args := [.agg [.sl 5 false ((enterF f dir s n.ino).l.map nodA), aI ((enterF f dir s n.ino).next)], .agg [aI ((withL n []).ino), aI ((withL n []).kind), aI ((withL n []).links), aS ((withL n []).text), .sl 2 false ((withL n []).l.map entA)]]) ⟨Sub.refl _, Sub.aggs ⟨Sub.refl _, Sub.refl _, Sub.refl _, Sub.refl _, Sub.nil _ _, trivial⟩, trivial⟩ (put_spec (enterF f dir s n.ino) (withL n []) hn (by have := enter_le f dir s n.ino; omega) (enter_rise hp dir s n.ino)) <|
 .run 1 [b1 = b1] ⟨rfl, trivial⟩ <|
 .fin (x := .agg [.sl 5 false ((putF (enterF f dir s n.ino) (withL n [])).l.map nodA), aI ((putF (enterF f dir s n.ino) (withL n [])).next)]) (r := .agg (fsyA (addF f dir s n))) [b1 = b1] ⟨rfl, trivial⟩ (by exact Sub.refl _)) Try.func38 rfl (by kernel_rfl) (by kernel_rfl)
set_option maxRecDepth 100000 in
set_option maxHeartbeats 4000000 in
theorem unless1_spec (e : Int) (f : Fsy) (dir : Int) (s : Txt) (n : Nod) (b : Nat) (okf : OkF f) (hp : rowsP f) (hs : s.length ≤ 1000000) (hn : I64 n.ino ∧ n.ino < 9223372036854775807) : LSpec Try.prog 37 [.agg [.sl 5 false (f.l.map nodA), aI f.next], aI e, .clo 38 [.ptr 7 b 0, .dptr [.sl 5 false (f.l.map nodA), aI f.next], .dptr [aI dir], .dptr [aS s]]] (.box b 31 [aI n.ino, aI n.kind, aI n.links, aS n.text, .sl 2 false (n.l.map entA)]) (.tup [.agg (fsyA (if e = 0 then addF f dir s n else f)), aI e]) := by
  exact lspec_vc (q := 7) (F := Try.f37) 400 (
 .new fun b1 => .new fun b2 => .r 1 <| .r 2 <| .br 9 (e != 0) (fun q1 => have p1 := bneT q1; .run 4 [b1 = b1, b2 = b2] ⟨rfl, rfl, trivial⟩ <|
 .fin (x := .tup [.agg [.sl 5 false (f.l.map nodA), aI f.next], aI e]) (r := .tup [.agg (fsyA (if e = 0 then addF f dir s n else f)), aI e]) [b2 = b2] ⟨rfl, trivial⟩ (by
    rw [if_neg (show ¬ e = 0 from by omega)]
    exact Sub.refl _))
 <| fun q1 => have p1 := bneF q1; .lent 1 <| .r 1 <| .lop (lcR Try.prog 7) ((38, [.ptr 7 b 0, .dptr [.sl 5 false (f.l.map nodA), aI f.next], .dptr [aI dir], .dptr [aS s]], some 13), .box b 31 [aI n.ino, aI n.kind, aI n.links, aS n.text, .sl 2 false (n.l.map entA)]) (fun (_ : Unit) σ => (σ.put (some 13) (.agg [.sl 5 false ((addF f dir s n).l.map nodA), aI ((addF f dir s n).next)])).setB 7 gone) (rule_lent (args' := [.ptr 7 b 0, .dptr [.sl 5 false (f.l.map nodA), aI f.next], .dptr [aI dir], .dptr [aS s]]) ⟨Sub.refl _, Sub.refl _, Sub.refl _, Sub.refl _, trivial⟩ (add1_spec f dir s n b okf hp hs hn)) fun _ =>
 .run 2 [b2 = b2] ⟨rfl, trivial⟩ <|
 .fin (x := .tup [.agg [.sl 5 false ((addF f dir s n).l.map nodA), aI ((addF f dir s n).next)], aI 0]) (r := .tup [.agg (fsyA (if e = 0 then addF f dir s n else f)), aI e]) [b2 = b2] ⟨rfl, trivial⟩ (by
    rw [if_pos (show e = 0 from by omega), show e = 0 from by omega]
    exact Sub.refl _)) Try.func37 rfl (by kernel_rfl) (by kernel_rfl)
end Go.Proofs.Ytkepkbgebickiaa
