/- A new tree; the examples. What is put in, and taken out, is found so: the mathematics. What lies below a directory: the mathematics. tree.reach: a closure that calls itself. tree.reach, tree.Below. -/
import Derived.Test.YtgcjfhgkkgocpaaMrgK
import Derived.Test.YtgcjfhgkkgocpaaMrgL
set_option linter.unusedVariables false
set_option linter.unusedSimpArgs false
namespace Go.Proofs.Ytgcjfhgkkgocpaa
open Go Go.RowKit Copyhold
def rootN : Nod := ⟨1, 2, 0, [], []⟩
def newF : Fsy := ⟨[rootN], 2⟩
theorem sl1_of {k : Nat} {t : Bool} {e e' : List AV} (h : SubAll e e') : Sub (.sl k t [e]) (.sl k false [e']) :=
  (Sub.sl2 (t := t) (xs := [e]) (ys := [e']) rfl (fun i a b ha hb => by
    match i, ha, hb with
    | 0, ha, hb => simp at ha hb; rw [← ha, ← hb]; exact h
    | i + 1, ha, _ => simp at ha)).trans (Sub.loose _ _ _)
theorem rootN_ok : OkN rootN := ⟨⟨by decide, by decide⟩, ⟨by decide, by decide⟩, ⟨by decide, by decide⟩, by show (0 : Nat) ≤ _; omega, by show (0 : Nat) ≤ _; omega, fun e h => by cases h⟩
theorem newF_ok : OkF newF := ⟨⟨by decide, by decide⟩, by show (1 : Nat) ≤ _; omega, fun n h => by obtain rfl := List.mem_singleton.1 h; exact rootN_ok⟩
theorem newF_rise : RiseN newF.l := by simp [newF, RiseN, RiseF]
theorem newF_rows : rowsP newF := rowsP_iff.2 ⟨by decide, by decide, fun n h => by
  obtain rfl := List.mem_singleton.1 h
  exact ⟨⟨by decide, by decide, by decide, .inl ⟨rfl, rfl, rowP_nil⟩⟩, by decide⟩, newF_rise⟩
theorem newF_at {k : Nat} {x : Nod} (h : newF.l[k]? = some x) : x = rootN := by
  have := List.mem_of_getElem? h
  exact List.mem_singleton.1 this
theorem newF_len : newF.l.length = 1 := rfl
set_option maxRecDepth 100000 in
set_option maxHeartbeats 4000000 in
theorem tnew_spec  : FSpec Try.prog 26 [] (.agg (fsyA newF)) := by
  exact spec_vc (F := Try.f26) 400 (
 .new fun b1 => .run 4 [b1 = b1] ⟨rfl, trivial⟩ <|
 .fin (x := .agg [.sl 5 true ([[aI 1, aI 2, aI 0, aS ([]), aN]]), aI 2]) (r := .agg (fsyA newF)) [b1 = b1] ⟨rfl, trivial⟩ (by exact Sub.aggs ⟨sl1_of ⟨Sub.refl _, Sub.refl _, Sub.refl _, Sub.refl _, Sub.nil _ _, trivial⟩, Sub.refl _, trivial⟩)) Try.func26 rfl (by kernel_rfl) (by kernel_rfl)
set_option maxRecDepth 100000 in
set_option maxHeartbeats 4000000 in
theorem count0_spec  : FSpec Try.prog 42 [.agg [.sl 5 false (newF.l.map nodA), aI newF.next]] (.mp []) := by
  have hnl := newF_len
  exact spec_vc (F := Try.f42) 400 (
 .new fun b1 => .r 1 <| .mkMap fun r2 => .r 1 <| .run 3 [b1 = b1] ⟨rfl, trivial⟩ <|
 .val 11 (show (aI ((newF.l.map nodA).length : Int) : AV) = aI (newF.l.length : Int) from by rw [List.length_map]) <| .r 1 <| let L1 : Lp (Nat) := ⟨fun a1 => ⟨[(3, .mref 8 r2), (10, .sl 5 false (newF.l.map nodA)), (11, aI (newF.l.length : Int)), (12, aI (a1 : Int))], [(8, .mp r2 [])]⟩, fun a1 => newF.l.length - a1, fun a1 => a1 ≤ newF.l.length⟩
 .loop L1 0 (show 0 ≤ newF.l.length from Nat.zero_le _) ⟨[(3, .mref 8 r2), (10, .sl 5 false (newF.l.map nodA)), (11, aI (newF.l.length : Int)), (12, aI 0)], [(8, .mp r2 [])]⟩ ⟨Sub.refl _, Sub.refl _, Sub.refl _, Sub.of_eq (congrArg aI (by first | omega | rfl)), trivial⟩ ⟨⟨_, rfl, SubB.refl _⟩, trivial⟩ fun a1 ha1 =>
 (fun (k : Nat) (hH1 : k ≤ newF.l.length) => .r 1 <| .br 13 (decide ((k : Int) < (newF.l.length : Int))) (fun q1 => have p1 := decT q1; .idxM newF.l nodA k (m := (k : Int)) rfl (by omega) fun x1 hx1 =>
 .r 1 <| .new fun b3 => .run 1 [b3 = b3] ⟨rfl, trivial⟩ <|
 .run 3 [b3 = b3] ⟨rfl, trivial⟩ <|
 .is 18 (show (x1.kind != 2) = false from (by rw [newF_at hx1]; rfl)) <| .run 3 [b3 = b3] ⟨rfl, trivial⟩ <|
 .val 21 (show (aI ((x1.l.map entA).length : Int) : AV) = aI (x1.l.length : Int) from by rw [List.length_map]) <| .r 1 <| let L2 : Lp (Nat) := ⟨fun a2 => ⟨[(3, .mref 8 r2), (10, .sl 5 false (newF.l.map nodA)), (11, aI (newF.l.length : Int)), (12, aI (k : Int)), (20, .sl 2 false (x1.l.map entA)), (21, aI (x1.l.length : Int)), (22, aI (a2 : Int))], [(8, .mp r2 [])]⟩, fun a2 => 0 - a2, fun a2 => 0 ≤ a2⟩
 .loop L2 0 (show 0 ≤ 0 from Nat.zero_le _) ⟨[(3, .mref 8 r2), (10, .sl 5 false (newF.l.map nodA)), (11, aI (newF.l.length : Int)), (12, aI (k : Int)), (20, .sl 2 false (x1.l.map entA)), (21, aI (x1.l.length : Int)), (22, aI 0)], [(8, .mp r2 [])]⟩ ⟨Sub.refl _, Sub.refl _, Sub.refl _, Sub.refl _, Sub.refl _, Sub.refl _, Sub.of_eq (congrArg aI (by first | omega | rfl)), trivial⟩ ⟨⟨_, rfl, SubB.refl _⟩, trivial⟩ fun a2 ha2 =>
 (fun (j : Nat) (hH2 : 0 ≤ j) => .r 1 <| .is 23 (show (decide ((j : Int) < (x1.l.length : Int))) = false from (decide_eq_false (by rw [newF_at hx1]; show ¬ (_ : Int) < ((0 : Nat) : Int); omega))) <| .run 2 [rng .i64 ((k : Int) + 1)] ⟨rng64 (by omega) (by omega), trivial⟩ <|
 .back L1 k (k + 1) (show (k + 1) ≤ newF.l.length from (by show _ ≤ _; omega)) (show newF.l.length - (k + 1) < newF.l.length - k from (by omega)) ⟨[(3, .mref 8 r2), (10, .sl 5 false (newF.l.map nodA)), (11, aI (newF.l.length : Int)), (12, aI ((k : Int) + 1))], [(8, .mp r2 [])]⟩ ⟨Sub.refl _, Sub.refl _, Sub.refl _, Sub.of_eq (congrArg aI (by first | omega | rfl)), trivial⟩ ⟨⟨_, rfl, SubB.refl _⟩, trivial⟩) a2 ha2)
 <| fun q1 => have p1 := decF q1; .r 2 <| .frz 8 [2] [] [r2 = r2] ⟨rfl, trivial⟩ <|
 .fin (x := .mp []) (r := .mp []) [] trivial (by exact Sub.refl _)) a1 ha1) Try.func42 rfl (by kernel_rfl) (by kernel_rfl)
set_option maxRecDepth 100000 in
set_option maxHeartbeats 4000000 in
theorem names0_spec  : FSpec Try.prog 25 [.agg [.sl 5 false (newF.l.map nodA), aI newF.next], aI 1] (aI 0) := by
  exact spec_vc (F := Try.f25) 400 (
 .new fun b1 => .r 1 <| .run 1 [b1 = b1] ⟨rfl, trivial⟩ <|
 .call (count0_spec) <|
 .r 1 <| .look (kk := .i 1) (es := []) (fd := none) rfl <| .r 1 <| .fin (x := aI 0) (r := aI 0) [] trivial (by exact Sub.refl _)) Try.func25 rfl (by kernel_rfl) (by kernel_rfl)
set_option maxRecDepth 100000 in
set_option maxHeartbeats 4000000 in
theorem reach1_spec  : FSpec Try.prog 62 [aI 1, .dptr [.sl 5 false (newF.l.map nodA), aI newF.next], .any, .any] (.tup []) := by
  exact spec_vc (F := Try.f62) 400 (
 .r 2 <| .call (tfind_spec newF 1 (by decide) newF_rise) <|
 .r 3 <| .new fun b1 => .run 2 [b1 = b1] ⟨rfl, trivial⟩ <|
 .run 7 [b1 = b1] ⟨rfl, trivial⟩ <|
 .is 23 (show (rootN.kind != 2) = false from rfl) <| .run 3 [b1 = b1] ⟨rfl, trivial⟩ <|
 .val 26 (show (aI ((rootN.l.map entA).length : Int) : AV) = aI (rootN.l.length : Int) from by rw [List.length_map]) <| .r 1 <| let L1 : Lp (Nat) := ⟨fun a1 => ⟨[(25, .sl 2 false (rootN.l.map entA)), (26, aI (rootN.l.length : Int)), (27, aI (a1 : Int))], []⟩, fun a1 => 0 - a1, fun a1 => 0 ≤ a1⟩
 .loop L1 0 (show 0 ≤ 0 from Nat.zero_le _) ⟨[(25, .sl 2 false (rootN.l.map entA)), (26, aI (rootN.l.length : Int)), (27, aI 0)], []⟩ ⟨Sub.refl _, Sub.refl _, Sub.of_eq (congrArg aI (by first | omega | rfl)), trivial⟩ trivial fun a1 ha1 =>
 (fun (j : Nat) (hH1 : 0 ≤ j) => .r 1 <| .is 28 (show (decide ((j : Int) < (rootN.l.length : Int))) = false from (decide_eq_false (by show ¬ (_ : Int) < ((0 : Nat) : Int); omega))) <| .fin (x := .tup []) (r := .tup []) [] trivial (by exact Sub.refl _)) a1 ha1) Try.func62 rfl (by kernel_rfl) (by kernel_rfl)
set_option maxRecDepth 100000 in
set_option maxHeartbeats 4000000 in
theorem reach0_spec  : FSpec Try.prog 43 [.agg [.sl 5 false (newF.l.map nodA), aI newF.next], aI 1] (.mp []) := by
  exact spec_vc (F := Try.f43) 400 (
 .new fun b1 => .r 1 <| .mkMap fun r2 => .new fun b3 => .run 1 [b3 = b3] ⟨rfl, trivial⟩ <|
 .new fun b4 => .run 2 [b4 = b4] ⟨rfl, trivial⟩ <|
 .frz 2 [1, 4, 5, 6] [7, 5, 6] [b1 = b1] ⟨rfl, trivial⟩ <|
 .run 2 [b4 = b4] ⟨rfl, trivial⟩ <|
 .callS (args0 := [aI 1, .dptr [.sl 5 false (newF.l.map nodA), aI newF.next], .ptr 5 b3 0, .ptr 6 b4 0]) (args := [aI 1, .dptr [.sl 5 false (newF.l.map nodA), aI newF.next], .any, .any]) ⟨Sub.refl _, Sub.refl _, Sub.any _, Sub.any _, trivial⟩ (reach1_spec) <|
 .run 2 [b3 = b3] ⟨rfl, trivial⟩ <|
 .frz 7 [4] [] [r2 = r2] ⟨rfl, trivial⟩ <|
 .fin (x := .mp []) (r := .mp []) [] trivial (by exact Sub.refl _)) Try.func43 rfl (by kernel_rfl) (by kernel_rfl)
set_option maxRecDepth 100000 in
set_option maxHeartbeats 4000000 in
theorem below0_spec  : FSpec Try.prog 24 [.agg [.sl 5 false (newF.l.map nodA), aI newF.next], aI 1, aI 1] (aB false) := by
  exact spec_vc (F := Try.f24) 400 (
 .new fun b1 => .r 1 <| .run 2 [b1 = b1] ⟨rfl, trivial⟩ <|
 .call (reach0_spec) <|
 .r 1 <| .look (kk := .i 1) (es := []) (fd := none) rfl <| .r 3 <| .new fun b2 => .run 2 [b2 = b2] ⟨rfl, trivial⟩ <|
 .r 2 <| .fin (x := aB false) (r := aB false) [] trivial (by exact Sub.refl _)) Try.func24 rfl (by kernel_rfl) (by kernel_rfl)
set_option maxRecDepth 100000 in
set_option maxHeartbeats 4000000 in
theorem right0_spec  : FSpec Try.prog 23 [.agg [.sl 5 false (newF.l.map nodA), aI newF.next]] (aB true) := by
  exact spec_vc (F := Try.f23) 400 (
 .new fun b1 => .r 1 <| .run 1 [b1 = b1] ⟨rfl, trivial⟩ <|
 .call (rows_spec newF newF_ok) <|
 .r 2 <| .is 16 (show (!(dP (rowsP newF))) = false from (by rw [show (dP (rowsP newF)) = true from (dP_true.2 newF_rows)]; rfl)) <| .run 3 [b1 = b1] ⟨rfl, trivial⟩ <|
 .val 19 (show (aI ((newF.l.map nodA).length : Int) : AV) = aI (newF.l.length : Int) from by rw [List.length_map]) <| .r 2 <| .is 21 (show ((newF.l.length : Int) == 0) = false from rfl) <| .run 2 [b1 = b1] ⟨rfl, trivial⟩ <|
 .idxM newF.l nodA 0 (m := 0) rfl (by rw [newF_len]; omega) fun x1 hx1 =>
 .r 1 <| .new fun b2 => .run 1 [b2 = b2] ⟨rfl, trivial⟩ <|
 .run 4 [b2 = b2] ⟨rfl, trivial⟩ <|
 .is 29 (show (x1.ino != 1) = false from (by rw [newF_at hx1]; rfl)) <| .run 5 [b2 = b2] ⟨rfl, trivial⟩ <|
 .is 34 (show (x1.kind != 2) = false from (by rw [newF_at hx1]; rfl)) <| .run 4 [b2 = b2] ⟨rfl, trivial⟩ <|
 .is 38 (show (x1.links != 0) = false from (by rw [newF_at hx1]; rfl)) <| .run 1 [b1 = b1] ⟨rfl, trivial⟩ <|
 .call (count0_spec) <|
 .r 1 <| .via 101 (seqN 5 (Try.f23.body.getD .skip)) (seqN 6 (Try.f23.body.getD .skip)) (rnR 4) () (fun (_ : Unit) σ => (((σ.put (some 41) .any).put (some 42) .any).put (some 43) .any).put (some 44) .any) (rule_rngNil (m := 4) (x := 41) (it := 42) (nx := 43) (t := 44) (kt := 3) (et := 3) (Y := seqN 6 (Try.f23.body.getD .skip)) rfl ⟨rfl, rfl, rfl⟩ ⟨rfl, rfl, rfl⟩ (by kernel_rfl) ⟨rfl, rfl, rfl⟩ ⟨rfl, rfl, rfl⟩ (by decide)) fun _ =>
 .run 1 [b1 = b1] ⟨rfl, trivial⟩ <|
 .call (reach0_spec) <|
 .r 1 <| .run 2 [b1 = b1] ⟨rfl, trivial⟩ <|
 .slc 5 false (newF.l.map nodA) (some 1) none none 1 ((newF.l.map nodA).length) false (.inr rfl) (.inl ⟨rfl, rfl⟩) (.inl ⟨rfl, fun h => by cases h⟩) (by simp [newF]) (by simp [newF]) <|
 .r 2 <| let L1 : Lp (Nat) := ⟨fun a1 => ⟨[(4, .mp []), (8, .mp []), (63, .sl 5 false (((newF.l.map nodA).take ((newF.l.map nodA).length)).drop 1)), (64, aI ((((newF.l.map nodA).take ((newF.l.map nodA).length)).drop 1).length : Int)), (65, aI (a1 : Int))], []⟩, fun a1 => 0 - a1, fun a1 => 0 ≤ a1⟩
 .loop L1 0 (show 0 ≤ 0 from Nat.zero_le _) ⟨[(4, .mp []), (8, .mp []), (63, .sl 5 false (((newF.l.map nodA).take ((newF.l.map nodA).length)).drop 1)), (64, aI ((((newF.l.map nodA).take ((newF.l.map nodA).length)).drop 1).length : Int)), (65, aI 0)], []⟩ ⟨Sub.refl _, Sub.refl _, Sub.refl _, Sub.refl _, Sub.of_eq (congrArg aI (by first | omega | rfl)), trivial⟩ trivial fun a1 ha1 =>
 (fun (j : Nat) (hH1 : 0 ≤ j) => .r 1 <| .is 66 (show (decide ((j : Int) < ((((newF.l.map nodA).take ((newF.l.map nodA).length)).drop 1).length : Int))) = false from (decide_eq_false (by first | (simp [newF]; done) | (simp [newF]; omega)))) <| .r 1 <| .fin (x := aB true) (r := aB true) [] trivial (by exact Sub.refl _)) a1 ha1) Try.func23 rfl (by kernel_rfl) (by kernel_rfl)
set_option maxRecDepth 100000 in
set_option maxHeartbeats 4000000 in
theorem shown_spec  : FSpec Try.prog 9 [] (aB true) := by
  exact spec_vc (F := Try.f9) 400 (
 .r 1 <| .call (tnew_spec) <|
 .new fun b1 => .run 1 [b1 = b1] ⟨rfl, trivial⟩ <|
 .run 3 [b1 = b1] ⟨rfl, trivial⟩ <|
 .val 5 (show (aI ((newF.l.map nodA).length : Int) : AV) = aI (newF.l.length : Int) from by rw [List.length_map]) <| .r 2 <| .is 7 (show ((newF.l.length : Int) == 1) = true from (by rfl)) <| .run 5 [b1 = b1] ⟨rfl, trivial⟩ <|
 .is 12 (show (newF.next == 2) = true from (by rfl)) <| .run 1 [b1 = b1] ⟨rfl, trivial⟩ <|
 .call (names0_spec) <|
 .r 3 <| .is 17 (show (0 == 0) = true from rfl) <| .run 1 [b1 = b1] ⟨rfl, trivial⟩ <|
 .call (below0_spec) <|
 .run 4 [b1 = b1] ⟨rfl, trivial⟩ <|
 .call (right0_spec) <|
 .r 2 <| .fin (x := aB true) (r := aB true) [] trivial (by exact Sub.of_eq (by first | rfl | simp))) Try.func9 rfl (by kernel_rfl) (by kernel_rfl)
end Go.Proofs.Ytgcjfhgkkgocpaa

set_option linter.unusedVariables false
set_option linter.unusedSimpArgs false
namespace Go.Proofs.Ytgcjfhgkkgocpaa
open Go Go.RowKit Copyhold
theorem find_unique {l : List Nod} {i : Int} {x : Nod} (hr : RiseN l) (hx : x ∈ l) (hi : x.ino = i) : l.find? (isNo i) = some x := by
  cases h : l.find? (isNo i) with
  | none => exact absurd (List.find?_eq_none.1 h x hx) (by simp [isNo, hi])
  | some y =>
    have hy := List.mem_of_find?_eq_some h
    have hp : (y.ino == i) = true := List.find?_some (p := isNo i) h
    obtain ⟨j, hj⟩ := List.getElem?_of_mem hx
    obtain ⟨k, hk⟩ := List.getElem?_of_mem hy
    have h3 := List.pairwise_iff_getElem.1 hr
    have l1 := lt_of_some hj
    have l2 := lt_of_some hk
    have e1 : l[j] = x := Option.some.inj ((List.getElem?_eq_getElem l1).symm.trans hj)
    have e2 : l[k] = y := Option.some.inj ((List.getElem?_eq_getElem l2).symm.trans hk)
    have hyi : y.ino = i := by simpa using hp
    rcases Nat.lt_trichotomy j k with hlt | rfl | hlt
    · have := h3 j k l1 l2 hlt; rw [e1, e2] at this; omega
    · rw [← e1, ← e2]
    · have := h3 k j l2 l1 hlt; rw [e1, e2] at this; omega
theorem findBN (f : Fsy) (j : Int) : findB f j = (f.l.find? (isNo j)).isSome := by
  unfold findB
  induction f.l with
  | nil => rfl
  | cons n r ih =>
    simp only [List.any_cons, List.find?_cons]
    cases h : isNo j n <;> simp [ih]
end Go.Proofs.Ytgcjfhgkkgocpaa

set_option linter.unusedVariables false
set_option linter.unusedSimpArgs false
namespace Go.Proofs.Ytgcjfhgkkgocpaa
open Go Go.RowKit Copyhold
def kidsF (f : Fsy) (i : Int) : List Int := if (findN f i).kind = 2 then (findN f i).l.map Ent.ino else []
theorem kids_ent {f : Fsy} {i z : Int} (h : z ∈ kidsF f i) : z ∈ inosF f := by
  unfold kidsF at h
  split at h
  · obtain ⟨e, he, rfl⟩ := List.mem_map.1 h
    exact find_ent he
  · cases h
def dfsF (f : Fsy) : Nat → Int → List Int → List Int
  | 0, _, U => U
  | n + 1, i, U => (kidsF f i).foldl (fun U z => if hasB U z = true then U else dfsF f n z (U ++ [z])) U
def upK (f : Fsy) (n : Nat) (i : Int) (U : List Int) (k : Nat) : List Int := ((kidsF f i).take k).foldl (fun U z => if hasB U z = true then U else dfsF f n z (U ++ [z])) U
theorem upK_yes {f : Fsy} {n : Nat} {i z : Int} {U : List Int} {k : Nat} (hz : (kidsF f i)[k]? = some z) (h : hasB (upK f n i U k) z = true) : upK f n i U (k + 1) = upK f n i U k := by
  unfold upK at h ⊢
  rw [take_step hz, List.foldl_append, List.foldl_cons, List.foldl_nil, if_pos h]
theorem upK_no {f : Fsy} {n : Nat} {i z : Int} {U : List Int} {k : Nat} (hz : (kidsF f i)[k]? = some z) (h : hasB (upK f n i U k) z = false) : upK f n i U (k + 1) = dfsF f n z (upK f n i U k ++ [z]) := by
  unfold upK at h ⊢
  rw [take_step hz, List.foldl_append, List.foldl_cons, List.foldl_nil, if_neg (by rw [h]; decide)]
theorem upK_all {f : Fsy} {n : Nat} {i : Int} {U : List Int} {k : Nat} (hk : (kidsF f i).length ≤ k) : upK f n i U k = dfsF f (n + 1) i U := by unfold upK; rw [take_all hk]; rfl
theorem kids_at {f : Fsy} {i : Int} {k : Nat} {x : Ent} (hk : (findN f i).kind = 2) (h : (findN f i).l[k]? = some x) : (kidsF f i)[k]? = some x.ino := by
  unfold kidsF
  rw [if_pos hk, List.getElem?_map, h]; rfl
theorem kids_len {f : Fsy} {i : Int} (hk : (findN f i).kind = 2) : (kidsF f i).length = (findN f i).l.length := by
  unfold kidsF
  rw [if_pos hk, List.length_map]
theorem kids_no {f : Fsy} {i : Int} (h : ¬ (findN f i).kind = 2) : kidsF f i = [] := if_neg h
theorem dfs_no {f : Fsy} {n : Nat} {i : Int} {U : List Int} (h : ¬ (findN f i).kind = 2) : dfsF f n i U = U := by
  cases n with
  | zero => rfl
  | succ n => show (kidsF f i).foldl _ U = U; rw [kids_no h]; rfl
theorem find_kind {f : Fsy} {i : Int} (h : findB f i = false) : ¬ (findN f i).kind = 2 := by
  unfold findB at h
  unfold findN
  rw [List.find?_eq_none.2 fun x hx => by simpa using List.any_eq_false.1 h x hx]
  decide
def remF (f : Fsy) (U : List Int) : Nat := (inosF f).countP fun z => !hasB U z
theorem hasB_app {U : List Int} {x z : Int} : hasB (U ++ [x]) z = (hasB U z || x == z) := by unfold hasB; simp
theorem count_le {α : Type} {p q : α → Bool} : ∀ {l : List α}, (∀ x ∈ l, p x = true → q x = true) → l.countP p ≤ l.countP q
  | [], _ => Nat.le_refl _
  | x :: r, h => by
    have ih := count_le (l := r) fun y hy => h y (by simp [hy])
    rw [List.countP_cons, List.countP_cons]
    have := h x (by simp)
    cases hp : p x <;> cases hq : q x <;> simp_all <;> omega
theorem count_lt {α : Type} {p q : α → Bool} : ∀ {l : List α} {z : α}, (∀ x ∈ l, p x = true → q x = true) → z ∈ l → p z = false → q z = true → l.countP p < l.countP q
  | x :: r, z, h, hz, h1, h2 => by
    rw [List.countP_cons, List.countP_cons]
    have hx := h x (by simp)
    rcases List.mem_cons.1 hz with e | hz
    · rw [← e, h1, h2]
      have := count_le (l := r) fun y hy => h y (by simp [hy])
      simp
      omega
    · have ih := count_lt (l := r) (fun y hy => h y (by simp [hy])) hz h1 h2
      cases hp : p x <;> cases hq : q x <;> simp_all <;> omega
theorem rem_mono {f : Fsy} {U V : List Int} (h : ∀ z, hasB U z = true → hasB V z = true) : remF f V ≤ remF f U := by
  refine count_le fun x _ hx => ?_
  cases hu : hasB U x with
  | false => rfl
  | true => rw [h x hu] at hx; cases hx
theorem rem_add {f : Fsy} {U : List Int} {z : Int} (hz : z ∈ inosF f) (h : hasB U z = false) : remF f (U ++ [z]) < remF f U := by
  refine count_lt (z := z) (fun x _ hx => ?_) hz (by rw [hasB_app]; simp) (by rw [h]; rfl)
  rw [hasB_app] at hx
  simp only [Bool.not_eq_true', Bool.or_eq_false_iff] at hx
  rw [hx.1]; rfl
theorem dfs_mono {f : Fsy} : ∀ (n : Nat) (i : Int) (U : List Int) (z : Int), hasB U z = true → hasB (dfsF f n i U) z = true
  | 0, _, _, _, h => h
  | n + 1, i, U, z, h => by
    show hasB ((kidsF f i).foldl _ U) z = true
    generalize kidsF f i = l
    induction l generalizing U with
    | nil => exact h
    | cons x r ih =>
      rw [List.foldl_cons]
      refine ih _ ?_
      split
      · exact h
      · exact dfs_mono n x _ z (by rw [hasB_app, h]; rfl)
theorem rem_dfs {f : Fsy} {n : Nat} {i : Int} {U : List Int} : remF f (dfsF f n i U) ≤ remF f U := rem_mono fun z h => dfs_mono n i U z h
inductive Reach (f : Fsy) : Int → Int → Prop where
  | one {i z : Int} : z ∈ kidsF f i → Reach f i z
  | more {i y z : Int} : y ∈ kidsF f i → Reach f y z → Reach f i z
theorem Reach.trans {f : Fsy} {a b c : Int} (h : Reach f a b) (h2 : Reach f b c) : Reach f a c := by
  induction h with
  | one h => exact .more h h2
  | more h _ ih => exact .more h (ih h2)
theorem Reach.snoc {f : Fsy} {a b c : Int} (h : Reach f a b) (h2 : c ∈ kidsF f b) : Reach f a c := h.trans (.one h2)
def Closed (f : Fsy) (U V : List Int) : Prop := ∀ z, hasB V z = true → hasB U z = false → ∀ y ∈ kidsF f z, hasB V y = true
theorem dfs_closed {f : Fsy} : ∀ (n : Nat) (i : Int) (U : List Int), remF f U < n →
    (∀ y ∈ kidsF f i, hasB (dfsF f n i U) y = true) ∧ Closed f U (dfsF f n i U) ∧ ∀ z, hasB (dfsF f n i U) z = true → hasB U z = true ∨ Reach f i z
  | 0, _, _, h => absurd h (Nat.not_lt_zero _)
  | n + 1, i, U, h => by
    have key : ∀ (l : List Int), (∀ y ∈ l, y ∈ kidsF f i) → ∀ (V : List Int), (∀ z, hasB U z = true → hasB V z = true) → Closed f U V → (∀ z, hasB V z = true → hasB U z = true ∨ Reach f i z) →
        let W := l.foldl (fun U z => if hasB U z = true then U else dfsF f n z (U ++ [z])) V
        (∀ z, hasB V z = true → hasB W z = true) ∧ (∀ y ∈ l, hasB W y = true) ∧ Closed f U W ∧ ∀ z, hasB W z = true → hasB U z = true ∨ Reach f i z := by
      intro l
      induction l with
      | nil => exact fun _ V _ h2 h3 => ⟨fun _ h => h, fun y hy => by (cases hy), h2, h3⟩
      | cons x r ih =>
        intro hl V h1 h2 h3
        simp only [List.foldl_cons]
        by_cases hx : hasB V x = true
        · simp only [hx, if_true]
          obtain ⟨g0, g1, g2, g3⟩ := ih (fun y hy => hl y (by simp [hy])) V h1 h2 h3
          refine ⟨g0, fun y hy => ?_, g2, g3⟩
          rcases List.mem_cons.1 hy with e | hy
          · rw [e]; exact g0 x hx
          · exact g1 y hy
        · rw [if_neg hx]
          have hx' : hasB V x = false := by simpa using hx
          have hr1 : remF f V ≤ remF f U := rem_mono (f := f) h1
          have hr2 := rem_add (f := f) (kids_ent (hl x (by simp))) hx'
          obtain ⟨d1, d2, d3⟩ := dfs_closed (f := f) n x (V ++ [x]) (by omega)
          have hm := dfs_mono (f := f) n x (V ++ [x])
          have hxx : hasB (dfsF f n x (V ++ [x])) x = true := hm x (by rw [hasB_app]; simp)
          obtain ⟨g0, g1, g2, g3⟩ := ih (fun y hy => hl y (by simp [hy])) (dfsF f n x (V ++ [x])) (fun z hz => hm z (by rw [hasB_app, h1 z hz]; rfl)) (fun z hz hu y hy => by
            by_cases hv : hasB V z = true
            · exact hm y (by rw [hasB_app, h2 z hv hu y hy]; rfl)
            · by_cases hzx : z = x
              · rw [hzx] at hy; exact d1 y hy
              · refine d2 z hz ?_ y hy
                rw [hasB_app]
                have e1 : hasB V z = false := by simpa using hv
                have e2 : (x == z) = false := by simpa using fun e => hzx (by rw [← e])
                rw [e1, e2]; rfl) (fun z hz => by
            rcases d3 z hz with hd | hd
            · rw [hasB_app] at hd
              by_cases hv : hasB V z = true
              · exact h3 z hv
              · have e : x = z := by simpa [hv] using hd
                rw [← e]
                exact .inr (.one (hl x (by simp)))
            · exact .inr (.more (hl x (by simp)) hd))
          refine ⟨fun z hz => g0 z (hm z (by rw [hasB_app, hz]; rfl)), fun y hy => ?_, g2, g3⟩
          rcases List.mem_cons.1 hy with e | hy
          · rw [e]; exact g0 x hxx
          · exact g1 y hy
    obtain ⟨_, g1, g2, g3⟩ := key (kidsF f i) (fun _ h => h) U (fun _ h => h) (fun z h1 h2 => by rw [h1] at h2; cases h2) (fun z h => .inl h)
    exact ⟨g1, g2, g3⟩
def reachF (f : Fsy) (i : Int) : List Int := dfsF f ((inosF f).length + 1) i []
theorem rem_nil (f : Fsy) : remF f [] < (inosF f).length + 1 := Nat.lt_succ_of_le List.countP_le_length
theorem reach_iff {f : Fsy} {i z : Int} : hasB (reachF f i) z = true ↔ Reach f i z := by
  obtain ⟨h1, h2, h3⟩ := dfs_closed _ i [] (rem_nil f)
  refine ⟨fun h => (h3 z h).resolve_left (by simp [hasB]), fun h => ?_⟩
  have main : ∀ a b, Reach f a b → (∀ y ∈ kidsF f a, hasB (reachF f i) y = true) → hasB (reachF f i) b = true := by
    intro a b hab
    induction hab with
    | one h => exact fun hk => hk _ h
    | more h _ ih => exact fun hk => ih fun y hy => h2 _ (hk _ h) rfl y hy
  exact main i z h h1
def setM (U : List Int) : List (MK × AV) := U.map fun z => (MK.i z, .agg [])
theorem setM_keys (U : List Int) : ∀ p ∈ setM U, ∃ z, p.1 = .i z := fun p hp => by
  obtain ⟨z, _, rfl⟩ := List.mem_map.1 hp
  exact ⟨z, rfl⟩
theorem setM_found : ∀ (U : List Int) (z : Int) (i : Nat), (mfind (.i z) (setM U) i).isSome = hasB U z ∧ ∀ j x, mfind (.i z) (setM U) i = some (j, x) → x = .agg []
  | [], z, i => ⟨rfl, fun j x h => by cases h⟩
  | y :: r, z, i => by
    obtain ⟨h1, h2⟩ := setM_found r z (i + 1)
    show (mfind (.i z) ((MK.i y, AV.agg []) :: setM r) i).isSome = _ ∧ ∀ j x, mfind (.i z) ((MK.i y, AV.agg []) :: setM r) i = some (j, x) → _
    unfold mfind
    by_cases hy : y = z
    · subst hy
      simp only [if_true]
      exact ⟨by simp [hasB], fun j x h => by cases h; rfl⟩
    · rw [if_neg (fun e => hy (by injection e))]
      refine ⟨?_, h2⟩
      rw [h1]
      unfold hasB
      have e : (y == z) = false := by simpa using hy
      rw [List.any_cons, e, Bool.false_or]
theorem unit_sub : Sub (.val (.agg #[])) (.agg []) := fun D w v h => by
  cases h
  exact .agg [] #[] rfl (fun j v h => by simp at h) (fun j x v h => by simp at h)
theorem setM_look (U : List Int) (z : Int) : lkS true (mfind (.i z) (setM U) 0) (.agg #[]) (.tup [.agg [], aB (hasB U z)]) := by
  obtain ⟨h1, h2⟩ := setM_found U z 0
  unfold lkS lkRes
  rw [if_pos rfl, h1]
  refine Sub.tups ⟨?_, Sub.refl _, trivial⟩
  cases hm : mfind (.i z) (setM U) 0 with
  | none => exact unit_sub
  | some p =>
    obtain ⟨j, x⟩ := p
    rw [h2 j x hm]
    exact Sub.refl _
theorem setM_put {U : List Int} {z : Int} (h : hasB U z = false) : mput (setM U) (.i z) (.agg []) = setM (U ++ [z]) := by
  obtain ⟨h1, h2⟩ := setM_found U z 0
  unfold mput
  cases hm : mfind (.i z) (setM U) 0 with
  | none => simp [setM]
  | some p => rw [hm, h] at h1; cases h1
end Go.Proofs.Ytgcjfhgkkgocpaa

set_option linter.unusedVariables false
set_option linter.unusedSimpArgs false
namespace Go.Proofs.Ytgcjfhgkkgocpaa
open Go Go.RowKit Copyhold
set_option maxRecDepth 100000 in
set_option maxHeartbeats 4000000 in
theorem look_step (f : Fsy) (r : Nat) (okf : OkF f) (hl : f.l.length ≤ 100000) (hr : RiseN f.l) (m : Nat) (ih : ∀ (i : Int) (U : List Int), remF f U < m → LSpec2 Try.prog 62 [aI i, .dptr [.sl 5 false (f.l.map nodA), aI f.next], .dptr [.mref 7 r], .dptr [CLn 62 [.dptr [.sl 5 false (f.l.map nodA), aI f.next], .dptr [.mref 7 r]] m]] (.mp r (setM U)) (.tup []) (.mp r (setM (dfsF f m i U)))) (i : Int) (U : List Int) (h : remF f U < m + 1) : LSpec2 Try.prog 62 [aI i, .dptr [.sl 5 false (f.l.map nodA), aI f.next], .dptr [.mref 7 r], .dptr [.clo 62 [.dptr [.sl 5 false (f.l.map nodA), aI f.next], .dptr [.mref 7 r], .dptr [CLn 62 [.dptr [.sl 5 false (f.l.map nodA), aI f.next], .dptr [.mref 7 r]] m]]]] (.mp r (setM U)) (.tup []) (.mp r (setM (dfsF f (m + 1) i U))) := by
  have hfb := (findN_ok okf i).2.2.2.2.1
  exact lspec2_vc (q := 7) (F := Try.f62) 400 (
 .r 2 <| .call (tfind_spec f i (by omega) hr) <|
 .r 3 <| .new fun b1 => .run 2 [b1 = b1] ⟨rfl, trivial⟩ <|
 .r 3 <| .br 19 (!(findB f i)) (fun q1 => have q1 := notT q1; have p1 := booF q1; .r 4 <| .st (mpR 7) (r, setM U) (fun (_ : Unit) σ => σ.setB 7 (.mp r (setM (dfsF f (m + 1) i U)))) (rule_mp (by rw [dfs_no (find_kind q1)])) fun _ =>
 .finB (x := .tup []) (r := .tup []) [] trivial (.mp r (setM (dfsF f (m + 1) i U))) (by exact Sub.refl _))
 <| fun q1 => have q1 := notF q1; have p1 := booT q1; .run 4 [b1 = b1] ⟨rfl, trivial⟩ <|
 .br 23 (((findN f i).kind) != 2) (fun q2 => have p2 := bneT q2; .st (mpR 7) (r, setM U) (fun (_ : Unit) σ => σ.setB 7 (.mp r (setM (dfsF f (m + 1) i U)))) (rule_mp (by rw [dfs_no (by assumption)])) fun _ =>
 .finB (x := .tup []) (r := .tup []) [] trivial (.mp r (setM (dfsF f (m + 1) i U))) (by exact Sub.refl _))
 <| fun q2 => have p2 := bneF q2; have hk : (findN f i).kind = 2 := (by simpa using q2); .run 3 [b1 = b1] ⟨rfl, trivial⟩ <|
 .val 26 (show (aI (((findN f i).l.map entA).length : Int) : AV) = aI (((findN f i).l).length : Int) from by rw [List.length_map]) <| .r 1 <| let L1 : Lp (Nat) := ⟨fun a1 => ⟨[(2, .dptr [.mref 7 r]), (3, .dptr [.clo 62 [.dptr [.sl 5 false (f.l.map nodA), aI f.next], .dptr [.mref 7 r], .dptr [CLn 62 [.dptr [.sl 5 false (f.l.map nodA), aI f.next], .dptr [.mref 7 r]] m]]]), (25, .sl 2 false ((findN f i).l.map entA)), (26, aI (((findN f i).l).length : Int)), (27, aI (a1 : Int))], [(7, .mp r (setM (upK f m i U a1)))]⟩, fun a1 => (findN f i).l.length - a1, fun a1 => a1 ≤ (findN f i).l.length ∧ remF f (upK f m i U a1) < m + 1⟩
 .loop L1 0 (show 0 ≤ (findN f i).l.length ∧ remF f (upK f m i U 0) < m + 1 from ⟨Nat.zero_le _, h⟩) ⟨[(2, .dptr [.mref 7 r]), (3, .dptr [.clo 62 [.dptr [.sl 5 false (f.l.map nodA), aI f.next], .dptr [.mref 7 r], .dptr [CLn 62 [.dptr [.sl 5 false (f.l.map nodA), aI f.next], .dptr [.mref 7 r]] m]]]), (25, .sl 2 false ((findN f i).l.map entA)), (26, aI (((findN f i).l).length : Int)), (27, aI 0)], [(7, .mp r (setM U))]⟩ ⟨Sub.refl _, Sub.refl _, Sub.refl _, Sub.refl _, Sub.of_eq (congrArg aI (by first | omega | rfl)), trivial⟩ ⟨⟨_, rfl, SubB.of_eq rfl⟩, trivial⟩ fun a1 ha1 =>
 (fun (k : Nat) (hH1 : k ≤ (findN f i).l.length ∧ remF f (upK f m i U k) < m + 1) => .r 1 <| .br 28 (decide ((k : Int) < (((findN f i).l).length : Int))) (fun q3 => have p3 := decT q3; .idxM ((findN f i).l) entA k (m := (k : Int)) rfl (by omega) fun x1 hx1 =>
 .r 1 <| .new fun b2 => .run 1 [b2 = b2] ⟨rfl, trivial⟩ <|
 .run 3 [b2 = b2] ⟨rfl, trivial⟩ <|
 .op (lkRB Try.prog) ((3, some (.agg #[])), (7, r, r, setM (upK f m i U k)), .i x1.ino, true, some 35) (fun (_ : Unit) σ => σ.put (some 35) (.tup [.agg [], aB (hasB (upK f m i U k) x1.ino)])) (rule_lookB (mfind (.i x1.ino) (setM (upK f m i U k)) 0) (keys_i (by kernel_rfl) _ (setM_keys (upK f m i U k))) (by kernel_rfl) rfl (setM_look (upK f m i U k) x1.ino)) fun _ =>
 .r 3 <| .new fun b3 => .run 2 [b3 = b3] ⟨rfl, trivial⟩ <|
 .r 1 <| .br 38 (hasB (upK f m i U k) x1.ino) (fun q4 => have p4 := booT q4; .run 2 [rng .i64 ((k : Int) + 1)] ⟨rng64 (by omega) (by omega), trivial⟩ <|
 .back L1 k (k + 1) (show (k + 1) ≤ (findN f i).l.length ∧ remF f (upK f m i U (k + 1)) < m + 1 from ⟨by omega, by rw [upK_yes (kids_at hk hx1) q4]; exact hH1.2⟩) (show (findN f i).l.length - (k + 1) < (findN f i).l.length - k from (by omega)) ⟨[(2, .dptr [.mref 7 r]), (3, .dptr [.clo 62 [.dptr [.sl 5 false (f.l.map nodA), aI f.next], .dptr [.mref 7 r], .dptr [CLn 62 [.dptr [.sl 5 false (f.l.map nodA), aI f.next], .dptr [.mref 7 r]] m]]]), (25, .sl 2 false ((findN f i).l.map entA)), (26, aI (((findN f i).l).length : Int)), (27, aI ((k : Int) + 1))], [(7, .mp r (setM (upK f m i U k)))]⟩ ⟨Sub.refl _, Sub.refl _, Sub.refl _, Sub.refl _, Sub.of_eq (congrArg aI (by first | omega | rfl)), trivial⟩ ⟨⟨_, rfl, SubB.of_eq (by rw [upK_yes (kids_at hk hx1) q4])⟩, trivial⟩)
 <| fun q4 => have p4 := booF q4; .run 4 [b2 = b2] ⟨rfl, trivial⟩ <|
 .op (insR Try.prog) (3, (7, r, r, setM (upK f m i U k)), .i x1.ino, AV.agg []) (fun (_ : Unit) σ => σ.setB 7 (.mp r (setM ((upK f m i U k) ++ [x1.ino])))) (rule_putG (keys_i (by kernel_rfl) _ (setM_keys (upK f m i U k))) (by kernel_rfl) (setM_put q4)) fun _ =>
 .lent 3 <| .run 3 [b2 = b2] ⟨rfl, trivial⟩ <|
 .lop (lcR Try.prog 7) ((62, [aI x1.ino, .dptr [.sl 5 false (f.l.map nodA), aI f.next], .dptr [.mref 7 r], .dptr [CLn 62 [.dptr [.sl 5 false (f.l.map nodA), aI f.next], .dptr [.mref 7 r]] m]], some 46), .mp r (setM ((upK f m i U k) ++ [x1.ino]))) (fun (_ : Unit) σ => (σ.put (some 46) (.tup [])).setB 7 (.mp r (setM (dfsF f m x1.ino ((upK f m i U k) ++ [x1.ino]))))) (rule_lent2 (args' := [aI x1.ino, .dptr [.sl 5 false (f.l.map nodA), aI f.next], .dptr [.mref 7 r], .dptr [CLn 62 [.dptr [.sl 5 false (f.l.map nodA), aI f.next], .dptr [.mref 7 r]] m]]) ⟨Sub.refl _, Sub.refl _, Sub.refl _, Sub.refl _, trivial⟩ (ih x1.ino ((upK f m i U k) ++ [x1.ino]) (by have := rem_add (f := f) (kids_ent (List.mem_of_getElem? (kids_at hk hx1))) q4; omega))) fun _ =>
 .run 2 [rng .i64 ((k : Int) + 1)] ⟨rng64 (by omega) (by omega), trivial⟩ <|
 .back L1 k (k + 1) (show (k + 1) ≤ (findN f i).l.length ∧ remF f (upK f m i U (k + 1)) < m + 1 from ⟨by omega, by rw [upK_no (kids_at hk hx1) q4]; have := rem_dfs (f := f) (n := m) (i := x1.ino) (U := upK f m i U k ++ [x1.ino]); have := rem_add (f := f) (kids_ent (List.mem_of_getElem? (kids_at hk hx1))) q4; omega⟩) (show (findN f i).l.length - (k + 1) < (findN f i).l.length - k from (by omega)) ⟨[(2, .dptr [.mref 7 r]), (3, .dptr [.clo 62 [.dptr [.sl 5 false (f.l.map nodA), aI f.next], .dptr [.mref 7 r], .dptr [CLn 62 [.dptr [.sl 5 false (f.l.map nodA), aI f.next], .dptr [.mref 7 r]] m]]]), (25, .sl 2 false ((findN f i).l.map entA)), (26, aI (((findN f i).l).length : Int)), (27, aI ((k : Int) + 1))], [(7, .mp r (setM (dfsF f m x1.ino ((upK f m i U k) ++ [x1.ino]))))]⟩ ⟨Sub.refl _, Sub.refl _, Sub.refl _, Sub.refl _, Sub.of_eq (congrArg aI (by first | omega | rfl)), trivial⟩ ⟨⟨_, rfl, SubB.of_eq (by rw [upK_no (kids_at hk hx1) q4])⟩, trivial⟩)
 <| fun q3 => have p3 := decF q3; .st (mpR 7) (r, setM (upK f m i U k)) (fun (_ : Unit) σ => σ.setB 7 (.mp r (setM (dfsF f (m + 1) i U)))) (rule_mp (by rw [upK_all (by rw [kids_len hk]; omega)])) fun _ =>
 .finB (x := .tup []) (r := .tup []) [] trivial (.mp r (setM (dfsF f (m + 1) i U))) (by exact Sub.refl _)) a1 ha1) Try.func62 rfl (by kernel_rfl) (by kernel_rfl)
end Go.Proofs.Ytgcjfhgkkgocpaa

set_option linter.unusedVariables false
set_option linter.unusedSimpArgs false
namespace Go.Proofs.Ytgcjfhgkkgocpaa
open Go Go.RowKit Copyhold
theorem look_all (f : Fsy) (r : Nat) (okf : OkF f) (hl : f.l.length ≤ 100000) (hr : RiseN f.l) : ∀ (m : Nat) (i : Int) (U : List Int), remF f U < m → LSpec2 Try.prog 62 [aI i, .dptr [.sl 5 false (f.l.map nodA), aI f.next], .dptr [.mref 7 r], .dptr [CLn 62 [.dptr [.sl 5 false (f.l.map nodA), aI f.next], .dptr [.mref 7 r]] m]] (.mp r (setM U)) (.tup []) (.mp r (setM (dfsF f m i U)))
  | 0, _, _, h => absurd h (Nat.not_lt_zero _)
  | m + 1, i, U, h => look_step f r okf hl hr m (look_all f r okf hl hr m) i U h
set_option maxRecDepth 100000 in
set_option maxHeartbeats 4000000 in
theorem reach_spec (f : Fsy) (i : Int) (okf : OkF f) (hl : f.l.length ≤ 100000) (hr : RiseN f.l) : FSpec Try.prog 43 [.agg [.sl 5 false (f.l.map nodA), aI f.next], aI i] (.mp (setM (reachF f i))) := by
  exact spec_vc (F := Try.f43) 400 (
 .new fun b1 => .r 1 <| .mkMap fun r2 => .new fun b3 => .run 1 [b3 = b3] ⟨rfl, trivial⟩ <|
 .new fun b4 => .run 2 [b4 = b4] ⟨rfl, trivial⟩ <|
 .frz 2 [1, 4, 5, 6] [7, 5, 6] [b1 = b1] ⟨rfl, trivial⟩ <|
 .frz 5 [1, 4, 5, 6] [7, 6] [b3 = b3, b3 = b3] ⟨rfl, rfl, trivial⟩ <|
 .st (fun s => (recR 6 s).map fun x => (x, lget s.tm 6)) ((b4, 108, 62, [.dptr [.sl 5 false (f.l.map nodA), aI f.next], .dptr [.mref 7 r2]], 6, b4), .ptr 6 b4 0) (fun (_ : Unit) σ => recS 6 6 (CLn 62 [.dptr [.sl 5 false (f.l.map nodA), aI f.next], .dptr [.mref 7 r2]] (((inosF f).length + 1) + 1)) [1, 4, 5] [7] σ) (rule_rec (((inosF f).length + 1) + 1) [1, 4, 5] [7]) fun _ =>
 .lent 2 <| .r 2 <| .lop (lcR Try.prog 7) ((62, [aI i, .dptr [.sl 5 false (f.l.map nodA), aI f.next], .dptr [.mref 7 r2], .dptr [CLn 62 [.dptr [.sl 5 false (f.l.map nodA), aI f.next], .dptr [.mref 7 r2]] ((inosF f).length + 1)]], some 11), .mp r2 []) (fun (_ : Unit) σ => (σ.put (some 11) (.tup [])).setB 7 (.mp r2 (setM (reachF f i)))) (rule_lent2 (args' := [aI i, .dptr [.sl 5 false (f.l.map nodA), aI f.next], .dptr [.mref 7 r2], .dptr [CLn 62 [.dptr [.sl 5 false (f.l.map nodA), aI f.next], .dptr [.mref 7 r2]] ((inosF f).length + 1)]]) ⟨Sub.refl _, Sub.refl _, Sub.refl _, Sub.refl _, trivial⟩ (look_all f r2 okf hl hr ((inosF f).length + 1) i [] (rem_nil f))) fun _ =>
 .r 2 <| .frz 7 [4] [] [r2 = r2] ⟨rfl, trivial⟩ <|
 .fin (x := .mp (setM (reachF f i))) (r := .mp (setM (reachF f i))) [] trivial (by exact Sub.refl _)) Try.func43 rfl (by kernel_rfl) (by kernel_rfl)
set_option maxRecDepth 100000 in
set_option maxHeartbeats 4000000 in
theorem below_spec (f : Fsy) (i j : Int) (okf : OkF f) (hl : f.l.length ≤ 100000) (hr : RiseN f.l) : FSpec Try.prog 24 [.agg [.sl 5 false (f.l.map nodA), aI f.next], aI i, aI j] (aB (hasB (reachF f j) i)) := by
  exact spec_vc (F := Try.f24) 400 (
 .new fun b1 => .r 1 <| .run 2 [b1 = b1] ⟨rfl, trivial⟩ <|
 .call (reach_spec f j okf hl hr) <|
 .r 1 <| .op (lkRO Try.prog) ((3, some (.agg #[])), setM (reachF f j), .i i, true, some 14) (fun (_ : Unit) σ => σ.put (some 14) (.tup [.agg [], aB (hasB (reachF f j) i)])) (rule_lookO (mfind (.i i) (setM (reachF f j)) 0) (keys_i (by kernel_rfl) _ (setM_keys (reachF f j))) (by kernel_rfl) rfl (setM_look (reachF f j) i)) fun _ =>
 .r 3 <| .new fun b2 => .run 2 [b2 = b2] ⟨rfl, trivial⟩ <|
 .r 2 <| .fin (x := aB (hasB (reachF f j) i)) (r := aB (hasB (reachF f j) i)) [] trivial (by exact Sub.refl _)) Try.func24 rfl (by kernel_rfl) (by kernel_rfl)
end Go.Proofs.Ytgcjfhgkkgocpaa
