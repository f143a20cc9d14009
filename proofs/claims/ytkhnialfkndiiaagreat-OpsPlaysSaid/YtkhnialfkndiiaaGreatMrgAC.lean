import Derived.Test.YtkhnialfkndiiaaGreatMrgAB
import Derived.Test.YtkhnialfkndiiaaGreatOpsD11
import Derived.Lib.SlicesCompact
import Derived.Test.YtkhnialfkndiiaaGreatShelf
import Derived.Sort.OwnSortedInts
set_option maxRecDepth 100000
set_option maxHeartbeats 8000000
set_option linter.unusedVariables false
set_option linter.unusedSimpArgs false
namespace Go.Proofs.YtkhnialfkndiiaaGreat
open Go Go.RowKit Copyhold
def pN (l : List Int) (n : Int) : Nat := (l.takeWhile fun x => decide (x < n)).length
theorem pN_le (l : List Int) (n : Int) : pN l n ≤ l.length := (List.takeWhile_sublist _).length_le
theorem pN_iff {n : Int} : ∀ {l : List Int} {k : Nat} {x : Int}, k ≤ pN l n → l[k]? = some x → (x < n ↔ k < pN l n)
 | [], k, x, _, hx => (by simp at hx)
 | a :: r, k, x, hk, hx => by
  by_cases ha : a < n
  ·have e : pN (a :: r) n = pN r n + 1 := by unfold pN; rw [List.takeWhile_cons, if_pos (by simpa using ha)]; rfl
   rw [e] at hk ⊢
   cases k with
   | zero =>
    simp at hx
    subst hx
    exact ⟨fun _ => by omega, fun _ => ha⟩
   | succ k =>
    have := pN_iff (n := n) (l := r) (k := k) (x := x) (by omega) (by simpa using hx)
    rw [this]
    omega
  ·have e : pN (a :: r) n = 0 := by unfold pN; rw [List.takeWhile_cons, if_neg (by simpa using ha)]; rfl
   rw [e] at hk ⊢
   obtain rfl : k = 0 := by omega
   simp at hx
   subst hx
   exact ⟨fun h => absurd h ha, fun h => by omega⟩
def wiK (l : List Int) (n : Int) (k j : Nat) : List Int := l.take k ++ n :: ((l.drop k).take (j - k)).filter fun x => x != n
theorem wiK_0 (l : List Int) (n : Int) (k : Nat) : wiK l n k k = l.take k ++ [n] := by unfold wiK; simp
theorem wiK_step {l : List Int} {n : Int} {k j : Nat} {x : Int} (h : l[j]? = some x) (hkj : k ≤ j) : wiK l n k (j + 1) = wiK l n k j ++ [x].filter fun x => x != n := by
 unfold wiK
 rw [show j + 1 - k = (j - k) + 1 from by omega, take_step (l := l.drop k) (k := j - k) (x := x) (by rw [List.getElem?_drop, show k + (j - k) = j from by omega]; exact h), List.filter_append]
 simp
theorem wiK_yes {l : List Int} {n : Int} {k j : Nat} {x : Int} (h : l[j]? = some x) (hkj : k ≤ j) (q : (x != n) = true) : wiK l n k (j + 1) = wiK l n k j ++ [x] := by rw [wiK_step h hkj]; simp [List.filter_cons, q]
theorem wiK_no {l : List Int} {n : Int} {k j : Nat} {x : Int} (h : l[j]? = some x) (hkj : k ≤ j) (q : (x != n) = false) : wiK l n k (j + 1) = wiK l n k j := by rw [wiK_step h hkj]; simp [List.filter_cons, q]
theorem wiK_le (l : List Int) (n : Int) (k j : Nat) (hk : k ≤ l.length) : (wiK l n k j).length ≤ l.length + 1 := by
 unfold wiK
 have := List.length_filter_le (fun x => x != n) ((l.drop k).take (j - k))
 simp only [List.length_append, List.length_cons, List.length_take, List.length_drop] at this ⊢
 omega
def withI (l : List Int) (n : Int) : List Int := wiK l n (pN l n) l.length
theorem with_len (l : List Int) (n : Int) : (withI l n).length ≤ l.length + 1 := wiK_le l n _ _ (pN_le l n)
theorem with_spec (l : List Int) (n : Int) (hl : l.length ≤ 100000) : FSpec Tryz.prog 53 [.sl 1 false (l.map intA), aI n] (.sl 1 false ((withI l n).map intA)) := by
 exact spec_vc (F := Tryz.f53) 400 (
 .r 1 <| .r 1 <| .rowNil 5 5 3 1 <| .r 1 <| let L1 : Lp (Nat × Value) := ⟨fun a1 => ⟨[(0, .sl 1 false (l.map intA)), (1, aI n), (6, aI (a1.1 : Int)), (5, .rw 5 a1.2 ((l.take a1.1).length))], [(5, .row a1.2 3 1 ((l.take a1.1).map intA))]⟩, fun a1 => l.length - a1.1, fun a1 => a1.1 ≤ l.length ∧ a1.1 ≤ pN l n⟩
 .loop L1 (0, .slice none 0 0) (show 0 ≤ l.length ∧ 0 ≤ pN l n from ⟨Nat.zero_le _, Nat.zero_le _⟩) ⟨[(0, .sl 1 false (l.map intA)), (1, aI n), (6, aI 0), (5, .rw 5 (.slice none 0 0) 0)], [(5, .row (.slice none 0 0) 3 1 ([]))]⟩ ⟨sR, sR, Sub.of_eq (congrArg aI (by first | omega | rfl)), Sub.of_eq (congrArg (AV.rw 5 (.slice none 0 0)) (by simp)), trivial⟩ ⟨⟨_, rfl, SubB.of_eq (by simp)⟩, trivial⟩ fun a1 ha1 =>
 (fun (k : Nat) (V : Value) (hH1 : k ≤ l.length ∧ k ≤ pN l n) => .r 3 <| .val 9 (show (aI ((l.map intA).length : Int) : AV) = aI (l.length : Int) from by rw [List.length_map]) <| .r 2 <| .br 11 (decide ((k : Int) < (l.length : Int))) (fun q1 => have p1 := decT q1; .r 2 <| .idxM l intA k (m := (k : Int)) rfl (by omega) fun x1 hx1 =>
 .r 4 <| .br 18 (decide (x1 < n)) (fun q2 => have p2 := decT q2; .r 3 <| .idx k (m := (k : Int)) (xs := l.map intA) (e := intA x1) rfl (map_some hx1) <|
 .r 2 <| .app 8 V ((l.take k).map intA) ([[aI x1]]) (by first | (simp only [List.length_map, List.length_cons, List.length_nil, List.length_take, List.length_append]; omega) | (have hw := wiK_le l n k j (by omega); simp only [List.length_map, List.length_cons, List.length_nil, List.length_append]; omega)) (by first | (simp only [List.length_map, List.length_cons, List.length_nil, List.length_take, List.length_append]; omega) | (have hw := wiK_le l n k j (by omega); simp only [List.length_map, List.length_cons, List.length_nil, List.length_append]; omega)) fun V1 =>
 .r 1 <| .run 3 [rng .i64 ((k : Int) + 1)] ⟨rng64 (by omega) (by omega), trivial⟩ <|
 .back L1 (k, V) ((k + 1), V1) (show (k + 1) ≤ l.length ∧ (k + 1) ≤ pN l n from (by refine ⟨by omega, ?_⟩; have := (pN_iff hH1.2 hx1).1 (by omega); omega)) (show l.length - (k + 1) < l.length - k from (by omega)) ⟨[(0, .sl 1 false (l.map intA)), (1, aI n), (6, aI ((k : Int) + 1)), (5, .rw 5 V1 (((l.take k).map intA).length + ([[aI x1]] : List (List AV)).length))], [(5, .row V1 3 1 (((l.take k).map intA) ++ ([[aI x1]])))]⟩ ⟨sR, sR, Sub.of_eq (congrArg aI (by first | omega | rfl)), Sub.of_eq (congrArg (AV.rw 5 V1) (by rw [take_step hx1]; simp)), trivial⟩ ⟨⟨_, rfl, SubB.of_eq (by rw [take_step hx1]; simp [intA])⟩, trivial⟩)
 <| fun q2 => have p2 := decF q2; .r 3 <| .app 8 V ((l.take k).map intA) ([[aI n]]) (by first | (simp only [List.length_map, List.length_cons, List.length_nil, List.length_take, List.length_append]; omega) | (have hw := wiK_le l n k j (by omega); simp only [List.length_map, List.length_cons, List.length_nil, List.length_append]; omega)) (by first | (simp only [List.length_map, List.length_cons, List.length_nil, List.length_take, List.length_append]; omega) | (have hw := wiK_le l n k j (by omega); simp only [List.length_map, List.length_cons, List.length_nil, List.length_append]; omega)) fun V2 =>
 .r 1 <| let L2 : Lp (Nat × Value) := ⟨fun a2 => ⟨[(0, .sl 1 false (l.map intA)), (1, aI n), (6, aI (a2.1 : Int)), (5, .rw 5 a2.2 ((wiK l n k a2.1).length))], [(5, .row a2.2 3 1 ((wiK l n k a2.1).map intA))]⟩, fun a2 => l.length - a2.1, fun a2 => k ≤ a2.1 ∧ a2.1 ≤ l.length⟩
 .loop L2 (k, V2) (show k ≤ k ∧ k ≤ l.length from ⟨Nat.le_refl _, by omega⟩) ⟨[(0, .sl 1 false (l.map intA)), (1, aI n), (6, aI (k : Int)), (5, .rw 5 V2 (((l.take k).map intA).length + ([[aI n]] : List (List AV)).length))], [(5, .row V2 3 1 (((l.take k).map intA) ++ ([[aI n]])))]⟩ ⟨sR, sR, sR, Sub.of_eq (congrArg (AV.rw 5 V2) (by rw [wiK_0]; simp)), trivial⟩ ⟨⟨_, rfl, SubB.of_eq (by rw [wiK_0]; simp [intA])⟩, trivial⟩ fun a2 ha2 =>
 (fun (j : Nat) (W : Value) (hH2 : k ≤ j ∧ j ≤ l.length) => .r 3 <| .val 34 (show (aI ((l.map intA).length : Int) : AV) = aI (l.length : Int) from by rw [List.length_map]) <| .r 1 <| .br 35 (decide ((j : Int) < (l.length : Int))) (fun q3 => have p3 := decT q3; .r 2 <| .idxM l intA j (m := (j : Int)) rfl (by omega) fun x2 hx2 =>
 .r 3 <| .br 41 (x2 != n) (fun q4 => have p4 := bneT q4; .r 3 <| .idx j (m := (j : Int)) (xs := l.map intA) (e := intA x2) rfl (map_some hx2) <|
 .r 2 <| .app 8 W ((wiK l n k j).map intA) ([[aI x2]]) (by first | (simp only [List.length_map, List.length_cons, List.length_nil, List.length_take, List.length_append]; omega) | (have hw := wiK_le l n k j (by omega); simp only [List.length_map, List.length_cons, List.length_nil, List.length_append]; omega)) (by first | (simp only [List.length_map, List.length_cons, List.length_nil, List.length_take, List.length_append]; omega) | (have hw := wiK_le l n k j (by omega); simp only [List.length_map, List.length_cons, List.length_nil, List.length_append]; omega)) fun V3 =>
 .r 1 <| .run 3 [rng .i64 ((j : Int) + 1)] ⟨rng64 (by omega) (by omega), trivial⟩ <|
 .back L2 (j, W) ((j + 1), V3) (show k ≤ (j + 1) ∧ (j + 1) ≤ l.length from (by show _ ≤ _ ∧ _; omega)) (show l.length - (j + 1) < l.length - j from (by omega)) ⟨[(0, .sl 1 false (l.map intA)), (1, aI n), (6, aI ((j : Int) + 1)), (5, .rw 5 V3 (((wiK l n k j).map intA).length + ([[aI x2]] : List (List AV)).length))], [(5, .row V3 3 1 (((wiK l n k j).map intA) ++ ([[aI x2]])))]⟩ ⟨sR, sR, Sub.of_eq (congrArg aI (by first | omega | rfl)), Sub.of_eq (congrArg (AV.rw 5 V3) (by rw [wiK_yes hx2 (by omega) (by simpa [bne] using q4)]; simp)), trivial⟩ ⟨⟨_, rfl, SubB.of_eq (by rw [wiK_yes hx2 (by omega) (by simpa [bne] using q4)]; simp [intA])⟩, trivial⟩)
 <| fun q4 => have p4 := bneF q4; .run 3 [rng .i64 ((j : Int) + 1)] ⟨rng64 (by omega) (by omega), trivial⟩ <|
 .back L2 (j, W) ((j + 1), W) (show k ≤ (j + 1) ∧ (j + 1) ≤ l.length from (by show _ ≤ _ ∧ _; omega)) (show l.length - (j + 1) < l.length - j from (by omega)) ⟨[(0, .sl 1 false (l.map intA)), (1, aI n), (6, aI ((j : Int) + 1)), (5, .rw 5 W ((wiK l n k j).length))], [(5, .row W 3 1 ((wiK l n k j).map intA))]⟩ ⟨sR, sR, Sub.of_eq (congrArg aI (by first | omega | rfl)), Sub.of_eq (congrArg (AV.rw 5 W) (by rw [wiK_no hx2 (by omega) (by simpa [bne] using q4)])), trivial⟩ ⟨⟨_, rfl, SubB.of_eq (by rw [wiK_no hx2 (by omega) (by simpa [bne] using q4)])⟩, trivial⟩)
 <| fun q3 => have p3 := decF q3; .r 2 <| .frz 5 [4] [] [W = W, (wiK l n k j).length = ((wiK l n k j).map intA).length] ⟨rfl, (by first | rfl | (simp; done) | (simp; omega)), trivial⟩ <|
 .fin (x := .sl 1 false ((wiK l n k j).map intA)) (r := .sl 1 false ((withI l n).map intA)) [] trivial (by
  have hk : k = pN l n := by
   have hq := pN_le l n
   have hk1 := hH1.2
   by_cases h : k < pN l n
   ·have := (pN_iff hH1.2 hx1).2 h; omega
   ·omega
  have e : wiK l n k j = withI l n := by unfold withI; rw [hk, show j = l.length from by omega]
  rw [← e]
  first | exact sR | exact Sub.loose _ _ _)) a2.1 a2.2 ha2)
 <| fun q1 => have p1 := decF q1; .r 7 <| .r 3 <| .app 8 V ((l.take k).map intA) ([[aI n]]) (by first | (simp only [List.length_map, List.length_cons, List.length_nil, List.length_take, List.length_append]; omega) | (have hw := wiK_le l n k j (by omega); simp only [List.length_map, List.length_cons, List.length_nil, List.length_append]; omega)) (by first | (simp only [List.length_map, List.length_cons, List.length_nil, List.length_take, List.length_append]; omega) | (have hw := wiK_le l n k j (by omega); simp only [List.length_map, List.length_cons, List.length_nil, List.length_append]; omega)) fun V4 =>
 .r 1 <| let L2 : Lp (Nat × Value) := ⟨fun a2 => ⟨[(0, .sl 1 false (l.map intA)), (1, aI n), (6, aI (a2.1 : Int)), (5, .rw 5 a2.2 ((wiK l n k a2.1).length))], [(5, .row a2.2 3 1 ((wiK l n k a2.1).map intA))]⟩, fun a2 => l.length - a2.1, fun a2 => k ≤ a2.1 ∧ a2.1 ≤ l.length⟩
 .loop L2 (k, V4) (show k ≤ k ∧ k ≤ l.length from ⟨Nat.le_refl _, by omega⟩) ⟨[(0, .sl 1 false (l.map intA)), (1, aI n), (6, aI (k : Int)), (5, .rw 5 V4 (((l.take k).map intA).length + ([[aI n]] : List (List AV)).length))], [(5, .row V4 3 1 (((l.take k).map intA) ++ ([[aI n]])))]⟩ ⟨sR, sR, sR, Sub.of_eq (congrArg (AV.rw 5 V4) (by rw [wiK_0]; simp)), trivial⟩ ⟨⟨_, rfl, SubB.of_eq (by rw [wiK_0]; simp [intA])⟩, trivial⟩ fun a2 ha2 =>
 (fun (j : Nat) (W : Value) (hH2 : k ≤ j ∧ j ≤ l.length) => .r 3 <| .val 34 (show (aI ((l.map intA).length : Int) : AV) = aI (l.length : Int) from by rw [List.length_map]) <| .r 1 <| .br 35 (decide ((j : Int) < (l.length : Int))) (fun q5 => have p5 := decT q5; .r 2 <| .idxM l intA j (m := (j : Int)) rfl (by omega) fun x3 hx3 =>
 .r 3 <| .br 41 (x3 != n) (fun q6 => have p6 := bneT q6; .r 3 <| .idx j (m := (j : Int)) (xs := l.map intA) (e := intA x3) rfl (map_some hx3) <|
 .r 2 <| .app 8 W ((wiK l n k j).map intA) ([[aI x3]]) (by first | (simp only [List.length_map, List.length_cons, List.length_nil, List.length_take, List.length_append]; omega) | (have hw := wiK_le l n k j (by omega); simp only [List.length_map, List.length_cons, List.length_nil, List.length_append]; omega)) (by first | (simp only [List.length_map, List.length_cons, List.length_nil, List.length_take, List.length_append]; omega) | (have hw := wiK_le l n k j (by omega); simp only [List.length_map, List.length_cons, List.length_nil, List.length_append]; omega)) fun V5 =>
 .r 1 <| .run 3 [rng .i64 ((j : Int) + 1)] ⟨rng64 (by omega) (by omega), trivial⟩ <|
 .back L2 (j, W) ((j + 1), V5) (show k ≤ (j + 1) ∧ (j + 1) ≤ l.length from (by show _ ≤ _ ∧ _; omega)) (show l.length - (j + 1) < l.length - j from (by omega)) ⟨[(0, .sl 1 false (l.map intA)), (1, aI n), (6, aI ((j : Int) + 1)), (5, .rw 5 V5 (((wiK l n k j).map intA).length + ([[aI x3]] : List (List AV)).length))], [(5, .row V5 3 1 (((wiK l n k j).map intA) ++ ([[aI x3]])))]⟩ ⟨sR, sR, Sub.of_eq (congrArg aI (by first | omega | rfl)), Sub.of_eq (congrArg (AV.rw 5 V5) (by rw [wiK_yes hx3 (by omega) (by simpa [bne] using q6)]; simp)), trivial⟩ ⟨⟨_, rfl, SubB.of_eq (by rw [wiK_yes hx3 (by omega) (by simpa [bne] using q6)]; simp [intA])⟩, trivial⟩)
 <| fun q6 => have p6 := bneF q6; .run 3 [rng .i64 ((j : Int) + 1)] ⟨rng64 (by omega) (by omega), trivial⟩ <|
 .back L2 (j, W) ((j + 1), W) (show k ≤ (j + 1) ∧ (j + 1) ≤ l.length from (by show _ ≤ _ ∧ _; omega)) (show l.length - (j + 1) < l.length - j from (by omega)) ⟨[(0, .sl 1 false (l.map intA)), (1, aI n), (6, aI ((j : Int) + 1)), (5, .rw 5 W ((wiK l n k j).length))], [(5, .row W 3 1 ((wiK l n k j).map intA))]⟩ ⟨sR, sR, Sub.of_eq (congrArg aI (by first | omega | rfl)), Sub.of_eq (congrArg (AV.rw 5 W) (by rw [wiK_no hx3 (by omega) (by simpa [bne] using q6)])), trivial⟩ ⟨⟨_, rfl, SubB.of_eq (by rw [wiK_no hx3 (by omega) (by simpa [bne] using q6)])⟩, trivial⟩)
 <| fun q5 => have p5 := decF q5; .r 2 <| .frz 5 [4] [] [W = W, (wiK l n k j).length = ((wiK l n k j).map intA).length] ⟨rfl, (by first | rfl | (simp; done) | (simp; omega)), trivial⟩ <|
 .fin (x := .sl 1 false ((wiK l n k j).map intA)) (r := .sl 1 false ((withI l n).map intA)) [] trivial (by
  have hk : k = pN l n := by
   have hq := pN_le l n
   have hk1 := hH1.2
   omega
  have e : wiK l n k j = withI l n := by unfold withI; rw [hk, show j = l.length from by omega]
  rw [← e]
  first | exact sR | exact Sub.loose _ _ _)) a2.1 a2.2 ha2) a1.1 a1.2 ha1) Tryz.func53 rfl (by kernel_rfl) (by kernel_rfl)
def lenB (n : Int) : Int := if n = 0 then 0 else if n = 1 then 1 else if n ≤ 3 then 2 else if n ≤ 7 then 3 else 4
theorem len_c0 (w : World) : Calls Tryz.prog 156 #[.int .u64 0] w fun e w' => e = .returned (.int .i64 0) ∧ w = w' := by
 go_enter Tryz.func156, Tryz.ntmps156
 go_wp2_with fail
 go_ret
 exact ⟨by kernel_rfl, rfl⟩
theorem len_c1 (w : World) : Calls Tryz.prog 156 #[.int .u64 1] w fun e w' => e = .returned (.int .i64 1) ∧ w = w' := by
 go_enter Tryz.func156, Tryz.ntmps156
 go_wp2_with fail
 go_ret
 exact ⟨by kernel_rfl, rfl⟩
theorem len_c2 (w : World) : Calls Tryz.prog 156 #[.int .u64 2] w fun e w' => e = .returned (.int .i64 2) ∧ w = w' := by
 go_enter Tryz.func156, Tryz.ntmps156
 go_wp2_with fail
 go_ret
 exact ⟨by kernel_rfl, rfl⟩
theorem len_c3 (w : World) : Calls Tryz.prog 156 #[.int .u64 3] w fun e w' => e = .returned (.int .i64 2) ∧ w = w' := by
 go_enter Tryz.func156, Tryz.ntmps156
 go_wp2_with fail
 go_ret
 exact ⟨by kernel_rfl, rfl⟩
theorem len_c4 (w : World) : Calls Tryz.prog 156 #[.int .u64 4] w fun e w' => e = .returned (.int .i64 3) ∧ w = w' := by
 go_enter Tryz.func156, Tryz.ntmps156
 go_wp2_with fail
 go_ret
 exact ⟨by kernel_rfl, rfl⟩
theorem len_c5 (w : World) : Calls Tryz.prog 156 #[.int .u64 5] w fun e w' => e = .returned (.int .i64 3) ∧ w = w' := by
 go_enter Tryz.func156, Tryz.ntmps156
 go_wp2_with fail
 go_ret
 exact ⟨by kernel_rfl, rfl⟩
theorem len_c6 (w : World) : Calls Tryz.prog 156 #[.int .u64 6] w fun e w' => e = .returned (.int .i64 3) ∧ w = w' := by
 go_enter Tryz.func156, Tryz.ntmps156
 go_wp2_with fail
 go_ret
 exact ⟨by kernel_rfl, rfl⟩
theorem len_c7 (w : World) : Calls Tryz.prog 156 #[.int .u64 7] w fun e w' => e = .returned (.int .i64 3) ∧ w = w' := by
 go_enter Tryz.func156, Tryz.ntmps156
 go_wp2_with fail
 go_ret
 exact ⟨by kernel_rfl, rfl⟩
theorem len_c8 (w : World) : Calls Tryz.prog 156 #[.int .u64 8] w fun e w' => e = .returned (.int .i64 4) ∧ w = w' := by
 go_enter Tryz.func156, Tryz.ntmps156
 go_wp2_with fail
 go_ret
 exact ⟨by kernel_rfl, rfl⟩
theorem len_c9 (w : World) : Calls Tryz.prog 156 #[.int .u64 9] w fun e w' => e = .returned (.int .i64 4) ∧ w = w' := by
 go_enter Tryz.func156, Tryz.ntmps156
 go_wp2_with fail
 go_ret
 exact ⟨by kernel_rfl, rfl⟩
theorem len_c10 (w : World) : Calls Tryz.prog 156 #[.int .u64 10] w fun e w' => e = .returned (.int .i64 4) ∧ w = w' := by
 go_enter Tryz.func156, Tryz.ntmps156
 go_wp2_with fail
 go_ret
 exact ⟨by kernel_rfl, rfl⟩
theorem len_c11 (w : World) : Calls Tryz.prog 156 #[.int .u64 11] w fun e w' => e = .returned (.int .i64 4) ∧ w = w' := by
 go_enter Tryz.func156, Tryz.ntmps156
 go_wp2_with fail
 go_ret
 exact ⟨by kernel_rfl, rfl⟩
theorem len_c12 (w : World) : Calls Tryz.prog 156 #[.int .u64 12] w fun e w' => e = .returned (.int .i64 4) ∧ w = w' := by
 go_enter Tryz.func156, Tryz.ntmps156
 go_wp2_with fail
 go_ret
 exact ⟨by kernel_rfl, rfl⟩
theorem len_calls (n : Int) (h0 : 0 ≤ n) (h1 : n ≤ 12) (w : World) : Calls Tryz.prog 156 #[.int .u64 n] w fun e w' => e = .returned (.int .i64 (lenB n)) ∧ w = w' := by
 rcases (show n = 0 ∨ n = 1 ∨ n = 2 ∨ n = 3 ∨ n = 4 ∨ n = 5 ∨ n = 6 ∨ n = 7 ∨ n = 8 ∨ n = 9 ∨ n = 10 ∨ n = 11 ∨ n = 12 from by omega) with rfl | rfl | rfl | rfl | rfl | rfl | rfl | rfl | rfl | rfl | rfl | rfl | rfl
 ·exact len_c0 w
 ·exact len_c1 w
 ·exact len_c2 w
 ·exact len_c3 w
 ·exact len_c4 w
 ·exact len_c5 w
 ·exact len_c6 w
 ·exact len_c7 w
 ·exact len_c8 w
 ·exact len_c9 w
 ·exact len_c10 w
 ·exact len_c11 w
 ·exact len_c12 w
theorem len_call2 (n : Int) (h0 : 0 ≤ n) (h1 : n ≤ 12) (w : World) : Calls Tryz.prog 131 #[.int .u64 n] w fun e w' => e = .returned (.int .i64 (lenB n)) ∧ w = w' := by
 go_enter Tryz.func131, Tryz.ntmps131
 go_wp2_with fail
 refine (len_calls n h0 h1 _).mono ?_
 rintro e w1 ⟨rfl, rfl⟩
 go_wp2_with fail
 go_ret
 exact ⟨rfl, rfl⟩
theorem len_spec (n : Int) (h0 : 0 ≤ n) (h1 : n ≤ 12) : FSpec Tryz.prog 131 [.val (.int .u64 n)] (aI (lenB n)) := fspec_plain (fun D w => .val _) fun D w vs h => by
 obtain ⟨u, rfl, hu⟩ := RaAll.one h
 cases hu
 exact (len_call2 n h0 h1 w).mono fun e w' ⟨g1, g2⟩ => ⟨g1, g2 ▸ Below.refl _ _⟩
def lk2 (l : List Ent) (ss : List Txt) (L : List Int) : List Int := ss.foldl (fun L s => if isB l s = true then L ++ [getI l s] else L) L
def lk1 (f : Fsy) (c : Cal) (L : List Int) (i : Int) : List Int := if dirE f i = 0 then lk2 (dirN f i).l [c.name, c.name2] L else L
def lk0 (f : Fsy) (c : Cal) (is : List Int) : List Int := is.foldl (lk1 f c) [c.ino, c.to]
def looksL (f : Fsy) (c : Cal) : List Int := lk0 f c [c.ino, c.to]
theorem lk2_yes {l : List Ent} {ss : List Txt} {L : List Int} {j : Nat} {s : Txt} (h : ss[j]? = some s) (q : isB l s = true) : lk2 l (ss.take (j + 1)) L = lk2 l (ss.take j) L ++ [getI l s] := by
 unfold lk2
 rw [take_step h, List.foldl_append, List.foldl_cons, List.foldl_nil, if_pos q]
theorem lk2_no {l : List Ent} {ss : List Txt} {L : List Int} {j : Nat} {s : Txt} (h : ss[j]? = some s) (q : isB l s = false) : lk2 l (ss.take (j + 1)) L = lk2 l (ss.take j) L := by
 unfold lk2
 rw [take_step h, List.foldl_append, List.foldl_cons, List.foldl_nil, if_neg (by rw [q]; decide)]
theorem lk0_step {f : Fsy} {c : Cal} {is : List Int} {j : Nat} {i : Int} (h : is[j]? = some i) : lk0 f c (is.take (j + 1)) = lk1 f c (lk0 f c (is.take j)) i := by
 unfold lk0
 rw [take_step h, List.foldl_append]; rfl
theorem lk2_len (l : List Ent) : ∀ (ss : List Txt) (L : List Int), L.length ≤ (lk2 l ss L).length ∧ (lk2 l ss L).length ≤ L.length + ss.length
 | [], L => ⟨Nat.le_refl _, Nat.le_refl _⟩
 | s :: r, L => by
  have h := lk2_len l r (if isB l s = true then L ++ [getI l s] else L)
  have e : lk2 l (s :: r) L = lk2 l r (if isB l s = true then L ++ [getI l s] else L) := rfl
  rw [e]
  have h2 : L.length ≤ (if isB l s = true then L ++ [getI l s] else L).length ∧ (if isB l s = true then L ++ [getI l s] else L).length ≤ L.length + 1 := by
   split
   ·rw [List.length_append]; exact ⟨by omega, Nat.le_refl _⟩
   ·exact ⟨Nat.le_refl _, by omega⟩
  have h3 : (s :: r).length = r.length + 1 := rfl
  omega
theorem lk0_len (f : Fsy) (c : Cal) : ∀ (is : List Int) (L : List Int), L.length ≤ (is.foldl (lk1 f c) L).length ∧ (is.foldl (lk1 f c) L).length ≤ L.length + 2 * is.length
 | [], L => ⟨Nat.le_refl _, Nat.le_refl _⟩
 | i :: r, L => by
  have h := lk0_len f c r (lk1 f c L i)
  have h2 : L.length ≤ (lk1 f c L i).length ∧ (lk1 f c L i).length ≤ L.length + 2 := by
   unfold lk1
   split
   ·exact lk2_len _ _ _
   ·exact ⟨Nat.le_refl _, by omega⟩
  have e : (i :: r).foldl (lk1 f c) L = r.foldl (lk1 f c) (lk1 f c L i) := rfl
  rw [e]
  simp only [List.length_cons]
  omega
theorem looks_len (f : Fsy) (c : Cal) : 2 ≤ (looksL f c).length ∧ (looksL f c).length ≤ 6 := by
 have := lk0_len f c [c.ino, c.to] [c.ino, c.to]
 unfold looksL lk0
 simp only [List.length_cons, List.length_nil] at this
 omega
theorem first_litT {t : Bool} (a b : Txt) : Sub (.sl 1 t [[aS a], [aS b]]) (.sl 1 false ([a, b].map txA)) := Sub.loose _ _ _
def Asc (l : List Int) : Prop := l.Pairwise (· < ·)
theorem asc_ext : ∀ {a b : List Int}, Asc a → Asc b → (∀ x, x ∈ a ↔ x ∈ b) → a = b
 | [], [], _, _, _ => rfl
 | [], y :: r, _, _, h => absurd ((h y).2 (by simp)) (by simp)
 | x :: r, [], _, _, h => absurd ((h x).1 (by simp)) (by simp)
 | x :: r, y :: q, ha, hb, h => by
  obtain ⟨a1, a2⟩ := List.pairwise_cons.1 ha
  obtain ⟨b1, b2⟩ := List.pairwise_cons.1 hb
  have hx := (h x).1 (by simp)
  have hy := (h y).2 (by simp)
  have e : x = y := by
   rcases List.mem_cons.1 hx with e | e
   ·exact e
   ·rcases List.mem_cons.1 hy with e2 | e2
    ·exact e2.symm
    ·have := b1 x e
     have := a1 y e2
     omega
  subst e
  congr 1
  refine asc_ext a2 b2 fun z => ?_
  have hz := h z
  constructor
  ·intro hm
   rcases List.mem_cons.1 (hz.1 (List.mem_cons_of_mem _ hm)) with e | e
   ·have := a1 z hm; omega
   ·exact e
  ·intro hm
   rcases List.mem_cons.1 (hz.2 (List.mem_cons_of_mem _ hm)) with e | e
   ·have := b1 z hm; omega
   ·exact e
theorem asc_parts {l : List Int} (h : Asc l) (n : Int) : (∀ x ∈ l.take (pN l n), x < n) ∧ ∀ x ∈ l.drop (pN l n), n ≤ x := by
 constructor
 ·intro x hx
  obtain ⟨i, hi, rfl⟩ := List.mem_iff_getElem.1 hx
  rw [List.length_take] at hi
  rw [List.getElem_take]
  exact (pN_iff (n := n) (l := l) (k := i) (by omega) (List.getElem?_eq_getElem (by omega))).2 (by omega)
 ·intro x hx
  obtain ⟨i, hi, rfl⟩ := List.mem_iff_getElem.1 hx
  rw [List.length_drop] at hi
  rw [List.getElem_drop]
  have h0 : ¬ l[pN l n]'(by omega) < n := fun hc => by
   have := (pN_iff (n := n) (l := l) (k := pN l n) (Nat.le_refl _) (List.getElem?_eq_getElem (by omega))).1 hc
   omega
  by_cases hi0 : i = 0
  ·subst hi0
   simp only [Nat.add_zero]
   omega
  ·have := List.pairwise_iff_getElem.1 h (pN l n) (pN l n + i) (by omega) (by omega) (by omega)
   omega
theorem with_eq (l : List Int) (n : Int) : withI l n = l.take (pN l n) ++ n :: (l.drop (pN l n)).filter fun x => x != n := by
 unfold withI wiK
 rw [List.take_of_length_le (l := l.drop (pN l n)) (i := l.length - pN l n) (by rw [List.length_drop]; exact Nat.le_refl _)]
theorem with_mem {l : List Int} {n x : Int} : x ∈ withI l n ↔ x = n ∨ x ∈ l := by
 rw [with_eq]
 have e : x ∈ l ↔ x ∈ l.take (pN l n) ∨ x ∈ l.drop (pN l n) := by rw [← List.mem_append, List.take_append_drop]
 rw [e, List.mem_append, List.mem_cons, List.mem_filter]
 constructor
 ·rintro (h | h | h)
  ·exact .inr (.inl h)
  ·exact .inl h
  ·exact .inr (.inr h.1)
 ·rintro (h | h | h)
  ·exact .inr (.inl h)
  ·exact .inl h
  ·by_cases hx : x = n
   ·exact .inr (.inl hx)
   ·exact .inr (.inr ⟨h, by simpa using hx⟩)
theorem with_asc {l : List Int} (h : Asc l) (n : Int) : Asc (withI l n) := by
 obtain ⟨h1, h2⟩ := asc_parts h n
 rw [with_eq]
 have hs : Asc (l.take (pN l n)) := List.Pairwise.sublist (List.take_sublist _ _) h
 have hd : Asc (l.drop (pN l n)) := List.Pairwise.sublist (List.drop_sublist _ _) h
 refine List.pairwise_append.2 ⟨hs, List.pairwise_cons.2 ⟨fun y hy => ?_, List.Pairwise.filter _ hd⟩, fun a ha b hb => ?_⟩
 ·obtain ⟨y1, y2⟩ := List.mem_filter.1 hy
  have := h2 y y1
  have : y ≠ n := by simpa using y2
  omega
 ·have := h1 a ha
  rcases List.mem_cons.1 hb with rfl | hb
  ·exact this
  ·have := h2 b (List.mem_filter.1 hb).1
   omega
def sortU (l : List Int) : List Int := Lib.compact (l.mergeSort fun x y => decide (x ≤ y))
theorem ge_at (l : List Int) {j : Nat} (h : j < l.length) : l.toArray[j]! = l[j] := by simp [h]
theorem compact_mem {l : List Int} {x : Int} : x ∈ Lib.compact l ↔ x ∈ l := by
 unfold Lib.compact Lib.compactUpTo
 rw [List.mem_map]
 constructor
 ·rintro ⟨j, hj, rfl⟩
  have := List.mem_range.1 (List.mem_filter.1 hj).1
  rw [ge_at l this]
  exact List.getElem_mem _
 ·intro hx
  obtain ⟨i, hi, he⟩ := List.mem_iff_getElem.1 hx
  have key : ∀ (n i : Nat) (hi : i < l.length), i ≤ n → l[i] = x → ∃ j, j < l.length ∧ Lib.keeps l.toArray j = true ∧ l.toArray[j]! = x := by
   intro n
   induction n with
   | zero =>
    intro i hi h0 he
    obtain rfl : i = 0 := by omega
    exact ⟨0, hi, Lib.keeps_lt_one _ 0 (by omega), by rw [ge_at l hi]; exact he⟩
   | succ n ih =>
    intro i hi h0 he
    cases hk : Lib.keeps l.toArray i with
    | true => exact ⟨i, hi, hk, by rw [ge_at l hi]; exact he⟩
    | false =>
     have hi0 : i ≠ 0 := fun e => by subst e; rw [Lib.keeps_lt_one _ 0 (by omega)] at hk; cases hk
     have h2 : l[i]'hi = l[i - 1]'(by omega) := by
      unfold Lib.keeps at hk
      have := of_decide_eq_false hk
      rw [not_or, Decidable.not_not] at this
      rw [← ge_at l hi, ← ge_at l (show i - 1 < l.length by omega)]
      exact this.2
     exact ih (i - 1) (by omega) (by omega) (by rw [← h2]; exact he)
  obtain ⟨j, h1, h2, h3⟩ := key i i hi (Nat.le_refl _) he
  exact ⟨j, List.mem_filter.2 ⟨List.mem_range.2 h1, h2⟩, h3⟩
theorem compact_asc {l : List Int} (h : l.Pairwise (· ≤ ·)) : Asc (Lib.compact l) := by
 unfold Lib.compact Lib.compactUpTo Asc
 rw [List.pairwise_map, List.pairwise_filter]
 have hp := List.pairwise_lt_range (n := l.length)
 refine List.Pairwise.imp_of_mem (fun {a b} ha hb hab h1 h2 => ?_) hp
 have ha := List.mem_range.1 ha
 have hb := List.mem_range.1 hb
 rw [ge_at l ha, ge_at l hb]
 unfold Lib.keeps at h2
 have h3 := of_decide_eq_true h2
 have h4 : l[b]'hb ≠ l[b - 1]'(by omega) := by
  rcases h3 with h3 | h3
  ·omega
  ·rwa [ge_at l hb, ge_at l (show b - 1 < l.length by omega)] at h3
 have h5 : l[b - 1]'(by omega) ≤ l[b]'hb := List.pairwise_iff_getElem.1 h (b - 1) b (by omega) hb (by omega)
 by_cases e : a = b - 1
 ·subst e; omega
 ·have h6 : l[a]'ha ≤ l[b - 1]'(by omega) := List.pairwise_iff_getElem.1 h a (b - 1) ha (by omega) (by omega)
  omega
theorem sortU_mem {l : List Int} {x : Int} : x ∈ sortU l ↔ x ∈ l := by
 unfold sortU
 rw [compact_mem]
 exact (List.mergeSort_perm _ _).mem_iff
theorem sortU_asc (l : List Int) : Asc (sortU l) := by
 unfold sortU
 refine compact_asc ?_
 have := List.pairwise_mergeSort (le := fun (x y : Int) => decide (x ≤ y)) (fun a b c h1 h2 => by simp at *; omega) (fun a b => by simp; omega) l
 exact this.imp fun h => by simpa using h
theorem compact_len (l : List Int) : (Lib.compact l).length ≤ l.length := by
 unfold Lib.compact Lib.compactUpTo
 rw [List.length_map]
 have := List.length_filter_le (Lib.keeps l.toArray) (List.range l.length)
 rw [List.length_range] at this
 exact this
theorem sortU_len (l : List Int) : (sortU l).length ≤ l.length := by
 unfold sortU
 have := compact_len (l.mergeSort fun x y => decide (x ≤ y))
 rwa [List.length_mergeSort] at this
def looksU (f : Fsy) (c : Cal) : List Int := if c.kind = 15 then [0] else sortU (looksL f c)
theorem flat_int : ∀ (l : List Int), (l.map intA).flatten = l.map aI
 | [] => rfl
 | x :: r => by
  rw [List.map_cons, List.flatten_cons, flat_int r]; rfl
theorem row_box {D : Nat → Prop} {w : World} {V : Value} {e : TypeId} {l : List Int} (h : BoxR D w (.row V e 1 (l.map intA))) (h1 : 1 ≤ l.length) :
  ∃ g cap cur, V = .slice (some ⟨g, 0, none⟩) l.length cap ∧ w.heap[g]? = some (.cells cur e (0, 0)) ∧ l.length ≤ cap ∧ cap ≤ maxLen ∧ cur.size = cap * 1 ∧ cur.toList.take l.length = l.map (Value.int .i64) := by
 obtain ⟨_, us, h2, _, h4⟩ := h
 have hn : us.length = l.length := by have := h2.1; rw [List.length_map] at this; omega
 have hus : us = l.map (Value.int .i64) := by
  apply List.ext_getElem?
  intro j
  by_cases hj : j < l.length
  ·have hu : us[j]? = some us[j] := List.getElem?_eq_getElem (by omega)
   have := h4 j (aI l[j]) us[j] (by rw [flat_int, List.getElem?_map, List.getElem?_eq_getElem hj]; rfl) hu
   rw [hu, List.getElem?_map, List.getElem?_eq_getElem hj]
   generalize us[j] = q at this
   cases this
   rfl
  ·rw [List.getElem?_eq_none (by omega), List.getElem?_eq_none (by rw [List.length_map]; omega)]
 rw [List.length_map] at h2
 rcases h2.2 with ⟨_, h0⟩ | ⟨g, cap, cur, hv, _, hb, a1, a2, a3, a4⟩
 ·omega
 ·exact ⟨g, cap, cur, hv, hb, a1, a2, a3, by rw [Nat.mul_one] at a4; rw [a4, hus]⟩
theorem box_row {D : Nat → Prop} {w : World} {V : Value} {e : TypeId} {l : List Int} (h : w.ownsRow 0 e 1 V l.length (l.map (Value.int .i64))) : BoxR D w (.row V e 1 (l.map intA)) := by
 refine ⟨fun x hx => ?_, l.map (Value.int .i64), by rw [List.length_map]; exact h, fun u hu => ?_, fun j a u ha hu => ?_⟩
 ·obtain ⟨y, _, rfl⟩ := List.mem_map.1 hx; rfl
 ·obtain ⟨y, _, rfl⟩ := List.mem_map.1 hu; rfl
 ·rw [flat_int, List.getElem?_map] at ha
  rw [List.getElem?_map] at hu
  cases hl : l[j]? with
  | none => rw [hl] at ha; cases ha
  | some x =>
   rw [hl] at ha hu
   obtain rfl := Option.some.inj ha
   obtain rfl := Option.some.inj hu
   exact .val _
theorem sortG_spec (l : List Int) (V : Value) (h1 : 1 ≤ l.length) (hl : l.length ≤ 1000000) : LSpec2 Tryz.prog 101 [.rw 30 V l.length] (.row V 3 1 (l.map intA)) (.tup []) (.row V 3 1 ((l.mergeSort fun x y => decide (x ≤ y)).map intA)) := by
 intro D w vs hD hvs hy hyD
 obtain ⟨g, cap, cur, rfl, hb, hc1, hc2, hc3, ht⟩ := row_box hy h1
 obtain ⟨u, rfl, hu⟩ := RaAll.one hvs
 have hu' : u = .slice (some ⟨g, 0, none⟩) l.length cap := by cases hu; rfl
 subst hu'
 have hg : g < w.heap.size := (Array.getElem?_eq_some_iff.1 hb).1
 refine (Tryz.slices_Sort_int g 0 cap l w (holds_of_blockI hb ht) hg (by omega)).mono ?_
 rintro e w' ⟨rfl, n, os, rfl⟩
 have hgb := Go.grownBy_sortedI (w := w) (g := g) (n := n) (os := os) (l.mergeSort fun x y => decide (x ≤ y)).toArray
 have hlen : (l.mergeSort fun x y => decide (x ≤ y)).length = l.length := List.length_mergeSort l
 have how := Go.ownsRow_sortedI (n := n) (os := os) (ts := l.mergeSort fun x y => decide (x ≤ y)) hlen (Nat.zero_le g) hb hc1 hc2 hc3
 refine ⟨_, D, rfl, ⟨hgb.os, hgb.tape, hgb.output, hgb.size, fun k hk => absurd hk (by omega)⟩, fun k hk hl => hgb.block k hl (fun e => hk e.symm), fun _ h => h, fun b hb => ⟨Nat.lt_of_lt_of_le (hD b hb) hgb.size, .inl hb⟩, fun g' hg' => ⟨.inl hg', hyD g' hg'⟩, box_row (by rw [hlen]; exact how), .tup [] #[] rfl (by simp)⟩
theorem compactG_spec (l : List Int) (V : Value) (h1 : 1 ≤ l.length) (hl : l.length ≤ 1000000) : LSpec Tryz.prog 102 [.rw 30 V l.length] (.row V 3 1 (l.map intA)) (.sl 1 false ((Lib.compact l).map intA)) := by
 intro D w vs hD hvs hy hyD
 obtain ⟨g, cap, cur, rfl, hb, hc1, hc2, hc3, ht⟩ := row_box hy h1
 obtain ⟨u, rfl, hu⟩ := RaAll.one hvs
 have hu' : u = .slice (some ⟨g, 0, none⟩) l.length cap := by cases hu; rfl
 subst hu'
 have hg : g < w.heap.size := (Array.getElem?_eq_some_iff.1 hb).1
 refine (Tryz.slices_Compact_int g 0 cap l w (holds_of_blockI hb ht) (by omega) hc1).mono ?_
 rintro e w' ⟨rfl, q, hw'⟩
 have hcl := compact_len l
 have hlen : (Lib.compact l ++ List.replicate (l.length - (Lib.compact l).length) 0).length = l.length := by rw [List.length_append, List.length_replicate]; omega
 have hgr : ∀ W : World, Go.Sort.grow W #[] = W := fun W => by simp [Go.Sort.grow]
 rw [← hgr (Go.Sort.putRow _ _ _ _ _)] at hw'
 have hgb := Go.grownBy_sortedI (w := w) (g := g) (n := q) (os := #[]) (Lib.compact l ++ List.replicate (l.length - (Lib.compact l).length) 0).toArray
 have how := Go.ownsRow_sortedI (n := q) (os := #[]) (ts := Lib.compact l ++ List.replicate (l.length - (Lib.compact l).length) 0) hlen (Nat.zero_le g) hb hc1 hc2 hc3
 rw [← hw'] at hgb how
 refine ⟨_, fun b => D b ∨ b = g, rfl, ⟨hgb.os, hgb.tape, hgb.output, hgb.size, fun k hk => absurd hk (by omega)⟩, fun k hk hl => hgb.block k hl (fun e => hk e.symm), fun _ h => .inl h, fun b hb => ?_, ?_⟩
 ·rcases hb with hb | rfl
  ·exact ⟨Nat.lt_of_lt_of_le (hD b hb) hgb.size, .inl hb⟩
  ·exact ⟨Nat.lt_of_lt_of_le hg hgb.size, .inr (.inl rfl)⟩
 ·have h := Ra.sl (D := fun b => D b ∨ b = g) (w := w') 1 false ((Lib.compact l).map intA) (some ⟨g, 0, none⟩) cap g 0 (fun i _ => .int .i64 ((Lib.compact l).getD i 0)) (by rw [List.length_map]; omega) (fun h => by cases h) (fun _ => ⟨rfl, .inr rfl, Nat.lt_of_lt_of_le hg hgb.size⟩)
   (fun i e he => by
    rw [List.getElem?_map] at he
    cases hc : (Lib.compact l)[i]? with
    | none => rw [hc] at he; cases he
    | some x => rw [hc] at he; obtain rfl := Option.some.inj he; rfl)
   (fun i e j x he hx => by
    rw [List.getElem?_map] at he
    cases hc : (Lib.compact l)[i]? with
    | none => rw [hc] at he; cases he
    | some y =>
     rw [hc] at he
     obtain rfl := Option.some.inj he
     have hj : j = 0 := by have := (List.getElem?_eq_some_iff.1 hx).1; have e : (intA y).length = 1 := rfl; omega
     subst hj
     have hi := (List.getElem?_eq_some_iff.1 hc).1
     refine ⟨?_, rfl⟩
     rw [Nat.mul_one, Nat.add_zero, Nat.zero_add, how.cellAt i (by omega), List.getElem?_map, List.getElem?_append_left hi, hc]
     simp [List.getD, hc])
   (fun i e j x he hx => by
    rw [List.getElem?_map] at he
    cases hc : (Lib.compact l)[i]? with
    | none => rw [hc] at he; cases he
    | some y =>
     rw [hc] at he
     obtain rfl := Option.some.inj he
     have hj : j = 0 := by have := (List.getElem?_eq_some_iff.1 hx).1; have e : (intA y).length = 1 := rfl; omega
     subst hj
     obtain rfl := Option.some.inj hx
     have e : (Lib.compact l).getD i 0 = y := by simp [List.getD, hc]
     show Ra _ _ (aI y) (.int .i64 ((Lib.compact l).getD i 0))
     rw [e]
     exact .val _)
  rw [List.length_map] at h
  exact h
end Go.Proofs.YtkhnialfkndiiaaGreat
