/- slices.Sort of 12 numbers at most. slices.Sort of 12 numbers at most, Clone, Compact; ops.gather. slices.Compact where neighbours differ; ops.gather, ops.Looks. ops.Looks. -/
import Derived.Test.YtkhnialfkndiiaaGreatMrgY
set_option linter.unusedVariables false
set_option linter.unusedSimpArgs false
namespace Go.Proofs.YtkhnialfkndiiaaGreat
open Go Go.RowKit Copyhold
set_option maxRecDepth 100000 in
set_option maxHeartbeats 4000000 in
theorem nan_spec (x : Int) : FSpec Tryz.prog 168 [aI x] (aB false) := by
  exact spec_vc (F := Tryz.f168) 400 (
 .r 1 <| .r 4 <| .fin (x := aB (x != x)) (r := aB false) [] trivial (by exact Sub.of_eq (by first | rfl | (congr 1; simp)))) Tryz.func168 rfl (by kernel_rfl) (by kernel_rfl)
set_option maxRecDepth 100000 in
set_option maxHeartbeats 4000000 in
theorem less_spec (x y : Int) : FSpec Tryz.prog 152 [aI x, aI y] (aB (decide (x < y))) := by
  exact spec_vc (F := Tryz.f152) 400 (
 .r 1 <| .r 1 <| .call (nan_spec x) <|
 .r 11 <| .fin (x := aB (decide (x < y))) (r := aB (decide (x < y))) [] trivial (by exact Sub.refl _)) Tryz.func152 rfl (by kernel_rfl) (by kernel_rfl)
set_option maxRecDepth 100000 in
set_option maxHeartbeats 4000000 in
theorem ins_spec (l : List Int) (V : Value) (h1 : 1 ≤ l.length) (hl : l.length ≤ 12) : LSpec2 Tryz.prog 146 [.rw 30 V l.length, aI 0, aI (l.length : Int)] (.row V 3 1 (l.map intA)) (.tup []) (.row V 3 1 ((sortF l).map intA)) := by
  exact lspec2_vc (q := 30) (F := Tryz.f146) 400 (
 .run 3 [rng .i64 (0 + 1)] ⟨rng64 (by omega) (by omega), trivial⟩ <|
 let L1 : Lp (Nat) := ⟨fun a1 => ⟨[(0, .rw 30 V l.length), (1, aI 0), (2, aI (l.length : Int)), (6, aI (a1 : Int))], [(30, .row V 3 1 ((insK l a1).map intA))]⟩, fun a1 => l.length - a1, fun a1 => 1 ≤ a1 ∧ a1 ≤ l.length⟩
 .loop L1 1 (show 1 ≤ 1 ∧ 1 ≤ l.length from ⟨Nat.le_refl _, h1⟩) ⟨[(0, .rw 30 V l.length), (1, aI 0), (2, aI (l.length : Int)), (6, aI (0 + 1))], [(30, .row V 3 1 (l.map intA))]⟩ ⟨Sub.refl _, Sub.refl _, Sub.refl _, Sub.of_eq (congrArg aI (by first | omega | rfl)), trivial⟩ ⟨⟨_, rfl, SubB.of_eq rfl⟩, trivial⟩ fun a1 ha1 =>
 (fun (i : Nat) (hH1 : 1 ≤ i ∧ i ≤ l.length) => .r 3 <| .br 12 (decide ((i : Int) < (l.length : Int))) (fun q1 => have p1 := decT q1; .r 2 <| let L2 : Lp (Nat × List Int) := ⟨fun a2 => ⟨[(0, .rw 30 V l.length), (1, aI 0), (2, aI (l.length : Int)), (6, aI (i : Int)), (7, aI (a2.1 : Int))], [(30, .row V 3 1 (a2.2.map intA))]⟩, fun a2 => a2.1, fun a2 => a2.1 ≤ i ∧ a2.2.length = l.length ∧ downF a2.2 a2.1 = downF (insK l i) i⟩
 .loop L2 (i, (insK l i)) (show i ≤ i ∧ (insK l i).length = l.length ∧ downF (insK l i) i = downF (insK l i) i from ⟨Nat.le_refl _, ins_len l i, rfl⟩) ⟨[(0, .rw 30 V l.length), (1, aI 0), (2, aI (l.length : Int)), (6, aI (i : Int)), (7, aI (i : Int))], [(30, .row V 3 1 ((insK l i).map intA))]⟩ ⟨Sub.refl _, Sub.refl _, Sub.refl _, Sub.refl _, Sub.refl _, trivial⟩ ⟨⟨_, rfl, SubB.refl _⟩, trivial⟩ fun a2 ha2 =>
 (fun (j : Nat) (L : List Int) (hH2 : j ≤ i ∧ L.length = l.length ∧ downF L j = downF (insK l i) i) => .st (rowR 30) (V, 3, 1, L.map intA) (fun _ σ => σ) (rule_shape 30 (by first | omega | (simp only [List.length_map, List.length_set]; omega))) fun a1r =>
 .ord [0, 1, 2, 3, 4, 5, 6, 7, 8, 9, 10, 11, 12, 13, 14] <| .r 4 <| .br 19 (decide ((j : Int) > 0)) (fun q2 => have p2 := decT q2; .r 2 <| .op (ixR Tryz.prog) (30, V, l.length, 1, (j : Int), some 22) (fun (_ : Unit) σ => σ.put (some 22) (.ep 30 V 1 j 0)) (rule_ixR j a1r.2.1 (by omega) (by first | omega | (simp only [List.length_map, List.length_set]; omega))) fun _ =>
 .ex (some_of (l := L) (k := j) (by first | omega | (simp only [List.length_map, List.length_set]; omega))) fun x1 hx1 =>
 .op (ldR Tryz.prog) (V, 1, j, 0, V, 1, L.map intA, 3, some 23) (fun (_ : Unit) σ => σ.put (some 23) (aI x1)) (rule_ldR (intA x1) (map_some hx1) (by kernel_rfl)) fun _ =>
 .run 3 [rng .i64 ((j : Int) - 1)] ⟨rng64 (by omega) (by omega), trivial⟩ <|
 .op (ixR Tryz.prog) (30, V, l.length, 1, (j : Int) - 1, some 27) (fun (_ : Unit) σ => σ.put (some 27) (.ep 30 V 1 (j - 1) 0)) (rule_ixR (j - 1) a1r.2.1 (by omega) (by first | omega | (simp only [List.length_map, List.length_set]; omega))) fun _ =>
 .ex (some_of (l := L) (k := (j - 1)) (by first | omega | (simp only [List.length_map, List.length_set]; omega))) fun x2 hx2 =>
 .op (ldR Tryz.prog) (V, 1, (j - 1), 0, V, 1, L.map intA, 3, some 28) (fun (_ : Unit) σ => σ.put (some 28) (aI x2)) (rule_ldR (intA x2) (map_some hx2) (by kernel_rfl)) fun _ =>
 .call (less_spec x1 x2) <|
 .r 1 <| .br 30 (decide (x1 < x2)) (fun q3 => have p3 := decT q3; .st (rowR 30) (V, 3, 1, L.map intA) (fun _ σ => σ) (rule_shape 30 (by first | omega | (simp only [List.length_map, List.length_set]; omega))) fun a2r =>
 .ord [0, 1, 2, 3, 4, 5, 6, 7, 8, 9, 10, 11, 12, 13, 14, 15, 16, 17] <| .run 8 [rng .i64 ((j : Int) - 1), rng .i64 ((j : Int) - 1)] ⟨rng64 (by omega) (by omega), rng64 (by omega) (by omega), trivial⟩ <|
 .op (ixR Tryz.prog) (30, V, l.length, 1, (j : Int) - 1, some 41) (fun (_ : Unit) σ => σ.put (some 41) (.ep 30 V 1 (j - 1) 0)) (rule_ixR (j - 1) a2r.2.1 (by omega) (by first | omega | (simp only [List.length_map, List.length_set]; omega))) fun _ =>
 .op (ldR Tryz.prog) (V, 1, (j - 1), 0, V, 1, L.map intA, 3, some 42) (fun (_ : Unit) σ => σ.put (some 42) (aI x2)) (rule_ldR (intA x2) (map_some hx2) (by kernel_rfl)) fun _ =>
 .r 2 <| .op (ixR Tryz.prog) (30, V, l.length, 1, (j : Int), some 45) (fun (_ : Unit) σ => σ.put (some 45) (.ep 30 V 1 j 0)) (rule_ixR j a2r.2.1 (by omega) (by first | omega | (simp only [List.length_map, List.length_set]; omega))) fun _ =>
 .op (ldR Tryz.prog) (V, 1, j, 0, V, 1, L.map intA, 3, some 46) (fun (_ : Unit) σ => σ.put (some 46) (aI x1)) (rule_ldR (intA x1) (map_some hx1) (by kernel_rfl)) fun _ =>
 .op (ixR Tryz.prog) (30, V, l.length, 1, (j : Int), some 47) (fun (_ : Unit) σ => σ.put (some 47) (.ep 30 V 1 j 0)) (rule_ixR j a2r.2.1 (by omega) (by first | omega | (simp only [List.length_map, List.length_set]; omega))) fun _ =>
 .op (stR Tryz.prog) (30, V, 1, j, 0, V, 3, 1, L.map intA, [aI x2], none) (fun (_ : Unit) σ => (σ.put (none) .any).setB 30 (.row V 3 1 ((L.map intA).set j ((intA x1).take 0 ++ [aI x2] ++ (intA x1).drop (0 + [aI x2].length))))) (rule_stR (intA x1) (map_some hx1) (Nat.le_of_ble_eq_true rfl)) fun _ =>
 .op (ixR Tryz.prog) (30, V, l.length, 1, (j : Int) - 1, some 48) (fun (_ : Unit) σ => σ.put (some 48) (.ep 30 V 1 (j - 1) 0)) (rule_ixR (j - 1) a2r.2.1 (by omega) (by first | omega | (simp only [List.length_map, List.length_set]; omega))) fun _ =>
 .op (stR Tryz.prog) (30, V, 1, (j - 1), 0, V, 3, 1, (L.map intA).set j ((intA x1).take 0 ++ [aI x2] ++ (intA x1).drop (0 + [aI x2].length)), [aI x1], none) (fun (_ : Unit) σ => (σ.put (none) .any).setB 30 (.row V 3 1 (((L.map intA).set j ((intA x1).take 0 ++ [aI x2] ++ (intA x1).drop (0 + [aI x2].length))).set (j - 1) ((intA x2).take 0 ++ [aI x1] ++ (intA x2).drop (0 + [aI x1].length))))) (rule_stR (intA x2) (by rw [List.getElem?_set_ne (by omega)]; exact map_some hx2) (Nat.le_of_ble_eq_true rfl)) fun _ =>
 .run 3 [rng .i64 ((j : Int) - 1)] ⟨rng64 (by omega) (by omega), trivial⟩ <|
 .back L2 (j, L) ((j - 1), (swapL L j x1 x2)) (show (j - 1) ≤ i ∧ (swapL L j x1 x2).length = l.length ∧ downF (swapL L j x1 x2) (j - 1) = downF (insK l i) i from ⟨by omega, by rw [swap_len]; exact hH2.2.1, by rw [← down_go (by omega) hx1 hx2 (by omega)]; exact hH2.2.2⟩) (show (j - 1) < j from (by omega)) ⟨[(0, .rw 30 V l.length), (1, aI 0), (2, aI (l.length : Int)), (6, aI (i : Int)), (7, aI ((j : Int) - 1))], [(30, .row V 3 1 (((L.map intA).set j ((intA x1).take 0 ++ [aI x2] ++ (intA x1).drop (0 + [aI x2].length))).set (j - 1) ((intA x2).take 0 ++ [aI x1] ++ (intA x2).drop (0 + [aI x1].length))))]⟩ ⟨Sub.refl _, Sub.refl _, Sub.refl _, Sub.refl _, Sub.of_eq (congrArg aI (by omega)), trivial⟩ ⟨⟨_, rfl, SubB.of_eq (by unfold swapL; first | (simp [intA, List.map_set]; done) | (rw [List.set_comm _ _ (by omega)]; simp [intA, List.map_set]; done))⟩, trivial⟩)
 <| fun q3 => have p3 := decF q3; .run 3 [rng .i64 ((i : Int) + 1)] ⟨rng64 (by omega) (by omega), trivial⟩ <|
 .back L1 i (i + 1) (show 1 ≤ (i + 1) ∧ (i + 1) ≤ l.length from ⟨by omega, by omega⟩) (show l.length - (i + 1) < l.length - i from (by omega)) ⟨[(0, .rw 30 V l.length), (1, aI 0), (2, aI (l.length : Int)), (6, aI ((i : Int) + 1))], [(30, .row V 3 1 (L.map intA))]⟩ ⟨Sub.refl _, Sub.refl _, Sub.refl _, Sub.of_eq (congrArg aI (by first | omega | rfl)), trivial⟩ ⟨⟨_, rfl, SubB.of_eq (by rw [ins_step hH1.1, ← hH2.2.2]; first | (rw [down_stop (by assumption) (by assumption) (by omega)]; done) | (rw [show j = 0 from by omega]; rfl))⟩, trivial⟩)
 <| fun q2 => have p2 := decF q2; .r 11 <| .run 3 [rng .i64 ((i : Int) + 1)] ⟨rng64 (by omega) (by omega), trivial⟩ <|
 .back L1 i (i + 1) (show 1 ≤ (i + 1) ∧ (i + 1) ≤ l.length from ⟨by omega, by omega⟩) (show l.length - (i + 1) < l.length - i from (by omega)) ⟨[(0, .rw 30 V l.length), (1, aI 0), (2, aI (l.length : Int)), (6, aI ((i : Int) + 1))], [(30, .row V 3 1 (L.map intA))]⟩ ⟨Sub.refl _, Sub.refl _, Sub.refl _, Sub.of_eq (congrArg aI (by first | omega | rfl)), trivial⟩ ⟨⟨_, rfl, SubB.of_eq (by rw [ins_step hH1.1, ← hH2.2.2]; first | (rw [down_stop (by assumption) (by assumption) (by omega)]; done) | (rw [show j = 0 from by omega]; rfl))⟩, trivial⟩) a2.1 a2.2 ha2)
 <| fun q1 => have p1 := decF q1; .st (rowR 30) (V, 3, 1, (insK l i).map intA) (fun (_ : Unit) σ => σ.setB 30 (.row V 3 1 ((sortF l).map intA))) (rule_rwE (by unfold sortF; rw [show l.length = i from by omega])) fun _ =>
 .finB (x := .tup []) (r := .tup []) [] trivial (.row V 3 1 ((sortF l).map intA)) (by exact Sub.refl _)) a1 ha1) Tryz.func146 rfl (by kernel_rfl) (by kernel_rfl)
end Go.Proofs.YtkhnialfkndiiaaGreat

set_option linter.unusedVariables false
set_option linter.unusedSimpArgs false
namespace Go.Proofs.YtkhnialfkndiiaaGreat
open Go Go.RowKit Copyhold
def lenB (n : Int) : Int := if n = 0 then 0 else if n = 1 then 1 else if n ≤ 3 then 2 else if n ≤ 7 then 3 else 4
set_option maxRecDepth 100000 in
theorem len_c0 (w : World) : Calls Tryz.prog 156 #[.int .u64 0] w fun e w' => e = .returned (.int .i64 0) ∧ w = w' := by
  go_enter Tryz.func156, Tryz.ntmps156
  go_wp2_with fail
  go_ret
  exact ⟨by kernel_rfl, rfl⟩
set_option maxRecDepth 100000 in
theorem len_c1 (w : World) : Calls Tryz.prog 156 #[.int .u64 1] w fun e w' => e = .returned (.int .i64 1) ∧ w = w' := by
  go_enter Tryz.func156, Tryz.ntmps156
  go_wp2_with fail
  go_ret
  exact ⟨by kernel_rfl, rfl⟩
set_option maxRecDepth 100000 in
theorem len_c2 (w : World) : Calls Tryz.prog 156 #[.int .u64 2] w fun e w' => e = .returned (.int .i64 2) ∧ w = w' := by
  go_enter Tryz.func156, Tryz.ntmps156
  go_wp2_with fail
  go_ret
  exact ⟨by kernel_rfl, rfl⟩
set_option maxRecDepth 100000 in
theorem len_c3 (w : World) : Calls Tryz.prog 156 #[.int .u64 3] w fun e w' => e = .returned (.int .i64 2) ∧ w = w' := by
  go_enter Tryz.func156, Tryz.ntmps156
  go_wp2_with fail
  go_ret
  exact ⟨by kernel_rfl, rfl⟩
set_option maxRecDepth 100000 in
theorem len_c4 (w : World) : Calls Tryz.prog 156 #[.int .u64 4] w fun e w' => e = .returned (.int .i64 3) ∧ w = w' := by
  go_enter Tryz.func156, Tryz.ntmps156
  go_wp2_with fail
  go_ret
  exact ⟨by kernel_rfl, rfl⟩
set_option maxRecDepth 100000 in
theorem len_c5 (w : World) : Calls Tryz.prog 156 #[.int .u64 5] w fun e w' => e = .returned (.int .i64 3) ∧ w = w' := by
  go_enter Tryz.func156, Tryz.ntmps156
  go_wp2_with fail
  go_ret
  exact ⟨by kernel_rfl, rfl⟩
set_option maxRecDepth 100000 in
theorem len_c6 (w : World) : Calls Tryz.prog 156 #[.int .u64 6] w fun e w' => e = .returned (.int .i64 3) ∧ w = w' := by
  go_enter Tryz.func156, Tryz.ntmps156
  go_wp2_with fail
  go_ret
  exact ⟨by kernel_rfl, rfl⟩
set_option maxRecDepth 100000 in
theorem len_c7 (w : World) : Calls Tryz.prog 156 #[.int .u64 7] w fun e w' => e = .returned (.int .i64 3) ∧ w = w' := by
  go_enter Tryz.func156, Tryz.ntmps156
  go_wp2_with fail
  go_ret
  exact ⟨by kernel_rfl, rfl⟩
set_option maxRecDepth 100000 in
theorem len_c8 (w : World) : Calls Tryz.prog 156 #[.int .u64 8] w fun e w' => e = .returned (.int .i64 4) ∧ w = w' := by
  go_enter Tryz.func156, Tryz.ntmps156
  go_wp2_with fail
  go_ret
  exact ⟨by kernel_rfl, rfl⟩
set_option maxRecDepth 100000 in
theorem len_c9 (w : World) : Calls Tryz.prog 156 #[.int .u64 9] w fun e w' => e = .returned (.int .i64 4) ∧ w = w' := by
  go_enter Tryz.func156, Tryz.ntmps156
  go_wp2_with fail
  go_ret
  exact ⟨by kernel_rfl, rfl⟩
set_option maxRecDepth 100000 in
theorem len_c10 (w : World) : Calls Tryz.prog 156 #[.int .u64 10] w fun e w' => e = .returned (.int .i64 4) ∧ w = w' := by
  go_enter Tryz.func156, Tryz.ntmps156
  go_wp2_with fail
  go_ret
  exact ⟨by kernel_rfl, rfl⟩
set_option maxRecDepth 100000 in
theorem len_c11 (w : World) : Calls Tryz.prog 156 #[.int .u64 11] w fun e w' => e = .returned (.int .i64 4) ∧ w = w' := by
  go_enter Tryz.func156, Tryz.ntmps156
  go_wp2_with fail
  go_ret
  exact ⟨by kernel_rfl, rfl⟩
set_option maxRecDepth 100000 in
theorem len_c12 (w : World) : Calls Tryz.prog 156 #[.int .u64 12] w fun e w' => e = .returned (.int .i64 4) ∧ w = w' := by
  go_enter Tryz.func156, Tryz.ntmps156
  go_wp2_with fail
  go_ret
  exact ⟨by kernel_rfl, rfl⟩
theorem len_calls (n : Int) (h0 : 0 ≤ n) (h1 : n ≤ 12) (w : World) : Calls Tryz.prog 156 #[.int .u64 n] w fun e w' => e = .returned (.int .i64 (lenB n)) ∧ w = w' := by
  rcases (show n = 0 ∨ n = 1 ∨ n = 2 ∨ n = 3 ∨ n = 4 ∨ n = 5 ∨ n = 6 ∨ n = 7 ∨ n = 8 ∨ n = 9 ∨ n = 10 ∨ n = 11 ∨ n = 12 from by omega) with rfl | rfl | rfl | rfl | rfl | rfl | rfl | rfl | rfl | rfl | rfl | rfl | rfl
  · exact len_c0 w
  · exact len_c1 w
  · exact len_c2 w
  · exact len_c3 w
  · exact len_c4 w
  · exact len_c5 w
  · exact len_c6 w
  · exact len_c7 w
  · exact len_c8 w
  · exact len_c9 w
  · exact len_c10 w
  · exact len_c11 w
  · exact len_c12 w
theorem len_call2 (n : Int) (h0 : 0 ≤ n) (h1 : n ≤ 12) (w : World) : Calls Tryz.prog 131 #[.int .u64 n] w fun e w' => e = .returned (.int .i64 (lenB n)) ∧ w = w' := by
  go_enter Tryz.func131, Tryz.ntmps131
  go_wp2_with fail
  refine (len_calls n h0 h1 _).mono ?_
  rintro e w1 ⟨rfl, rfl⟩
  go_wp2_with fail
  go_ret
  exact ⟨rfl, rfl⟩
theorem len_spec (n : Int) (h0 : 0 ≤ n) (h1 : n ≤ 12) : FSpec Tryz.prog 131 [.val (.int .u64 n)] (aI (lenB n)) := fspec_plain (fun D w => .val _) fun D w vs h => by
  obtain ⟨u, rfl, hu⟩ := RaAll.one h
  cases hu
  exact (len_call2 n h0 h1 w).mono fun e w' ⟨g1, g2⟩ => ⟨g1, g2 ▸ Below.refl _ _⟩
set_option maxRecDepth 100000 in
set_option maxHeartbeats 4000000 in
theorem pdq_spec (l : List Int) (V : Value) (lm : Int) (h1 : 1 ≤ l.length) (hl : l.length ≤ 12) : LSpec2 Tryz.prog 130 [.rw 30 V l.length, aI 0, aI (l.length : Int), aI lm] (.row V 3 1 (l.map intA)) (.tup []) (.row V 3 1 ((sortF l).map intA)) := by
  exact lspec2_vc (q := 30) (F := Tryz.f130) 400 (
 .r 1 <| .r 1 <| let L1 : Lp (Nat) := ⟨fun a1 => ⟨[(0, .rw 30 V l.length), (1, aI 0), (2, aI (l.length : Int)), (3, aI lm), (8, aB true), (9, aB true)], [(30, .row V 3 1 (l.map intA))]⟩, fun a1 => 0 - a1, fun a1 => 0 ≤ a1⟩
 .loop L1 0 (show 0 ≤ 0 from Nat.zero_le _) ⟨[(0, .rw 30 V l.length), (1, aI 0), (2, aI (l.length : Int)), (3, aI lm), (8, aB true), (9, aB true)], [(30, .row V 3 1 (l.map intA))]⟩ ⟨Sub.refl _, Sub.refl _, Sub.refl _, Sub.refl _, Sub.refl _, Sub.refl _, trivial⟩ ⟨⟨_, rfl, SubB.refl _⟩, trivial⟩ fun a1 ha1 =>
 (fun (k : Nat) (hH1 : 0 ≤ k) => .run 4 [rng .i64 ((l.length : Int) - 0)] ⟨rng64 (by omega) (by omega), trivial⟩ <|
 .r 2 <| .is 23 (show (decide (((l.length : Int) - 0) ≤ 12)) = true from (decide_eq_true (by omega))) <| .lent 3 <| .r 3 <| .lop (lcR Tryz.prog 30) ((146, [.rw 30 V l.length, aI 0, aI (l.length : Int)], some 27), .row V 3 1 (l.map intA)) (fun (_ : Unit) σ => (σ.put (some 27) (.tup [])).setB 30 (.row V 3 1 ((sortF l).map intA))) (rule_lent2 (args' := [.rw 30 V l.length, aI 0, aI (l.length : Int)]) ⟨Sub.refl _, Sub.refl _, Sub.refl _, trivial⟩ (ins_spec l V h1 hl)) fun _ =>
 .finB (x := .tup []) (r := .tup []) [] trivial (.row V 3 1 ((sortF l).map intA)) (by exact Sub.refl _)) a1 ha1) Tryz.func130 rfl (by kernel_rfl) (by kernel_rfl)
set_option maxRecDepth 100000 in
set_option maxHeartbeats 4000000 in
theorem sort_spec (l : List Int) (V : Value) (h1 : 1 ≤ l.length) (hl : l.length ≤ 12) : LSpec2 Tryz.prog 101 [.rw 30 V l.length] (.row V 3 1 (l.map intA)) (.tup []) (.row V 3 1 ((sortF l).map intA)) := by
  exact lspec2_vc (q := 30) (F := Tryz.f101) 400 (
 .r 3 <| .lent 5 <| .r 3 <| .op (cvR) (3, 151, .int .i64 (l.length : Int), some 8) (fun (_ : Unit) σ => σ.put (some 8) (.val (.int .u64 (l.length : Int)))) (rule_cv (conv_int (by kernel_rfl) (by kernel_rfl) (rngu (by omega) (by omega)))) fun _ =>
 .call (len_spec (l.length : Int) (by omega) (by omega)) <|
 .lop (lcR Tryz.prog 30) ((130, [.rw 30 V l.length, aI 0, aI (l.length : Int), aI (lenB (l.length : Int))], some 10), .row V 3 1 (l.map intA)) (fun (_ : Unit) σ => (σ.put (some 10) (.tup [])).setB 30 (.row V 3 1 ((sortF l).map intA))) (rule_lent2 (args' := [.rw 30 V l.length, aI 0, aI (l.length : Int), aI (lenB (l.length : Int))]) ⟨Sub.refl _, Sub.refl _, Sub.refl _, Sub.refl _, trivial⟩ (pdq_spec l V (lenB (l.length : Int)) h1 hl)) fun _ =>
 .finB (x := .tup []) (r := .tup []) [] trivial (.row V 3 1 ((sortF l).map intA)) (by exact Sub.refl _)) Tryz.func101 rfl (by kernel_rfl) (by kernel_rfl)
set_option maxRecDepth 100000 in
set_option maxHeartbeats 4000000 in
theorem clone_spec (l : List Int) (h1 : 1 ≤ l.length) (hl : l.length ≤ 12) : RowSpecD Tryz.prog 100 [.sl 1 false (l.map intA)] 3 1 (l.map intA) := by
  exact specRow_vc (F := Tryz.f100) 400 (
 .r 1 <| .r 1 <| .isNil (l.map intA) fun b1 hnb1 =>
 .br 4 (b1) (fun q1 => have p1 := booT q1; .r 1 <| .rowNil 199 2 3 1 <| .finRow (x := []) (r := l.map intA) [] trivial 199 3 1 (0) (.slice none 0 0) (by first | (simp; done) | (exfalso; have h0 : l = [] := (by simpa using hnb1 (by assumption)); rw [h0] at h1; simp at h1)))
 <| fun q1 => have p1 := booF q1; .lit0 fun V1 => .r 1 <| .app 8 V1 ([] : List (List AV)) (l.map intA) (by simp <;> omega) (by simp <;> omega) fun V2 =>
 .r 1 <| .finRow (x := ([] : List (List AV)) ++ (l.map intA)) (r := l.map intA) [] trivial 5 3 1 (([] : List (List AV)).length + (l.map intA).length) V2 (by first | (simp; done) | (exfalso; have h0 : l = [] := (by simpa using hnb1 (by assumption)); rw [h0] at h1; simp at h1))) Tryz.func100 rfl (by kernel_rfl) (by kernel_rfl)
end Go.Proofs.YtkhnialfkndiiaaGreat

set_option linter.unusedVariables false
set_option linter.unusedSimpArgs false
namespace Go.Proofs.YtkhnialfkndiiaaGreat
open Go Go.RowKit Copyhold
def AdjN (l : List Int) : Prop := ∀ (k : Nat) (x y : Int), 1 ≤ k → l[k]? = some x → l[k - 1]? = some y → ¬ x = y
set_option maxRecDepth 100000 in
set_option maxHeartbeats 4000000 in
theorem compact_spec (l : List Int) (V : Value) (h1 : 1 ≤ l.length) (hl : l.length ≤ 12) (hd : AdjN l) : LSpec Tryz.prog 102 [.rw 30 V l.length] (.row V 3 1 (l.map intA)) (.sl 1 false (l.map intA)) := by
  exact lspec_vc (q := 30) (F := Tryz.f102) 400 (
 .r 1 <| .r 3 <| .br 8 (decide ((l.length : Int) < 2)) (fun q1 => have p1 := decT q1; .r 2 <| .frz 30 [2] [] [V = V, l.length = (l.map intA).length] ⟨rfl, (by first | rfl | (simp; done) | (simp; omega)), trivial⟩ <|
 .fin (x := .sl 1 false (l.map intA)) (r := .sl 1 false (l.map intA)) [] trivial (by exact Sub.refl _))
 <| fun q1 => have p1 := decF q1; .r 1 <| let L1 : Lp (Nat) := ⟨fun a1 => ⟨[(0, .rw 30 V l.length), (3, aI (a1 : Int))], [(30, .row V 3 1 (l.map intA))]⟩, fun a1 => l.length - a1, fun a1 => 1 ≤ a1⟩
 .loop L1 1 (show 1 ≤ 1 from Nat.le_refl _) ⟨[(0, .rw 30 V l.length), (3, aI 1)], [(30, .row V 3 1 (l.map intA))]⟩ ⟨Sub.refl _, Sub.of_eq (congrArg aI (by first | omega | rfl)), trivial⟩ ⟨⟨_, rfl, SubB.refl _⟩, trivial⟩ fun a1 ha1 =>
 (fun (k : Nat) (hH1 : 1 ≤ k) => .r 4 <| .br 13 (decide ((k : Int) < (l.length : Int))) (fun q2 => have p2 := decT q2; .st (rowR 30) (V, 3, 1, l.map intA) (fun _ σ => σ) (rule_shape 30 (by first | omega | (simp only [List.length_map, List.length_set]; omega))) fun a1r =>
 .ord [0, 1, 2, 3, 4, 5, 6, 7, 8, 9] <| .r 2 <| .op (ixR Tryz.prog) (30, V, l.length, 1, (k : Int), some 18) (fun (_ : Unit) σ => σ.put (some 18) (.ep 30 V 1 k 0)) (rule_ixR k a1r.2.1 (by omega) (by first | omega | (simp only [List.length_map, List.length_set]; omega))) fun _ =>
 .ex (some_of (l := l) (k := k) (by first | omega | (simp only [List.length_map, List.length_set]; omega))) fun x1 hx1 =>
 .op (ldR Tryz.prog) (V, 1, k, 0, V, 1, l.map intA, 3, some 19) (fun (_ : Unit) σ => σ.put (some 19) (aI x1)) (rule_ldR (intA x1) (map_some hx1) (by kernel_rfl)) fun _ =>
 .run 3 [rng .i64 ((k : Int) - 1)] ⟨rng64 (by omega) (by omega), trivial⟩ <|
 .op (ixR Tryz.prog) (30, V, l.length, 1, (k : Int) - 1, some 23) (fun (_ : Unit) σ => σ.put (some 23) (.ep 30 V 1 (k - 1) 0)) (rule_ixR (k - 1) a1r.2.1 (by omega) (by first | omega | (simp only [List.length_map, List.length_set]; omega))) fun _ =>
 .ex (some_of (l := l) (k := (k - 1)) (by first | omega | (simp only [List.length_map, List.length_set]; omega))) fun x2 hx2 =>
 .op (ldR Tryz.prog) (V, 1, (k - 1), 0, V, 1, l.map intA, 3, some 24) (fun (_ : Unit) σ => σ.put (some 24) (aI x2)) (rule_ldR (intA x2) (map_some hx2) (by kernel_rfl)) fun _ =>
 .r 1 <| .is 25 (show (x1 == x2) = false from (by simpa using hd k x1 x2 (by omega) hx1 hx2)) <| .run 3 [rng .i64 ((k : Int) + 1)] ⟨rng64 (by omega) (by omega), trivial⟩ <|
 .back L1 k (k + 1) (show 1 ≤ (k + 1) from (by show 1 ≤ _; omega)) (show l.length - (k + 1) < l.length - k from (by omega)) ⟨[(0, .rw 30 V l.length), (3, aI ((k : Int) + 1))], [(30, .row V 3 1 (l.map intA))]⟩ ⟨Sub.refl _, Sub.of_eq (congrArg aI (by first | omega | rfl)), trivial⟩ ⟨⟨_, rfl, SubB.refl _⟩, trivial⟩)
 <| fun q2 => have p2 := decF q2; .r 2 <| .frz 30 [2] [] [V = V, l.length = (l.map intA).length] ⟨rfl, (by first | rfl | (simp; done) | (simp; omega)), trivial⟩ <|
 .fin (x := .sl 1 false (l.map intA)) (r := .sl 1 false (l.map intA)) [] trivial (by exact Sub.refl _)) a1 ha1) Tryz.func102 rfl (by kernel_rfl) (by kernel_rfl)
set_option maxRecDepth 100000 in
set_option maxHeartbeats 4000000 in
theorem gather_spec (l : List Int) (h1 : 1 ≤ l.length) (hl : l.length ≤ 12) (hd : AdjN (sortF l)) : FSpec Tryz.prog 52 [.sl 1 false (l.map intA)] (.sl 1 false ((sortF l).map intA)) := by
  exact spec_vc (F := Tryz.f52) 400 (
 .r 1 <| .r 1 <| .op (crR Tryz.prog 30) (100, [.sl 1 false (l.map intA)], 5) (fun (V : Value) σ => (σ.put (some 5) (.rw 30 V (l.map intA).length)).setB 30 (.row V 3 1 (l.map intA))) (rule_cr (args' := [.sl 1 false (l.map intA)]) ⟨Sub.refl _, trivial⟩ (clone_spec l h1 hl)) fun V1 =>
 .r 1 <| .lent 1 <| .r 1 <| .lop (lcR Tryz.prog 30) ((101, [.rw 30 V1 ((l.map intA).length)], some 7), .row V1 3 1 (l.map intA)) (fun (_ : Unit) σ => (σ.put (some 7) (.tup [])).setB 30 (.row V1 3 1 ((sortF l).map intA))) (rule_lent2 (args' := [.rw 30 V1 l.length]) ⟨Sub.of_eq (congrArg (AV.rw 30 V1) (by simp)), trivial⟩ (sort_spec l V1 h1 hl)) fun _ =>
 .lent 1 <| .r 1 <| .lop (lcR Tryz.prog 30) ((102, [.rw 30 V1 ((l.map intA).length)], some 9), .row V1 3 1 ((sortF l).map intA)) (fun (_ : Unit) σ => (σ.put (some 9) (.sl 1 false ((sortF l).map intA))).setB 30 gone) (rule_lent (args' := [.rw 30 V1 ((sortF l).length)]) ⟨Sub.of_eq (congrArg (AV.rw 30 V1) (by simp [sortF, ins_len])), trivial⟩ (compact_spec (sortF l) V1 (by unfold sortF; rw [ins_len]; exact h1) (by unfold sortF; rw [ins_len]; exact hl) hd)) fun _ =>
 .r 1 <| .fin (x := .sl 1 false ((sortF l).map intA)) (r := .sl 1 false ((sortF l).map intA)) [] trivial (by exact Sub.refl _)) Tryz.func52 rfl (by kernel_rfl) (by kernel_rfl)
end Go.Proofs.YtkhnialfkndiiaaGreat

set_option linter.unusedVariables false
set_option linter.unusedSimpArgs false
namespace Go.Proofs.YtkhnialfkndiiaaGreat
open Go Go.RowKit Copyhold
def lk2 (l : List Ent) (ss : List Txt) (L : List Int) : List Int := ss.foldl (fun L s => if isB l s = true then L ++ [getI l s] else L) L
def lk1 (f : Fsy) (c : Cal) (L : List Int) (i : Int) : List Int := if dirE f i = 0 then lk2 (dirN f i).l [c.name, c.name2] L else L
def lk0 (f : Fsy) (c : Cal) (is : List Int) : List Int := is.foldl (lk1 f c) [c.ino, c.to]
def looksL (f : Fsy) (c : Cal) : List Int := lk0 f c [c.ino, c.to]
def looksF (f : Fsy) (c : Cal) : List Int := if c.kind = 15 then [0] else sortF (looksL f c)
theorem lk2_yes {l : List Ent} {ss : List Txt} {L : List Int} {j : Nat} {s : Txt} (h : ss[j]? = some s) (q : isB l s = true) : lk2 l (ss.take (j + 1)) L = lk2 l (ss.take j) L ++ [getI l s] := by
  unfold lk2
  rw [take_step h, List.foldl_append, List.foldl_cons, List.foldl_nil, if_pos q]
theorem lk2_no {l : List Ent} {ss : List Txt} {L : List Int} {j : Nat} {s : Txt} (h : ss[j]? = some s) (q : isB l s = false) : lk2 l (ss.take (j + 1)) L = lk2 l (ss.take j) L := by
  unfold lk2
  rw [take_step h, List.foldl_append, List.foldl_cons, List.foldl_nil, if_neg (by rw [q]; decide)]
theorem lk0_step {f : Fsy} {c : Cal} {is : List Int} {j : Nat} {i : Int} (h : is[j]? = some i) : lk0 f c (is.take (j + 1)) = lk1 f c (lk0 f c (is.take j)) i := by
  unfold lk0
  rw [take_step h, List.foldl_append]; rfl
theorem lk2_len (l : List Ent) : ∀ (ss : List Txt) (L : List Int), L.length ≤ (lk2 l ss L).length ∧ (lk2 l ss L).length ≤ L.length + ss.length
  | [], L => ⟨Nat.le_refl _, Nat.le_refl _⟩
  | s :: r, L => by
    have h := lk2_len l r (if isB l s = true then L ++ [getI l s] else L)
    have e : lk2 l (s :: r) L = lk2 l r (if isB l s = true then L ++ [getI l s] else L) := rfl
    rw [e]
    have h2 : L.length ≤ (if isB l s = true then L ++ [getI l s] else L).length ∧ (if isB l s = true then L ++ [getI l s] else L).length ≤ L.length + 1 := by
      split
      · rw [List.length_append]; exact ⟨by omega, Nat.le_refl _⟩
      · exact ⟨Nat.le_refl _, by omega⟩
    have h3 : (s :: r).length = r.length + 1 := rfl
    omega
theorem lk0_len (f : Fsy) (c : Cal) : ∀ (is : List Int) (L : List Int), L.length ≤ (is.foldl (lk1 f c) L).length ∧ (is.foldl (lk1 f c) L).length ≤ L.length + 2 * is.length
  | [], L => ⟨Nat.le_refl _, Nat.le_refl _⟩
  | i :: r, L => by
    have h := lk0_len f c r (lk1 f c L i)
    have h2 : L.length ≤ (lk1 f c L i).length ∧ (lk1 f c L i).length ≤ L.length + 2 := by
      unfold lk1
      split
      · exact lk2_len _ _ _
      · exact ⟨Nat.le_refl _, by omega⟩
    have e : (i :: r).foldl (lk1 f c) L = r.foldl (lk1 f c) (lk1 f c L i) := rfl
    rw [e]
    simp only [List.length_cons]
    omega
theorem looks_len (f : Fsy) (c : Cal) : 2 ≤ (looksL f c).length ∧ (looksL f c).length ≤ 6 := by
  have := lk0_len f c [c.ino, c.to] [c.ino, c.to]
  unfold looksL lk0
  simp only [List.length_cons, List.length_nil] at this
  omega
theorem first_litT {t : Bool} (a b : Txt) : Sub (.sl 1 t [[aS a], [aS b]]) (.sl 1 false ([a, b].map txA)) := Sub.loose _ _ _
set_option maxRecDepth 100000 in
set_option maxHeartbeats 4000000 in
theorem looks_spec (f : Fsy) (c : Cal) (okf : OkF f) (okc : OkCal c) (hp : rowsP f) (hd : ¬ c.kind = 15 → AdjN (sortF (looksL f c))) : FSpec Tryz.prog 19 [.agg [.sl 5 false (f.l.map nodA), aI f.next], .agg [aI c.kind, aI c.ino, aI c.to, aI c.at_, aI c.many, aS c.name, aS c.name2, aS c.text]] (.sl 1 false ((looksF f c).map intA)) := by
  have hl := hp.1
  have hr := rows_rise hp
  have hcn := okc.name
  have hcn2 := okc.name2
  have hct := okc.text
  exact spec_vc (F := Tryz.f19) 400 (
 .new fun b1 => .new fun b2 => .r 1 <| .run 3 [b2 = b2] ⟨rfl, trivial⟩ <|
 .br 16 (c.kind == 15) (fun q1 => have p1 := beqT q1; .r 2 <| .fin (x := .sl 1 true ([[aI 0]])) (r := .sl 1 false ((looksF f c).map intA)) [] trivial (by
    rw [show looksF f c = _ from if_pos (by omega)]
    exact Sub.loose _ _ _))
 <| fun q1 => have p1 := beqF q1; .run 4 [b2 = b2, b2 = b2] ⟨rfl, rfl, trivial⟩ <|
 .litN fun V1 => .r 1 <| .run 7 [b2 = b2, b2 = b2] ⟨rfl, rfl, trivial⟩ <|
 let L1 : Lp (Nat × Value) := ⟨fun a1 => ⟨[(2, .ptr 2 b1 0), (3, .ptr 3 b2 0), (29, aI (a1.1 : Int)), (27, .sl 1 false ([c.ino, c.to].map intA)), (28, aI 2), (5, .rw 22 a1.2 ((lk0 f c ([c.ino, c.to].take a1.1)).length))], [(2, .box b1 24 [.sl 5 false (f.l.map nodA), aI f.next]), (3, .box b2 26 [aI c.kind, aI c.ino, aI c.to, aI c.at_, aI c.many, aS c.name, aS c.name2, aS c.text]), (22, .row a1.2 3 1 ((lk0 f c ([c.ino, c.to].take a1.1)).map intA))]⟩, fun a1 => 2 - a1.1, fun a1 => a1.1 ≤ 2⟩
 .loop L1 (0, V1) (show 0 ≤ 2 from (by show 0 ≤ 2; omega)) ⟨[(2, .ptr 2 b1 0), (3, .ptr 3 b2 0), (29, aI 0), (27, .sl 1 true ([[aI c.ino], [aI c.to]])), (28, aI (([[aI c.ino], [aI c.to]]).length : Int)), (5, .rw 22 V1 2)], [(2, .box b1 24 [.sl 5 false (f.l.map nodA), aI f.next]), (3, .box b2 26 [aI c.kind, aI c.ino, aI c.to, aI c.at_, aI c.many, aS c.name, aS c.name2, aS c.text]), (22, .row V1 3 1 ([[aI c.ino], [aI c.to]]))]⟩ ⟨Sub.refl _, Sub.refl _, Sub.of_eq (congrArg aI (by first | omega | rfl)), (first_lit2 _ _), Sub.refl _, Sub.refl _, trivial⟩ ⟨⟨_, rfl, SubB.refl _⟩, ⟨_, rfl, SubB.refl _⟩, ⟨_, rfl, SubB.of_eq rfl⟩, trivial⟩ fun a1 ha1 =>
 (fun (k : Nat) (V : Value) (hH1 : k ≤ 2) => have hk0 := lk0_len f c ([c.ino, c.to].take k) [c.ino, c.to]; have hk1 : (lk0 f c ([c.ino, c.to].take k)).length ≤ 6 := (by have h2 : ([c.ino, c.to].take k).length ≤ 2 := (by rw [List.length_take]; simp only [List.length_cons, List.length_nil]; omega); have h3 := hk0.2; unfold lk0; simp only [List.length_cons, List.length_nil] at h3; omega); .r 1 <| .br 30 (decide ((k : Int) < 2)) (fun q2 => have p2 := decT q2; .idxM ([c.ino, c.to]) intA k (m := (k : Int)) rfl (by simp only [List.length_cons, List.length_nil]; omega) fun x1 hx1 =>
 .r 2 <| .run 2 [b1 = b1] ⟨rfl, trivial⟩ <|
 .call (dir_spec f x1 hp) <|
 .r 3 <| .new fun b3 => .run 2 [b3 = b3] ⟨rfl, trivial⟩ <|
 .r 2 <| .br 40 ((dirE f x1) != 0) (fun q3 => have p3 := bneT q3; .run 2 [rng .i64 ((k : Int) + 1)] ⟨rng64 (by omega) (by omega), trivial⟩ <|
 .back L1 (k, V) ((k + 1), V) (show (k + 1) ≤ 2 from (by show _ ≤ 2; omega)) (show 2 - (k + 1) < 2 - k from (by omega)) ⟨[(2, .ptr 2 b1 0), (3, .ptr 3 b2 0), (29, aI ((k : Int) + 1)), (27, .sl 1 false ([c.ino, c.to].map intA)), (28, aI 2), (5, .rw 22 V ((lk0 f c ([c.ino, c.to].take k)).length))], [(2, .box b1 24 [.sl 5 false (f.l.map nodA), aI f.next]), (3, .box b2 26 [aI c.kind, aI c.ino, aI c.to, aI c.at_, aI c.many, aS c.name, aS c.name2, aS c.text]), (22, .row V 3 1 ((lk0 f c ([c.ino, c.to].take k)).map intA))]⟩ ⟨Sub.refl _, Sub.refl _, Sub.of_eq (congrArg aI (by first | omega | rfl)), Sub.refl _, Sub.refl _, Sub.of_eq (congrArg (AV.rw 22 V) (by rw [show lk0 f c ([c.ino, c.to].take (k + 1)) = lk0 f c ([c.ino, c.to].take k) from by rw [lk0_step hx1]; unfold lk1; rw [if_neg (bneT q3)]])), trivial⟩ ⟨⟨_, rfl, SubB.refl _⟩, ⟨_, rfl, SubB.refl _⟩, ⟨_, rfl, SubB.of_eq (by rw [show lk0 f c ([c.ino, c.to].take (k + 1)) = lk0 f c ([c.ino, c.to].take k) from by rw [lk0_step hx1]; unfold lk1; rw [if_neg (bneT q3)]])⟩, trivial⟩)
 <| fun q3 => have p3 := bneF q3; .run 7 [b2 = b2, b2 = b2] ⟨rfl, rfl, trivial⟩ <|
 let L2 : Lp (Nat × Value) := ⟨fun a2 => ⟨[(2, .ptr 2 b1 0), (3, .ptr 3 b2 0), (29, aI (k : Int)), (27, .sl 1 false ([c.ino, c.to].map intA)), (28, aI 2), (8, .ptr 8 b3 0), (47, aI (a2.1 : Int)), (45, .sl 1 false ([c.name, c.name2].map txA)), (46, aI 2), (5, .rw 22 a2.2 ((lk2 (dirN f x1).l ([c.name, c.name2].take a2.1) (lk0 f c ([c.ino, c.to].take k))).length))], [(2, .box b1 24 [.sl 5 false (f.l.map nodA), aI f.next]), (3, .box b2 26 [aI c.kind, aI c.ino, aI c.to, aI c.at_, aI c.many, aS c.name, aS c.name2, aS c.text]), (8, .box b3 59 [aI ((dirN f x1).ino), aI ((dirN f x1).kind), aI ((dirN f x1).links), aS ((dirN f x1).text), .sl 2 false ((dirN f x1).l.map entA)]), (22, .row a2.2 3 1 ((lk2 (dirN f x1).l ([c.name, c.name2].take a2.1) (lk0 f c ([c.ino, c.to].take k))).map intA))]⟩, fun a2 => 2 - a2.1, fun a2 => a2.1 ≤ 2⟩
 .loop L2 (0, V) (show 0 ≤ 2 from (by show 0 ≤ 2; omega)) ⟨[(2, .ptr 2 b1 0), (3, .ptr 3 b2 0), (29, aI (k : Int)), (27, .sl 1 false ([c.ino, c.to].map intA)), (28, aI 2), (8, .ptr 8 b3 0), (47, aI 0), (45, .sl 1 true ([[aS c.name], [aS c.name2]])), (46, aI (([[aS c.name], [aS c.name2]]).length : Int)), (5, .rw 22 V ((lk0 f c ([c.ino, c.to].take k)).length))], [(2, .box b1 24 [.sl 5 false (f.l.map nodA), aI f.next]), (3, .box b2 26 [aI c.kind, aI c.ino, aI c.to, aI c.at_, aI c.many, aS c.name, aS c.name2, aS c.text]), (8, .box b3 59 [aI ((dirN f x1).ino), aI ((dirN f x1).kind), aI ((dirN f x1).links), aS ((dirN f x1).text), .sl 2 false ((dirN f x1).l.map entA)]), (22, .row V 3 1 ((lk0 f c ([c.ino, c.to].take k)).map intA))]⟩ ⟨Sub.refl _, Sub.refl _, Sub.refl _, Sub.refl _, Sub.refl _, Sub.refl _, Sub.of_eq (congrArg aI (by first | omega | rfl)), (first_litT _ _), Sub.refl _, Sub.refl _, trivial⟩ ⟨⟨_, rfl, SubB.refl _⟩, ⟨_, rfl, SubB.refl _⟩, ⟨_, rfl, SubB.refl _⟩, ⟨_, rfl, SubB.of_eq rfl⟩, trivial⟩ fun a2 ha2 =>
 (fun (j : Nat) (Y : Value) (hH2 : j ≤ 2) => have hj0 := (lk2_len (dirN f x1).l ([c.name, c.name2].take j) (lk0 f c ([c.ino, c.to].take k))).2; have hj1 : ([c.name, c.name2].take j).length ≤ 2 := (by rw [List.length_take]; simp only [List.length_cons, List.length_nil]; omega); .r 1 <| .br 48 (decide ((j : Int) < 2)) (fun q4 => have p4 := decT q4; .idxM ([c.name, c.name2]) txA j (m := (j : Int)) rfl (by simp only [List.length_cons, List.length_nil]; omega) fun x2 hx2 =>
 have nlx2 : x2.length ≤ 1000000 := (by have h9 := List.mem_of_getElem? hx2; simp only [List.mem_cons, List.not_mem_nil, or_false] at h9; rcases h9 with e | e <;> rw [e] <;> assumption); .r 2 <| .run 3 [b3 = b3] ⟨rfl, trivial⟩ <|
 .call (nfind_spec ((dirN f x1).l) x2 (by have := (dir_srt hp x1).2; omega) (dir_srt hp x1).1) <|
 .r 5 <| .r 1 <| .br 58 (isB ((dirN f x1).l) x2) (fun q5 => have p5 := booT q5; .r 3 <| .app 8 Y ((lk2 (dirN f x1).l ([c.name, c.name2].take j) (lk0 f c ([c.ino, c.to].take k))).map intA) ([[aI (getI ((dirN f x1).l) x2)]]) (by simp only [List.length_map, List.length_cons, List.length_nil]; omega) (by simp only [List.length_map, List.length_cons, List.length_nil]; omega) fun V2 =>
 .r 1 <| .run 2 [rng .i64 ((j : Int) + 1)] ⟨rng64 (by omega) (by omega), trivial⟩ <|
 .back L2 (j, Y) ((j + 1), V2) (show (j + 1) ≤ 2 from (by show _ ≤ 2; omega)) (show 2 - (j + 1) < 2 - j from (by omega)) ⟨[(2, .ptr 2 b1 0), (3, .ptr 3 b2 0), (29, aI (k : Int)), (27, .sl 1 false ([c.ino, c.to].map intA)), (28, aI 2), (8, .ptr 8 b3 0), (47, aI ((j : Int) + 1)), (45, .sl 1 false ([c.name, c.name2].map txA)), (46, aI 2), (5, .rw 22 V2 (((lk2 (dirN f x1).l ([c.name, c.name2].take j) (lk0 f c ([c.ino, c.to].take k))).map intA).length + ([[aI (getI ((dirN f x1).l) x2)]] : List (List AV)).length))], [(2, .box b1 24 [.sl 5 false (f.l.map nodA), aI f.next]), (3, .box b2 26 [aI c.kind, aI c.ino, aI c.to, aI c.at_, aI c.many, aS c.name, aS c.name2, aS c.text]), (8, .box b3 59 [aI ((dirN f x1).ino), aI ((dirN f x1).kind), aI ((dirN f x1).links), aS ((dirN f x1).text), .sl 2 false ((dirN f x1).l.map entA)]), (22, .row V2 3 1 (((lk2 (dirN f x1).l ([c.name, c.name2].take j) (lk0 f c ([c.ino, c.to].take k))).map intA) ++ ([[aI (getI ((dirN f x1).l) x2)]])))]⟩ ⟨Sub.refl _, Sub.refl _, Sub.refl _, Sub.refl _, Sub.refl _, Sub.refl _, Sub.of_eq (congrArg aI (by first | omega | rfl)), Sub.refl _, Sub.refl _, Sub.of_eq (congrArg (AV.rw 22 V2) (by rw [lk2_yes hx2 q5]; simp)), trivial⟩ ⟨⟨_, rfl, SubB.refl _⟩, ⟨_, rfl, SubB.refl _⟩, ⟨_, rfl, SubB.refl _⟩, ⟨_, rfl, SubB.of_eq (by rw [lk2_yes hx2 q5]; simp [intA])⟩, trivial⟩)
 <| fun q5 => have p5 := booF q5; .run 2 [rng .i64 ((j : Int) + 1)] ⟨rng64 (by omega) (by omega), trivial⟩ <|
 .back L2 (j, Y) ((j + 1), Y) (show (j + 1) ≤ 2 from (by show _ ≤ 2; omega)) (show 2 - (j + 1) < 2 - j from (by omega)) ⟨[(2, .ptr 2 b1 0), (3, .ptr 3 b2 0), (29, aI (k : Int)), (27, .sl 1 false ([c.ino, c.to].map intA)), (28, aI 2), (8, .ptr 8 b3 0), (47, aI ((j : Int) + 1)), (45, .sl 1 false ([c.name, c.name2].map txA)), (46, aI 2), (5, .rw 22 Y ((lk2 (dirN f x1).l ([c.name, c.name2].take j) (lk0 f c ([c.ino, c.to].take k))).length))], [(2, .box b1 24 [.sl 5 false (f.l.map nodA), aI f.next]), (3, .box b2 26 [aI c.kind, aI c.ino, aI c.to, aI c.at_, aI c.many, aS c.name, aS c.name2, aS c.text]), (8, .box b3 59 [aI ((dirN f x1).ino), aI ((dirN f x1).kind), aI ((dirN f x1).links), aS ((dirN f x1).text), .sl 2 false ((dirN f x1).l.map entA)]), (22, .row Y 3 1 ((lk2 (dirN f x1).l ([c.name, c.name2].take j) (lk0 f c ([c.ino, c.to].take k))).map intA))]⟩ ⟨Sub.refl _, Sub.refl _, Sub.refl _, Sub.refl _, Sub.refl _, Sub.refl _, Sub.of_eq (congrArg aI (by first | omega | rfl)), Sub.refl _, Sub.refl _, Sub.of_eq (congrArg (AV.rw 22 Y) (by rw [lk2_no hx2 q5])), trivial⟩ ⟨⟨_, rfl, SubB.refl _⟩, ⟨_, rfl, SubB.refl _⟩, ⟨_, rfl, SubB.refl _⟩, ⟨_, rfl, SubB.of_eq (by rw [lk2_no hx2 q5])⟩, trivial⟩)
 <| fun q4 => have p4 := decF q4; .run 2 [rng .i64 ((k : Int) + 1)] ⟨rng64 (by omega) (by omega), trivial⟩ <|
 .back L1 (k, V) ((k + 1), Y) (show (k + 1) ≤ 2 from (by show _ ≤ 2; omega)) (show 2 - (k + 1) < 2 - k from (by omega)) ⟨[(2, .ptr 2 b1 0), (3, .ptr 3 b2 0), (29, aI ((k : Int) + 1)), (27, .sl 1 false ([c.ino, c.to].map intA)), (28, aI 2), (5, .rw 22 Y ((lk2 (dirN f x1).l ([c.name, c.name2].take j) (lk0 f c ([c.ino, c.to].take k))).length))], [(2, .box b1 24 [.sl 5 false (f.l.map nodA), aI f.next]), (3, .box b2 26 [aI c.kind, aI c.ino, aI c.to, aI c.at_, aI c.many, aS c.name, aS c.name2, aS c.text]), (22, .row Y 3 1 ((lk2 (dirN f x1).l ([c.name, c.name2].take j) (lk0 f c ([c.ino, c.to].take k))).map intA))]⟩ ⟨Sub.refl _, Sub.refl _, Sub.of_eq (congrArg aI (by first | omega | rfl)), Sub.refl _, Sub.refl _, Sub.of_eq (congrArg (AV.rw 22 Y) (by rw [show lk0 f c ([c.ino, c.to].take (k + 1)) = lk2 (dirN f x1).l ([c.name, c.name2].take j) (lk0 f c ([c.ino, c.to].take k)) from by rw [lk0_step hx1]; unfold lk1; rw [if_pos (bneF q3), show j = 2 from by omega]; rfl])), trivial⟩ ⟨⟨_, rfl, SubB.refl _⟩, ⟨_, rfl, SubB.refl _⟩, ⟨_, rfl, SubB.of_eq (by rw [show lk0 f c ([c.ino, c.to].take (k + 1)) = lk2 (dirN f x1).l ([c.name, c.name2].take j) (lk0 f c ([c.ino, c.to].take k)) from by rw [lk0_step hx1]; unfold lk1; rw [if_pos (bneF q3), show j = 2 from by omega]; rfl])⟩, trivial⟩) a2.1 a2.2 ha2)
 <| fun q2 => have p2 := decF q2; .frz 22 [5, 30] [] [V = V, (lk0 f c ([c.ino, c.to].take k)).length = ((lk0 f c ([c.ino, c.to].take k)).map intA).length] ⟨rfl, (by first | rfl | (simp; done) | (simp; omega)), trivial⟩ <|
 .r 1 <| .callS (args0 := [.sl 1 false ((lk0 f c ([c.ino, c.to].take k)).map intA)]) (args := [.sl 1 false ((looksL f c).map intA)]) ⟨Sub.of_eq (congrArg (AV.sl 1 false) (by rw [show k = 2 from by omega]; rfl)), trivial⟩ (gather_spec (looksL f c) (by have := looks_len f c; omega) (by have := looks_len f c; omega) (hd (by omega))) <|
 .r 1 <| .fin (x := .sl 1 false ((sortF (looksL f c)).map intA)) (r := .sl 1 false ((looksF f c).map intA)) [] trivial (by
    rw [show looksF f c = _ from if_neg (by omega)]
    exact Sub.refl _)) a1.1 a1.2 ha1) Tryz.func19 rfl (by kernel_rfl) (by kernel_rfl)
end Go.Proofs.YtkhnialfkndiiaaGreat
