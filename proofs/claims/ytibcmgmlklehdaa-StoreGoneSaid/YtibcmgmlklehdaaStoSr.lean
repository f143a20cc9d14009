/- slices.Sort, slices.Compact of one number at most; store.with of a number. -/
import Derived.Test.YtibcmgmlklehdaaRulesM
import Derived.Test.YtibcmgmlklehdaaStoGo
set_option linter.unusedVariables false
set_option linter.unusedSimpArgs false
namespace Go.Proofs.Ytibcmgmlklehdaa
open Go Go.RowKit Copyhold
theorem len_calls (n : Int) (hn : n = 0 ∨ n = 1) (w : World) : Calls Try.prog 102 #[.int .u64 n] w fun e w' => e = .returned (.int .i64 n) ∧ w = w' := by
  rcases hn with rfl | rfl
  · set_option maxRecDepth 100000 in
    go_enter Try.func102, Try.ntmps102
    go_wp2_with fail
    go_ret
    exact ⟨by kernel_rfl, rfl⟩
  · set_option maxRecDepth 100000 in
    go_enter Try.func102, Try.ntmps102
    go_wp2_with fail
    go_ret
    exact ⟨by kernel_rfl, rfl⟩
theorem len_call2 (n : Int) (hn : n = 0 ∨ n = 1) (w : World) : Calls Try.prog 85 #[.int .u64 n] w fun e w' => e = .returned (.int .i64 n) ∧ w = w' := by
  go_enter Try.func85, Try.ntmps85
  go_wp2_with fail
  refine (len_calls n hn _).mono ?_
  rintro e w1 ⟨rfl, rfl⟩
  go_wp2_with fail
  go_ret
  exact ⟨rfl, rfl⟩
theorem len_spec (n : Int) (hn : n = 0 ∨ n = 1) : FSpec Try.prog 85 [.val (.int .u64 n)] (aI n) := by
  intro D w vs hD hv
  obtain ⟨v, rfl, hr⟩ : ∃ v, vs = #[v] ∧ Ra D w (.val (.int .u64 n)) v := by
    have h1 := hv.1
    have h0 : 0 < vs.size := by simp at h1; omega
    refine ⟨vs[0], ?_, hv.2 0 _ _ rfl (Array.getElem?_eq_getElem h0)⟩
    apply Array.ext
    · simpa using h1.symm
    · intro i h2 h3
      have : i = 0 := by simp at h1; omega
      subst this
      rfl
  cases hr
  refine (len_call2 n hn w).mono ?_
  rintro e w' ⟨rfl, rfl⟩
  exact ⟨_, D, rfl, Below.refl _ _, fun _ h => h, fun b h => ⟨hD b h, .inl h⟩, .val _⟩
set_option maxRecDepth 100000 in
set_option maxHeartbeats 4000000 in
theorem ins0_spec  : FSpec Try.prog 92 [.sl 1 false ([] : List (List AV)), aI 0, aI 0] (.tup []) := by
  exact spec_vc (F := Try.f92) 400 (
 .run 3 [rng .i64 (0 + 1)] ⟨rng64 (by omega) (by omega), trivial⟩ <|
 let L1 : Lp (Nat) := ⟨fun a1 => ⟨[(0, .sl 1 false ([] : List (List AV))), (1, aI 0), (2, aI 0), (6, aI ((0 : Int) + 1))], []⟩, fun a1 => 0 - a1, fun a1 => 0 ≤ a1⟩
 .loop L1 0 (show 0 ≤ 0 from Nat.zero_le _) ⟨[(0, .sl 1 false ([] : List (List AV))), (1, aI 0), (2, aI 0), (6, aI (0 + 1))], []⟩ ⟨Sub.refl _, Sub.refl _, Sub.refl _, Sub.of_eq (congrArg aI (by first | omega | rfl)), trivial⟩ trivial fun a1 ha1 =>
 (fun (k : Nat) (hH1 : 0 ≤ k) => .r 3 <| .is 12 (show (decide (((0 : Int) + 1) < 0)) = false from (by decide)) <| .fin (x := .tup []) (r := .tup []) [] trivial (by exact Sub.refl _)) a1 ha1) Try.func92 rfl (by kernel_rfl) (by kernel_rfl)
set_option maxRecDepth 100000 in
set_option maxHeartbeats 4000000 in
theorem pdq0_spec  : FSpec Try.prog 84 [.sl 1 false ([] : List (List AV)), aI 0, aI 0, aI 0] (.tup []) := by
  exact spec_vc (F := Try.f84) 400 (
 .r 1 <| .r 1 <| let L1 : Lp (Nat) := ⟨fun a1 => ⟨[(0, .sl 1 false ([] : List (List AV))), (1, aI 0), (2, aI 0), (3, aI 0), (8, aB true), (9, aB true)], []⟩, fun a1 => 0 - a1, fun a1 => 0 ≤ a1⟩
 .loop L1 0 (show 0 ≤ 0 from Nat.zero_le _) ⟨[(0, .sl 1 false ([] : List (List AV))), (1, aI 0), (2, aI 0), (3, aI 0), (8, aB true), (9, aB true)], []⟩ ⟨Sub.refl _, Sub.refl _, Sub.refl _, Sub.refl _, Sub.refl _, Sub.refl _, trivial⟩ trivial fun a1 ha1 =>
 (fun (k : Nat) (hH1 : 0 ≤ k) => .run 4 [rng .i64 (0 - 0)] ⟨rng64 (by omega) (by omega), trivial⟩ <|
 .r 2 <| .is 23 (show (decide ((0 - 0) ≤ 12)) = true from (by decide)) <| .r 3 <| .call (ins0_spec) <|
 .fin (x := .tup []) (r := .tup []) [] trivial (by exact Sub.refl _)) a1 ha1) Try.func84 rfl (by kernel_rfl) (by kernel_rfl)
set_option maxRecDepth 100000 in
set_option maxHeartbeats 4000000 in
theorem sort0_spec  : FSpec Try.prog 72 [.sl 1 false ([] : List (List AV))] (.tup []) := by
  exact spec_vc (F := Try.f72) 400 (
 .r 2 <| .val 4 (show (aI ((([] : List (List AV))).length : Int) : AV) = aI 0 from rfl) <| .r 1 <| .r 3 <| .op (cvR) (3, 118, .int .i64 0, some 8) (fun (_ : Unit) σ => σ.put (some 8) (.val (.int .u64 0))) (rule_cv (fun _ => by kernel_rfl)) fun _ =>
 .call (len_spec 0 (by omega)) <|
 .call (pdq0_spec) <|
 .fin (x := .tup []) (r := .tup []) [] trivial (by exact Sub.refl _)) Try.func72 rfl (by kernel_rfl) (by kernel_rfl)
set_option maxRecDepth 100000 in
set_option maxHeartbeats 4000000 in
theorem ins1_spec (x : Int) : FSpec Try.prog 92 [.sl 1 false ([[aI x]]), aI 0, aI 1] (.tup []) := by
  exact spec_vc (F := Try.f92) 400 (
 .run 3 [rng .i64 (0 + 1)] ⟨rng64 (by omega) (by omega), trivial⟩ <|
 let L1 : Lp (Nat) := ⟨fun a1 => ⟨[(0, .sl 1 false ([[aI x]])), (1, aI 0), (2, aI 1), (6, aI ((0 : Int) + 1))], []⟩, fun a1 => 0 - a1, fun a1 => 0 ≤ a1⟩
 .loop L1 0 (show 0 ≤ 0 from Nat.zero_le _) ⟨[(0, .sl 1 false ([[aI x]])), (1, aI 0), (2, aI 1), (6, aI (0 + 1))], []⟩ ⟨Sub.refl _, Sub.refl _, Sub.refl _, Sub.of_eq (congrArg aI (by first | omega | rfl)), trivial⟩ trivial fun a1 ha1 =>
 (fun (k : Nat) (hH1 : 0 ≤ k) => .r 3 <| .is 12 (show (decide (((0 : Int) + 1) < 1)) = false from (by decide)) <| .fin (x := .tup []) (r := .tup []) [] trivial (by exact Sub.refl _)) a1 ha1) Try.func92 rfl (by kernel_rfl) (by kernel_rfl)
set_option maxRecDepth 100000 in
set_option maxHeartbeats 4000000 in
theorem pdq1_spec (x : Int) : FSpec Try.prog 84 [.sl 1 false ([[aI x]]), aI 0, aI 1, aI 1] (.tup []) := by
  exact spec_vc (F := Try.f84) 400 (
 .r 1 <| .r 1 <| let L1 : Lp (Nat) := ⟨fun a1 => ⟨[(0, .sl 1 false ([[aI x]])), (1, aI 0), (2, aI 1), (3, aI 1), (8, aB true), (9, aB true)], []⟩, fun a1 => 0 - a1, fun a1 => 0 ≤ a1⟩
 .loop L1 0 (show 0 ≤ 0 from Nat.zero_le _) ⟨[(0, .sl 1 false ([[aI x]])), (1, aI 0), (2, aI 1), (3, aI 1), (8, aB true), (9, aB true)], []⟩ ⟨Sub.refl _, Sub.refl _, Sub.refl _, Sub.refl _, Sub.refl _, Sub.refl _, trivial⟩ trivial fun a1 ha1 =>
 (fun (k : Nat) (hH1 : 0 ≤ k) => .run 4 [rng .i64 (1 - 0)] ⟨rng64 (by omega) (by omega), trivial⟩ <|
 .r 2 <| .is 23 (show (decide ((1 - 0) ≤ 12)) = true from (by decide)) <| .r 3 <| .call (ins1_spec x) <|
 .fin (x := .tup []) (r := .tup []) [] trivial (by exact Sub.refl _)) a1 ha1) Try.func84 rfl (by kernel_rfl) (by kernel_rfl)
set_option maxRecDepth 100000 in
set_option maxHeartbeats 4000000 in
theorem sort1_spec (x : Int) : FSpec Try.prog 72 [.sl 1 false ([[aI x]])] (.tup []) := by
  exact spec_vc (F := Try.f72) 400 (
 .r 2 <| .val 4 (show (aI (([[aI x]]).length : Int) : AV) = aI 1 from rfl) <| .r 1 <| .r 3 <| .op (cvR) (3, 118, .int .i64 1, some 8) (fun (_ : Unit) σ => σ.put (some 8) (.val (.int .u64 1))) (rule_cv (fun _ => by kernel_rfl)) fun _ =>
 .call (len_spec 1 (by omega)) <|
 .call (pdq1_spec x) <|
 .fin (x := .tup []) (r := .tup []) [] trivial (by exact Sub.refl _)) Try.func72 rfl (by kernel_rfl) (by kernel_rfl)
theorem sort_spec : ∀ (l : List Int) (h : l.length ≤ 1), FSpec Try.prog 72 [.sl 1 false (l.map intA)] (.tup [])
  | [], _ => sort0_spec
  | [x], _ => sort1_spec x
  | _ :: _ :: _, h => by simp at h
set_option maxRecDepth 100000 in
set_option maxHeartbeats 4000000 in
theorem compact_spec (l : List Int) (h : l.length ≤ 1) : FSpec Try.prog 73 [.sl 1 false (l.map intA)] (.sl 1 false (l.map intA)) := by
  exact spec_vc (F := Try.f73) 400 (
 .r 1 <| .r 2 <| .val 7 (show (aI ((l.map intA).length : Int) : AV) = aI (l.length : Int) from by rw [List.length_map]) <| .r 1 <| .is 8 (show (decide ((l.length : Int) < 2)) = true from (decide_eq_true (by omega))) <| .r 2 <| .fin (x := .sl 1 false (l.map intA)) (r := .sl 1 false (l.map intA)) [] trivial (by exact Sub.refl _)) Try.func73 rfl (by kernel_rfl) (by kernel_rfl)
set_option maxRecDepth 100000 in
set_option maxHeartbeats 4000000 in
theorem withI_spec (l : List Int) (i : Nat) (c : Int) (hi : i ≤ l.length) (hn : l.length ≤ 100000) : FSpec Try.prog 55 [.sl 1 false (l.map intA), aI (i : Int), aI c] (.sl 1 false ((l.take i ++ c :: l.drop i).map intA)) := by
  exact spec_vc (F := Try.f55) 400 (
 .r 1 <| .r 3 <| .val 9 (show (aI ((l.map intA).length : Int) : AV) = aI (l.length : Int) from by rw [List.length_map]) <| .r 2 <| .val 11 (show (aI ((l.map intA).length : Int) : AV) = aI (l.length : Int) from by rw [List.length_map]) <| .slc 1 false (l.map intA) none (some (l.length : Int)) (some (l.length : Int)) 0 l.length true (.inl ⟨rfl, rfl⟩) (.inr rfl) (.inr ⟨rfl, rfl⟩) (by first | omega | (simp; done) | (simp; omega)) (by first | omega | (simp; done) | (simp; omega)) <|
 .r 3 <| .callS (args0 := [.sl 1 true (((l.map intA).take l.length).drop 0), aI (i : Int), .sl 1 true ([[aI c]])]) (args := [.sl 1 true (l.map intA), aI (i : Int), .sl 1 false ([[aI c]])]) ⟨Sub.of_eq (by rw [List.drop_zero, List.take_of_length_le (by simp)]), Sub.refl _, Sub.loose _ _ _, trivial⟩ (insI_spec (l.map intA) ([[aI c]]) i false (by rw [List.length_map]; omega) (by simp) (by rw [List.length_map]; omega) (by simp) (fun l h => by obtain ⟨z, _, rfl⟩ := List.mem_map.1 h; rfl) (fun l h => by obtain rfl := List.mem_singleton.1 h; rfl)) <|
 .r 1 <| .fin (x := .sl 1 false ((l.map intA).take i ++ [[aI c]] ++ (l.map intA).drop i)) (r := .sl 1 false ((l.take i ++ c :: l.drop i).map intA)) [] trivial (by exact Sub.of_eq (by simp [intA, List.map_take, List.map_drop]))) Try.func55 rfl (by kernel_rfl) (by kernel_rfl)
end Go.Proofs.Ytibcmgmlklehdaa
