/- slices.Grow of nothing, slices.Concat of nodes. -/
import Derived.Test.YtgcjfhgkkgocpaaRules7
import Derived.Test.YtgcjfhgkkgocpaaTreP8
set_option linter.unusedVariables false
set_option linter.unusedSimpArgs false
namespace Go.Proofs.Ytgcjfhgkkgocpaa
open Go Go.RowKit Copyhold
theorem nodElem : Elem Try.prog 22 27 (.agg #[.int .i64 0, .int .i64 0, .int .i64 0, .string ByteArray.empty, .slice none 0 0]) 5 64 := ⟨Try.underlying22, by kernel_rfl, by kernel_rfl, by decide⟩
set_option maxRecDepth 100000 in
set_option maxHeartbeats 2000000 in
theorem grow_nods (n : Nat) (hn : n ≤ 1000000) (w : World) :
    Calls Try.prog 56 #[.slice none 0 0, .int .i64 (n : Int)] w (RetOwn w 27 5 0 []) := by
  by_cases h0 : 0 < n
  · obtain ⟨G, w', hrun, hG1, hG2, hown, hb⟩ := zeros_run nodElem Try.underlying3 n h0 (by omega) (by omega) w
    have HO := Lib.hid (And.intro hown hb)
    have hi0 : (0 : Int) < (n : Int) := by omega
    clear hown hb
    go_enter Try.func56, Try.ntmps56
    go_wp2_with (at_builtin; refine wpList_append_run' rfl _ _ _ _ rfl _ _ _ _ rfl rfl (hrun _) ?_)
    go_ret
    exact ⟨_, rfl, HO.out.1, HO.out.2⟩
  · obtain rfl : n = 0 := by omega
    go_enter Try.func56, Try.ntmps56
    go_wp2_with fail
    go_ret
    exact ⟨_, rfl, World.ownsRow_nil _ _ _ _, Below.refl _ _⟩
def pc5 (p : List (List AV)) : List AV := [.sl 5 false p]
set_option maxRecDepth 100000 in
set_option maxHeartbeats 4000000 in
theorem concat_spec (ps : List (List (List AV))) (hl : ps.length ≤ 100000) (ht : ps.flatten.length ≤ 100000) : FSpec Try.prog 36 [.sl 1 false (ps.map pc5)] (.sl 5 false ps.flatten) := by
  exact spec_vc (F := Try.f36) 400 (
 .r 1 <| .r 1 <| .r 2 <| .val 10 (show (aI ((ps.map pc5).length : Int) : AV) = aI (ps.length : Int) from by rw [List.length_map]) <| .r 1 <| let L1 : Lp (Nat) := ⟨fun a1 => ⟨[(0, .sl 1 false (ps.map pc5)), (9, .sl 1 false (ps.map pc5)), (10, aI (ps.length : Int)), (3, aI ((ps.take a1).flatten.length : Int)), (11, aI (a1 : Int))], []⟩, fun a1 => ps.length - a1, fun a1 => a1 ≤ ps.length⟩
 .loop L1 0 (show 0 ≤ ps.length from Nat.zero_le _) ⟨[(0, .sl 1 false (ps.map pc5)), (9, .sl 1 false (ps.map pc5)), (10, aI (ps.length : Int)), (3, aI 0), (11, aI 0)], []⟩ ⟨Sub.refl _, Sub.refl _, Sub.refl _, Sub.of_eq (congrArg aI (by first | omega | rfl)), Sub.of_eq (congrArg aI (by first | omega | rfl)), trivial⟩ trivial fun a1 ha1 =>
 (fun (k : Nat) (hH1 : k ≤ ps.length) => .r 1 <| .br 12 (decide ((k : Int) < (ps.length : Int))) (fun q1 => have p1 := decT q1; .idxM ps pc5 k (m := (k : Int)) rfl (by omega) fun x1 hx1 =>
 have tx1 := take_flat_le ps (k + 1); have ux1 := congrArg List.length (take_flat hx1); have vx1 := (@List.length_append _ (ps.take k).flatten x1); .r 2 <| .run 5 [rng .i64 (((ps.take k).flatten.length : Int) + ((x1).length : Int))] ⟨rng64 (by omega) (by omega), trivial⟩ <|
 .r 2 <| .br 20 (decide ((((ps.take k).flatten.length : Int) + ((x1).length : Int)) < 0)) (fun q2 => have p2 := decT q2; .no (by omega))
 <| fun q2 => have p2 := decF q2; .run 2 [rng .i64 ((k : Int) + 1)] ⟨rng64 (by omega) (by omega), trivial⟩ <|
 .back L1 k (k + 1) (show (k + 1) ≤ ps.length from (by show _ ≤ _; omega)) (show ps.length - (k + 1) < ps.length - k from (by omega)) ⟨[(0, .sl 1 false (ps.map pc5)), (9, .sl 1 false (ps.map pc5)), (10, aI (ps.length : Int)), (3, aI (((ps.take k).flatten.length : Int) + ((x1).length : Int))), (11, aI ((k : Int) + 1))], []⟩ ⟨Sub.refl _, Sub.refl _, Sub.refl _, Sub.of_eq (congrArg aI (by rw [take_flat hx1, List.length_append]; omega)), Sub.of_eq (congrArg aI (by first | omega | rfl)), trivial⟩ trivial)
 <| fun q1 => have p1 := decF q1; .r 1 <| .callRow (args0 := [aN, aI ((ps.take k).flatten.length : Int)]) (args := [aN, aI ((ps.take k).flatten.length : Int)]) (xs := []) ⟨Sub.refl _, Sub.refl _, trivial⟩ (by simp) (grow_row' (fun w => grow_nods ((ps.take k).flatten.length) (by have := take_flat_le ps k; omega) w)) fun V1 =>
 .r 1 <| .r 2 <| .val 26 (show (aI ((ps.map pc5).length : Int) : AV) = aI (ps.length : Int) from by rw [List.length_map]) <| .r 1 <| let L2 : Lp (Nat × Value) := ⟨fun a2 => ⟨[(25, .sl 1 false (ps.map pc5)), (26, aI (ps.length : Int)), (27, aI (a2.1 : Int)), (6, .rw 24 a2.2 ((ps.take a2.1).flatten.length))], [(24, .row a2.2 27 5 ((ps.take a2.1).flatten))]⟩, fun a2 => ps.length - a2.1, fun a2 => a2.1 ≤ ps.length⟩
 .loop L2 (0, V1) (show 0 ≤ ps.length from Nat.zero_le _) ⟨[(25, .sl 1 false (ps.map pc5)), (26, aI (ps.length : Int)), (27, aI 0), (6, .rw 24 V1 0)], [(24, .row V1 27 5 ([]))]⟩ ⟨Sub.refl _, Sub.refl _, Sub.of_eq (congrArg aI (by first | omega | rfl)), Sub.of_eq (congrArg (AV.rw 24 V1) (by simp)), trivial⟩ ⟨⟨_, rfl, SubB.of_eq (by simp)⟩, trivial⟩ fun a2 ha2 =>
 (fun (j : Nat) (V : Value) (hH2 : j ≤ ps.length) => .r 1 <| .br 28 (decide ((j : Int) < (ps.length : Int))) (fun q3 => have p3 := decT q3; .idxM ps pc5 j (m := (j : Int)) rfl (by omega) fun x2 hx2 =>
 have tx2 := take_flat_le ps (j + 1); have ux2 := congrArg List.length (take_flat hx2); have vx2 := (@List.length_append _ (ps.take j).flatten x2); .r 2 <| .r 2 <| .app 64 V ((ps.take j).flatten) x2 (by omega) (by omega) fun V2 =>
 .r 1 <| .run 2 [rng .i64 ((j : Int) + 1)] ⟨rng64 (by omega) (by omega), trivial⟩ <|
 .back L2 (j, V) ((j + 1), V2) (show (j + 1) ≤ ps.length from (by show _ ≤ _; omega)) (show ps.length - (j + 1) < ps.length - j from (by omega)) ⟨[(25, .sl 1 false (ps.map pc5)), (26, aI (ps.length : Int)), (27, aI ((j : Int) + 1)), (6, .rw 24 V2 (((ps.take j).flatten).length + x2.length))], [(24, .row V2 27 5 (((ps.take j).flatten) ++ x2))]⟩ ⟨Sub.refl _, Sub.refl _, Sub.of_eq (congrArg aI (by first | omega | rfl)), Sub.of_eq (congrArg (AV.rw 24 V2) (by rw [take_flat hx2, List.length_append])), trivial⟩ ⟨⟨_, rfl, SubB.of_eq (by rw [take_flat hx2])⟩, trivial⟩)
 <| fun q3 => have p3 := decF q3; .r 2 <| .frz 24 [2] [] [V = V, (ps.take j).flatten.length = ((ps.take j).flatten).length] ⟨rfl, (by first | rfl | (simp; done) | (simp; omega)), trivial⟩ <|
 .fin (x := .sl 5 false ((ps.take j).flatten)) (r := .sl 5 false ps.flatten) [] trivial (by exact Sub.of_eq (by rw [take_all (by omega)]))) a2.1 a2.2 ha2) a1 ha1) Try.func36 rfl (by kernel_rfl) (by kernel_rfl)
theorem pcs_sub {t : Bool} : ∀ {ps : List (List (List AV))} {qs : List (List AV)}, qs.length = ps.length → (∀ (i : Nat) (q : List AV) (p : List (List AV)), qs[i]? = some q → ps[i]? = some p → SubAll q (pc5 p)) → Sub (.sl 1 t qs) (.sl 1 false (ps.map pc5)) := fun {ps qs} hl h =>
  (Sub.sl2 (by rw [hl, List.length_map]) (fun i a b ha hb => by
    rw [List.getElem?_map] at hb
    cases hc : ps[i]? with
    | none => rw [hc] at hb; cases hb
    | some p =>
      rw [hc] at hb
      obtain rfl := Option.some.inj hb
      exact h i a p ha hc)).trans (Sub.loose _ _ _)
theorem pcs3 {t t1 t2 t3 : Bool} (A B C : List (List AV)) : Sub (.sl 1 t [[.sl 5 t1 A], [.sl 5 t2 B], [.sl 5 t3 C]]) (.sl 1 false ([A, B, C].map pc5)) := pcs_sub rfl fun i q p hq hp => by
  match i, hq, hp with
  | 0, hq, hp => simp at hq hp; subst hq hp; exact ⟨Sub.loose _ _ _, trivial⟩
  | 1, hq, hp => simp at hq hp; subst hq hp; exact ⟨Sub.loose _ _ _, trivial⟩
  | 2, hq, hp => simp at hq hp; subst hq hp; exact ⟨Sub.loose _ _ _, trivial⟩
  | i + 3, hq, _ => simp at hq
theorem pcs2 {t t1 t2 : Bool} (A B : List (List AV)) : Sub (.sl 1 t [[.sl 5 t1 A], [.sl 5 t2 B]]) (.sl 1 false ([A, B].map pc5)) := pcs_sub rfl fun i q p hq hp => by
  match i, hq, hp with
  | 0, hq, hp => simp at hq hp; subst hq hp; exact ⟨Sub.loose _ _ _, trivial⟩
  | 1, hq, hp => simp at hq hp; subst hq hp; exact ⟨Sub.loose _ _ _, trivial⟩
  | i + 2, hq, _ => simp at hq
end Go.Proofs.Ytgcjfhgkkgocpaa
