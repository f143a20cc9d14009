/- A new tree; the examples. -/
import Derived.Test.YtgcjfhgkkgocpaaTreR8
import Derived.Test.YtgcjfhgkkgocpaaRngNil
set_option linter.unusedVariables false
set_option linter.unusedSimpArgs false
namespace Go.Proofs.Ytgcjfhgkkgocpaa
open Go Go.RowKit Copyhold
def rootN : Nod := ⟨1, 2, 0, [], []⟩
def newF : Fsy := ⟨[rootN], 2⟩
theorem sl1_of {k : Nat} {t : Bool} {e e' : List AV} (h : SubAll e e') : Sub (.sl k t [e]) (.sl k false [e']) :=
  (Sub.sl2 (t := t) (xs := [e]) (ys := [e']) rfl (fun i a b ha hb => by
    match i, ha, hb with
    | 0, ha, hb => simp at ha hb; rw [← ha, ← hb]; exact h
    | i + 1, ha, _ => simp at ha)).trans (Sub.loose _ _ _)
theorem rootN_ok : OkN rootN := ⟨⟨by decide, by decide⟩, ⟨by decide, by decide⟩, ⟨by decide, by decide⟩, by show (0 : Nat) ≤ _; omega, by show (0 : Nat) ≤ _; omega, fun e h => by cases h⟩
theorem newF_ok : OkF newF := ⟨⟨by decide, by decide⟩, by show (1 : Nat) ≤ _; omega, fun n h => by obtain rfl := List.mem_singleton.1 h; exact rootN_ok⟩
theorem newF_rise : RiseN newF.l := by simp [newF, RiseN, RiseF]
theorem newF_rows : rowsP newF := rowsP_iff.2 ⟨by decide, by decide, fun n h => by
  obtain rfl := List.mem_singleton.1 h
  exact ⟨⟨by decide, by decide, by decide, .inl ⟨rfl, rfl, rowP_nil⟩⟩, by decide⟩, newF_rise⟩
theorem newF_at {k : Nat} {x : Nod} (h : newF.l[k]? = some x) : x = rootN := by
  have := List.mem_of_getElem? h
  exact List.mem_singleton.1 this
theorem newF_len : newF.l.length = 1 := rfl
set_option maxRecDepth 100000 in
set_option maxHeartbeats 4000000 in
theorem tnew_spec  : FSpec Try.prog 26 [] (.agg (fsyA newF)) := by
  exact spec_vc (F := Try.f26) 400 (
 .new fun b1 => .run 4 [b1 = b1] ⟨rfl, trivial⟩ <|
 .fin (x := .agg [.sl 5 true ([[aI 1, aI 2, aI 0, aS ([]), aN]]), aI 2]) (r := .agg (fsyA newF)) [b1 = b1] ⟨rfl, trivial⟩ (by exact Sub.aggs ⟨sl1_of ⟨Sub.refl _, Sub.refl _, Sub.refl _, Sub.refl _, Sub.nil _ _, trivial⟩, Sub.refl _, trivial⟩)) Try.func26 rfl (by kernel_rfl) (by kernel_rfl)
set_option maxRecDepth 100000 in
set_option maxHeartbeats 4000000 in
theorem count0_spec  : FSpec Try.prog 42 [.agg [.sl 5 false (newF.l.map nodA), aI newF.next]] (.mp []) := by
  have hnl := newF_len
  exact spec_vc (F := Try.f42) 400 (
 .new fun b1 => .r 1 <| .mkMap fun r2 => .r 1 <| .run 3 [b1 = b1] ⟨rfl, trivial⟩ <|
 .val 11 (show (aI ((newF.l.map nodA).length : Int) : AV) = aI (newF.l.length : Int) from by rw [List.length_map]) <| .r 1 <| let L1 : Lp (Nat) := ⟨fun a1 => ⟨[(3, .mref 8 r2), (10, .sl 5 false (newF.l.map nodA)), (11, aI (newF.l.length : Int)), (12, aI (a1 : Int))], [(8, .mp r2 [])]⟩, fun a1 => newF.l.length - a1, fun a1 => a1 ≤ newF.l.length⟩
 .loop L1 0 (show 0 ≤ newF.l.length from Nat.zero_le _) ⟨[(3, .mref 8 r2), (10, .sl 5 false (newF.l.map nodA)), (11, aI (newF.l.length : Int)), (12, aI 0)], [(8, .mp r2 [])]⟩ ⟨Sub.refl _, Sub.refl _, Sub.refl _, Sub.of_eq (congrArg aI (by first | omega | rfl)), trivial⟩ ⟨⟨_, rfl, SubB.refl _⟩, trivial⟩ fun a1 ha1 =>
 (fun (k : Nat) (hH1 : k ≤ newF.l.length) => .r 1 <| .br 13 (decide ((k : Int) < (newF.l.length : Int))) (fun q1 => have p1 := decT q1; .idxM newF.l nodA k (m := (k : Int)) rfl (by omega) fun x1 hx1 =>
 .r 1 <| .new fun b3 => .run 1 [b3 = b3] ⟨rfl, trivial⟩ <|
 .run 3 [b3 = b3] ⟨rfl, trivial⟩ <|
 .is 18 (show (x1.kind != 2) = false from (by rw [newF_at hx1]; rfl)) <| .run 3 [b3 = b3] ⟨rfl, trivial⟩ <|
 .val 21 (show (aI ((x1.l.map entA).length : Int) : AV) = aI (x1.l.length : Int) from by rw [List.length_map]) <| .r 1 <| let L2 : Lp (Nat) := ⟨fun a2 => ⟨[(3, .mref 8 r2), (10, .sl 5 false (newF.l.map nodA)), (11, aI (newF.l.length : Int)), (12, aI (k : Int)), (20, .sl 2 false (x1.l.map entA)), (21, aI (x1.l.length : Int)), (22, aI (a2 : Int))], [(8, .mp r2 [])]⟩, fun a2 => 0 - a2, fun a2 => 0 ≤ a2⟩
 .loop L2 0 (show 0 ≤ 0 from Nat.zero_le _) ⟨[(3, .mref 8 r2), (10, .sl 5 false (newF.l.map nodA)), (11, aI (newF.l.length : Int)), (12, aI (k : Int)), (20, .sl 2 false (x1.l.map entA)), (21, aI (x1.l.length : Int)), (22, aI 0)], [(8, .mp r2 [])]⟩ ⟨Sub.refl _, Sub.refl _, Sub.refl _, Sub.refl _, Sub.refl _, Sub.refl _, Sub.of_eq (congrArg aI (by first | omega | rfl)), trivial⟩ ⟨⟨_, rfl, SubB.refl _⟩, trivial⟩ fun a2 ha2 =>
 (fun (j : Nat) (hH2 : 0 ≤ j) => .r 1 <| .is 23 (show (decide ((j : Int) < (x1.l.length : Int))) = false from (decide_eq_false (by rw [newF_at hx1]; show ¬ (_ : Int) < ((0 : Nat) : Int); omega))) <| .run 2 [rng .i64 ((k : Int) + 1)] ⟨rng64 (by omega) (by omega), trivial⟩ <|
 .back L1 k (k + 1) (show (k + 1) ≤ newF.l.length from (by show _ ≤ _; omega)) (show newF.l.length - (k + 1) < newF.l.length - k from (by omega)) ⟨[(3, .mref 8 r2), (10, .sl 5 false (newF.l.map nodA)), (11, aI (newF.l.length : Int)), (12, aI ((k : Int) + 1))], [(8, .mp r2 [])]⟩ ⟨Sub.refl _, Sub.refl _, Sub.refl _, Sub.of_eq (congrArg aI (by first | omega | rfl)), trivial⟩ ⟨⟨_, rfl, SubB.refl _⟩, trivial⟩) a2 ha2)
 <| fun q1 => have p1 := decF q1; .r 2 <| .frz 8 [2] [] [r2 = r2] ⟨rfl, trivial⟩ <|
 .fin (x := .mp []) (r := .mp []) [] trivial (by exact Sub.refl _)) a1 ha1) Try.func42 rfl (by kernel_rfl) (by kernel_rfl)
set_option maxRecDepth 100000 in
set_option maxHeartbeats 4000000 in
theorem names0_spec  : FSpec Try.prog 25 [.agg [.sl 5 false (newF.l.map nodA), aI newF.next], aI 1] (aI 0) := by
  exact spec_vc (F := Try.f25) 400 (
 .new fun b1 => .r 1 <| .run 1 [b1 = b1] ⟨rfl, trivial⟩ <|
 .call (count0_spec) <|
 .r 1 <| .look (kk := .i 1) (es := []) (fd := none) rfl <| .r 1 <| .fin (x := aI 0) (r := aI 0) [] trivial (by exact Sub.refl _)) Try.func25 rfl (by kernel_rfl) (by kernel_rfl)
set_option maxRecDepth 100000 in
set_option maxHeartbeats 4000000 in
theorem reach1_spec  : FSpec Try.prog 62 [aI 1, .dptr [.sl 5 false (newF.l.map nodA), aI newF.next], .any, .any] (.tup []) := by
  exact spec_vc (F := Try.f62) 400 (
 .r 2 <| .call (tfind_spec newF 1 (by decide) newF_rise) <|
 .r 3 <| .new fun b1 => .run 2 [b1 = b1] ⟨rfl, trivial⟩ <|
 .run 7 [b1 = b1] ⟨rfl, trivial⟩ <|
 .is 23 (show (rootN.kind != 2) = false from rfl) <| .run 3 [b1 = b1] ⟨rfl, trivial⟩ <|
 .val 26 (show (aI ((rootN.l.map entA).length : Int) : AV) = aI (rootN.l.length : Int) from by rw [List.length_map]) <| .r 1 <| let L1 : Lp (Nat) := ⟨fun a1 => ⟨[(25, .sl 2 false (rootN.l.map entA)), (26, aI (rootN.l.length : Int)), (27, aI (a1 : Int))], []⟩, fun a1 => 0 - a1, fun a1 => 0 ≤ a1⟩
 .loop L1 0 (show 0 ≤ 0 from Nat.zero_le _) ⟨[(25, .sl 2 false (rootN.l.map entA)), (26, aI (rootN.l.length : Int)), (27, aI 0)], []⟩ ⟨Sub.refl _, Sub.refl _, Sub.of_eq (congrArg aI (by first | omega | rfl)), trivial⟩ trivial fun a1 ha1 =>
 (fun (j : Nat) (hH1 : 0 ≤ j) => .r 1 <| .is 28 (show (decide ((j : Int) < (rootN.l.length : Int))) = false from (decide_eq_false (by show ¬ (_ : Int) < ((0 : Nat) : Int); omega))) <| .fin (x := .tup []) (r := .tup []) [] trivial (by exact Sub.refl _)) a1 ha1) Try.func62 rfl (by kernel_rfl) (by kernel_rfl)
set_option maxRecDepth 100000 in
set_option maxHeartbeats 4000000 in
theorem reach0_spec  : FSpec Try.prog 43 [.agg [.sl 5 false (newF.l.map nodA), aI newF.next], aI 1] (.mp []) := by
  exact spec_vc (F := Try.f43) 400 (
 .new fun b1 => .r 1 <| .mkMap fun r2 => .new fun b3 => .run 1 [b3 = b3] ⟨rfl, trivial⟩ <|
 .new fun b4 => .run 2 [b4 = b4] ⟨rfl, trivial⟩ <|
 .frz 2 [1, 4, 5, 6] [7, 5, 6] [b1 = b1] ⟨rfl, trivial⟩ <|
 .run 2 [b4 = b4] ⟨rfl, trivial⟩ <|
 .callS (args0 := [aI 1, .dptr [.sl 5 false (newF.l.map nodA), aI newF.next], .ptr 5 b3 0, .ptr 6 b4 0]) (args := [aI 1, .dptr [.sl 5 false (newF.l.map nodA), aI newF.next], .any, .any]) ⟨Sub.refl _, Sub.refl _, Sub.any _, Sub.any _, trivial⟩ (reach1_spec) <|
 .run 2 [b3 = b3] ⟨rfl, trivial⟩ <|
 .frz 7 [4] [] [r2 = r2] ⟨rfl, trivial⟩ <|
 .fin (x := .mp []) (r := .mp []) [] trivial (by exact Sub.refl _)) Try.func43 rfl (by kernel_rfl) (by kernel_rfl)
set_option maxRecDepth 100000 in
set_option maxHeartbeats 4000000 in
theorem below0_spec  : FSpec Try.prog 24 [.agg [.sl 5 false (newF.l.map nodA), aI newF.next], aI 1, aI 1] (aB false) := by
  exact spec_vc (F := Try.f24) 400 (
 .new fun b1 => .r 1 <| .run 2 [b1 = b1] ⟨rfl, trivial⟩ <|
 .call (reach0_spec) <|
 .r 1 <| .look (kk := .i 1) (es := []) (fd := none) rfl <| .r 3 <| .new fun b2 => .run 2 [b2 = b2] ⟨rfl, trivial⟩ <|
 .r 2 <| .fin (x := aB false) (r := aB false) [] trivial (by exact Sub.refl _)) Try.func24 rfl (by kernel_rfl) (by kernel_rfl)
set_option maxRecDepth 100000 in
set_option maxHeartbeats 4000000 in
theorem right0_spec  : FSpec Try.prog 23 [.agg [.sl 5 false (newF.l.map nodA), aI newF.next]] (aB true) := by
  exact spec_vc (F := Try.f23) 400 (
 .new fun b1 => .r 1 <| .run 1 [b1 = b1] ⟨rfl, trivial⟩ <|
 .call (rows_spec newF newF_ok) <|
 .r 2 <| .is 16 (show (!(dP (rowsP newF))) = false from (by rw [show (dP (rowsP newF)) = true from (dP_true.2 newF_rows)]; rfl)) <| .run 3 [b1 = b1] ⟨rfl, trivial⟩ <|
 .val 19 (show (aI ((newF.l.map nodA).length : Int) : AV) = aI (newF.l.length : Int) from by rw [List.length_map]) <| .r 2 <| .is 21 (show ((newF.l.length : Int) == 0) = false from rfl) <| .run 2 [b1 = b1] ⟨rfl, trivial⟩ <|
 .idxM newF.l nodA 0 (m := 0) rfl (by rw [newF_len]; omega) fun x1 hx1 =>
 .r 1 <| .new fun b2 => .run 1 [b2 = b2] ⟨rfl, trivial⟩ <|
 .run 4 [b2 = b2] ⟨rfl, trivial⟩ <|
 .is 29 (show (x1.ino != 1) = false from (by rw [newF_at hx1]; rfl)) <| .run 5 [b2 = b2] ⟨rfl, trivial⟩ <|
 .is 34 (show (x1.kind != 2) = false from (by rw [newF_at hx1]; rfl)) <| .run 4 [b2 = b2] ⟨rfl, trivial⟩ <|
 .is 38 (show (x1.links != 0) = false from (by rw [newF_at hx1]; rfl)) <| .run 1 [b1 = b1] ⟨rfl, trivial⟩ <|
 .call (count0_spec) <|
 .r 1 <| .via 101 (seqN 5 (Try.f23.body.getD .skip)) (seqN 6 (Try.f23.body.getD .skip)) (rnR 4) () (fun (_ : Unit) σ => (((σ.put (some 41) .any).put (some 42) .any).put (some 43) .any).put (some 44) .any) (rule_rngNil (m := 4) (x := 41) (it := 42) (nx := 43) (t := 44) (kt := 3) (et := 3) (Y := seqN 6 (Try.f23.body.getD .skip)) rfl ⟨rfl, rfl, rfl⟩ ⟨rfl, rfl, rfl⟩ (by kernel_rfl) ⟨rfl, rfl, rfl⟩ ⟨rfl, rfl, rfl⟩ (by decide)) fun _ =>
 .run 1 [b1 = b1] ⟨rfl, trivial⟩ <|
 .call (reach0_spec) <|
 .r 1 <| .run 2 [b1 = b1] ⟨rfl, trivial⟩ <|
 .slc 5 false (newF.l.map nodA) (some 1) none none 1 ((newF.l.map nodA).length) false (.inr rfl) (.inl ⟨rfl, rfl⟩) (.inl ⟨rfl, fun h => by cases h⟩) (by simp [newF]) (by simp [newF]) <|
 .r 2 <| let L1 : Lp (Nat) := ⟨fun a1 => ⟨[(4, .mp []), (8, .mp []), (63, .sl 5 false (((newF.l.map nodA).take ((newF.l.map nodA).length)).drop 1)), (64, aI ((((newF.l.map nodA).take ((newF.l.map nodA).length)).drop 1).length : Int)), (65, aI (a1 : Int))], []⟩, fun a1 => 0 - a1, fun a1 => 0 ≤ a1⟩
 .loop L1 0 (show 0 ≤ 0 from Nat.zero_le _) ⟨[(4, .mp []), (8, .mp []), (63, .sl 5 false (((newF.l.map nodA).take ((newF.l.map nodA).length)).drop 1)), (64, aI ((((newF.l.map nodA).take ((newF.l.map nodA).length)).drop 1).length : Int)), (65, aI 0)], []⟩ ⟨Sub.refl _, Sub.refl _, Sub.refl _, Sub.refl _, Sub.of_eq (congrArg aI (by first | omega | rfl)), trivial⟩ trivial fun a1 ha1 =>
 (fun (j : Nat) (hH1 : 0 ≤ j) => .r 1 <| .is 66 (show (decide ((j : Int) < ((((newF.l.map nodA).take ((newF.l.map nodA).length)).drop 1).length : Int))) = false from (decide_eq_false (by first | (simp [newF]; done) | (simp [newF]; omega)))) <| .r 1 <| .fin (x := aB true) (r := aB true) [] trivial (by exact Sub.refl _)) a1 ha1) Try.func23 rfl (by kernel_rfl) (by kernel_rfl)
set_option maxRecDepth 100000 in
set_option maxHeartbeats 4000000 in
theorem shown_spec  : FSpec Try.prog 9 [] (aB true) := by
  exact spec_vc (F := Try.f9) 400 (
 .r 1 <| .call (tnew_spec) <|
 .new fun b1 => .run 1 [b1 = b1] ⟨rfl, trivial⟩ <|
 .run 3 [b1 = b1] ⟨rfl, trivial⟩ <|
 .val 5 (show (aI ((newF.l.map nodA).length : Int) : AV) = aI (newF.l.length : Int) from by rw [List.length_map]) <| .r 2 <| .is 7 (show ((newF.l.length : Int) == 1) = true from (by rfl)) <| .run 5 [b1 = b1] ⟨rfl, trivial⟩ <|
 .is 12 (show (newF.next == 2) = true from (by rfl)) <| .run 1 [b1 = b1] ⟨rfl, trivial⟩ <|
 .call (names0_spec) <|
 .r 3 <| .is 17 (show (0 == 0) = true from rfl) <| .run 1 [b1 = b1] ⟨rfl, trivial⟩ <|
 .call (below0_spec) <|
 .run 4 [b1 = b1] ⟨rfl, trivial⟩ <|
 .call (right0_spec) <|
 .r 2 <| .fin (x := aB true) (r := aB true) [] trivial (by exact Sub.of_eq (by first | rfl | simp))) Try.func9 rfl (by kernel_rfl) (by kernel_rfl)
end Go.Proofs.Ytgcjfhgkkgocpaa
