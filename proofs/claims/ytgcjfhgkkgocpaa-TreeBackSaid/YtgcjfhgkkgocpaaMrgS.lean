/- A new tree; the examples. What is put in, and taken out, is found so: the mathematics. The law TreeTurns over data. What comes in, by its type: an abstract value that describes it. Over any program. No conditions beyond each law's own. File systems among a law's arguments: what they read as. -/
import Derived.Test.YtgcjfhgkkgocpaaMrgM
import Derived.Test.YtgcjfhgkkgocpaaMrgR
import Derived.Test.YtgcjfhgkkgocpaaMrgI
import Derived.Test.YtgcjfhgkkgocpaaMrgJ
import Derived.Test.YtgcjfhgkkgocpaaRows
set_option linter.unusedVariables false
set_option linter.unusedSimpArgs false
namespace Go.Proofs.Ytgcjfhgkkgocpaa
open Go Go.RowKit Copyhold
def rootN : Nod := ⟨1, 2, 0, [], []⟩
def newF : Fsy := ⟨[rootN], 2⟩
theorem sl1_of {k : Nat} {t : Bool} {e e' : List AV} (h : SubAll e e') : Sub (.sl k t [e]) (.sl k false [e']) :=
  (Sub.sl2 (t := t) (xs := [e]) (ys := [e']) rfl (fun i a b ha hb => by
    match i, ha, hb with
    | 0, ha, hb => simp at ha hb; rw [← ha, ← hb]; exact h
    | i + 1, ha, _ => simp at ha)).trans (Sub.loose _ _ _)
theorem rootN_ok : OkN rootN := ⟨⟨by decide, by decide⟩, ⟨by decide, by decide⟩, ⟨by decide, by decide⟩, by show (0 : Nat) ≤ _; omega, by show (0 : Nat) ≤ _; omega, fun e h => by cases h⟩
theorem newF_ok : OkF newF := ⟨⟨by decide, by decide⟩, by show (1 : Nat) ≤ _; omega, fun n h => by obtain rfl := List.mem_singleton.1 h; exact rootN_ok⟩
theorem newF_rise : RiseN newF.l := by simp [newF, RiseN, RiseF]
theorem newF_rows : rowsP newF := rowsP_iff.2 ⟨by decide, by decide, fun n h => by
  obtain rfl := List.mem_singleton.1 h
  exact ⟨⟨by decide, by decide, by decide, .inl ⟨rfl, rfl, rowP_nil⟩⟩, by decide⟩, newF_rise⟩
theorem newF_at {k : Nat} {x : Nod} (h : newF.l[k]? = some x) : x = rootN := by
  have := List.mem_of_getElem? h
  exact List.mem_singleton.1 this
theorem newF_len : newF.l.length = 1 := rfl
set_option maxRecDepth 100000 in
set_option maxHeartbeats 4000000 in
theorem tnew_spec  : FSpec Try.prog 26 [] (.agg (fsyA newF)) := by
  exact spec_vc (F := Try.f26) 400 (
 .new fun b1 => .run 4 [b1 = b1] ⟨rfl, trivial⟩ <|
 .fin (x := .agg [.sl 5 true ([[aI 1, aI 2, aI 0, aS ([]), aN]]), aI 2]) (r := .agg (fsyA newF)) [b1 = b1] ⟨rfl, trivial⟩ (by exact Sub.aggs ⟨sl1_of ⟨Sub.refl _, Sub.refl _, Sub.refl _, Sub.refl _, Sub.nil _ _, trivial⟩, Sub.refl _, trivial⟩)) Try.func26 rfl (by kernel_rfl) (by kernel_rfl)
set_option maxRecDepth 100000 in
set_option maxHeartbeats 4000000 in
theorem count0_spec  : FSpec Try.prog 42 [.agg [.sl 5 false (newF.l.map nodA), aI newF.next]] (.mp []) := by
  have hnl := newF_len
  exact spec_vc (F := Try.f42) 400 (
 .new fun b1 => .r 1 <| .mkMap fun r2 => .r 1 <| .run 3 [b1 = b1] ⟨rfl, trivial⟩ <|
 .val 11 (show (aI ((newF.l.map nodA).length : Int) : AV) = aI (newF.l.length : Int) from by rw [List.length_map]) <| .r 1 <| let L1 : Lp (Nat) := ⟨fun a1 => ⟨[(3, .mref 8 r2), (10, .sl 5 false (newF.l.map nodA)), (11, aI (newF.l.length : Int)), (12, aI (a1 : Int))], [(8, .mp r2 [])]⟩, fun a1 => newF.l.length - a1, fun a1 => a1 ≤ newF.l.length⟩
 .loop L1 0 (show 0 ≤ newF.l.length from Nat.zero_le _) ⟨[(3, .mref 8 r2), (10, .sl 5 false (newF.l.map nodA)), (11, aI (newF.l.length : Int)), (12, aI 0)], [(8, .mp r2 [])]⟩ ⟨Sub.refl _, Sub.refl _, Sub.refl _, Sub.of_eq (congrArg aI (by first | omega | rfl)), trivial⟩ ⟨⟨_, rfl, SubB.refl _⟩, trivial⟩ fun a1 ha1 =>
 (fun (k : Nat) (hH1 : k ≤ newF.l.length) => .r 1 <| .br 13 (decide ((k : Int) < (newF.l.length : Int))) (fun q1 => have p1 := decT q1; .idxM newF.l nodA k (m := (k : Int)) rfl (by omega) fun x1 hx1 =>
 .r 1 <| .new fun b3 => .run 1 [b3 = b3] ⟨rfl, trivial⟩ <|
 .run 3 [b3 = b3] ⟨rfl, trivial⟩ <|
 .is 18 (show (x1.kind != 2) = false from (by rw [newF_at hx1]; rfl)) <| .run 3 [b3 = b3] ⟨rfl, trivial⟩ <|
 .val 21 (show (aI ((x1.l.map entA).length : Int) : AV) = aI (x1.l.length : Int) from by rw [List.length_map]) <| .r 1 <| let L2 : Lp (Nat) := ⟨fun a2 => ⟨[(3, .mref 8 r2), (10, .sl 5 false (newF.l.map nodA)), (11, aI (newF.l.length : Int)), (12, aI (k : Int)), (20, .sl 2 false (x1.l.map entA)), (21, aI (x1.l.length : Int)), (22, aI (a2 : Int))], [(8, .mp r2 [])]⟩, fun a2 => 0 - a2, fun a2 => 0 ≤ a2⟩
 .loop L2 0 (show 0 ≤ 0 from Nat.zero_le _) ⟨[(3, .mref 8 r2), (10, .sl 5 false (newF.l.map nodA)), (11, aI (newF.l.length : Int)), (12, aI (k : Int)), (20, .sl 2 false (x1.l.map entA)), (21, aI (x1.l.length : Int)), (22, aI 0)], [(8, .mp r2 [])]⟩ ⟨Sub.refl _, Sub.refl _, Sub.refl _, Sub.refl _, Sub.refl _, Sub.refl _, Sub.of_eq (congrArg aI (by first | omega | rfl)), trivial⟩ ⟨⟨_, rfl, SubB.refl _⟩, trivial⟩ fun a2 ha2 =>
 (fun (j : Nat) (hH2 : 0 ≤ j) => .r 1 <| .is 23 (show (decide ((j : Int) < (x1.l.length : Int))) = false from (decide_eq_false (by rw [newF_at hx1]; show ¬ (_ : Int) < ((0 : Nat) : Int); omega))) <| .run 2 [rng .i64 ((k : Int) + 1)] ⟨rng64 (by omega) (by omega), trivial⟩ <|
 .back L1 k (k + 1) (show (k + 1) ≤ newF.l.length from (by show _ ≤ _; omega)) (show newF.l.length - (k + 1) < newF.l.length - k from (by omega)) ⟨[(3, .mref 8 r2), (10, .sl 5 false (newF.l.map nodA)), (11, aI (newF.l.length : Int)), (12, aI ((k : Int) + 1))], [(8, .mp r2 [])]⟩ ⟨Sub.refl _, Sub.refl _, Sub.refl _, Sub.of_eq (congrArg aI (by first | omega | rfl)), trivial⟩ ⟨⟨_, rfl, SubB.refl _⟩, trivial⟩) a2 ha2)
 <| fun q1 => have p1 := decF q1; .r 2 <| .frz 8 [2] [] [r2 = r2] ⟨rfl, trivial⟩ <|
 .fin (x := .mp []) (r := .mp []) [] trivial (by exact Sub.refl _)) a1 ha1) Try.func42 rfl (by kernel_rfl) (by kernel_rfl)
set_option maxRecDepth 100000 in
set_option maxHeartbeats 4000000 in
theorem names0_spec  : FSpec Try.prog 25 [.agg [.sl 5 false (newF.l.map nodA), aI newF.next], aI 1] (aI 0) := by
  exact spec_vc (F := Try.f25) 400 (
 .new fun b1 => .r 1 <| .run 1 [b1 = b1] ⟨rfl, trivial⟩ <|
 .call (count0_spec) <|
 .r 1 <| .look (kk := .i 1) (es := []) (fd := none) rfl <| .r 1 <| .fin (x := aI 0) (r := aI 0) [] trivial (by exact Sub.refl _)) Try.func25 rfl (by kernel_rfl) (by kernel_rfl)
set_option maxRecDepth 100000 in
set_option maxHeartbeats 4000000 in
theorem reach1_spec  : FSpec Try.prog 62 [aI 1, .dptr [.sl 5 false (newF.l.map nodA), aI newF.next], .any, .any] (.tup []) := by
  exact spec_vc (F := Try.f62) 400 (
 .r 2 <| .call (tfind_spec newF 1 (by decide) newF_rise) <|
 .r 3 <| .new fun b1 => .run 2 [b1 = b1] ⟨rfl, trivial⟩ <|
 .run 7 [b1 = b1] ⟨rfl, trivial⟩ <|
 .is 23 (show (rootN.kind != 2) = false from rfl) <| .run 3 [b1 = b1] ⟨rfl, trivial⟩ <|
 .val 26 (show (aI ((rootN.l.map entA).length : Int) : AV) = aI (rootN.l.length : Int) from by rw [List.length_map]) <| .r 1 <| let L1 : Lp (Nat) := ⟨fun a1 => ⟨[(25, .sl 2 false (rootN.l.map entA)), (26, aI (rootN.l.length : Int)), (27, aI (a1 : Int))], []⟩, fun a1 => 0 - a1, fun a1 => 0 ≤ a1⟩
 .loop L1 0 (show 0 ≤ 0 from Nat.zero_le _) ⟨[(25, .sl 2 false (rootN.l.map entA)), (26, aI (rootN.l.length : Int)), (27, aI 0)], []⟩ ⟨Sub.refl _, Sub.refl _, Sub.of_eq (congrArg aI (by first | omega | rfl)), trivial⟩ trivial fun a1 ha1 =>
 (fun (j : Nat) (hH1 : 0 ≤ j) => .r 1 <| .is 28 (show (decide ((j : Int) < (rootN.l.length : Int))) = false from (decide_eq_false (by show ¬ (_ : Int) < ((0 : Nat) : Int); omega))) <| .fin (x := .tup []) (r := .tup []) [] trivial (by exact Sub.refl _)) a1 ha1) Try.func62 rfl (by kernel_rfl) (by kernel_rfl)
set_option maxRecDepth 100000 in
set_option maxHeartbeats 4000000 in
theorem reach0_spec  : FSpec Try.prog 43 [.agg [.sl 5 false (newF.l.map nodA), aI newF.next], aI 1] (.mp []) := by
  exact spec_vc (F := Try.f43) 400 (
 .new fun b1 => .r 1 <| .mkMap fun r2 => .new fun b3 => .run 1 [b3 = b3] ⟨rfl, trivial⟩ <|
 .new fun b4 => .run 2 [b4 = b4] ⟨rfl, trivial⟩ <|
 .frz 2 [1, 4, 5, 6] [7, 5, 6] [b1 = b1] ⟨rfl, trivial⟩ <|
 .run 2 [b4 = b4] ⟨rfl, trivial⟩ <|
 .callS (args0 := [aI 1, .dptr [.sl 5 false (newF.l.map nodA), aI newF.next], .ptr 5 b3 0, .ptr 6 b4 0]) (args := [aI 1, .dptr [.sl 5 false (newF.l.map nodA), aI newF.next], .any, .any]) ⟨Sub.refl _, Sub.refl _, Sub.any _, Sub.any _, trivial⟩ (reach1_spec) <|
 .run 2 [b3 = b3] ⟨rfl, trivial⟩ <|
 .frz 7 [4] [] [r2 = r2] ⟨rfl, trivial⟩ <|
 .fin (x := .mp []) (r := .mp []) [] trivial (by exact Sub.refl _)) Try.func43 rfl (by kernel_rfl) (by kernel_rfl)
set_option maxRecDepth 100000 in
set_option maxHeartbeats 4000000 in
theorem below0_spec  : FSpec Try.prog 24 [.agg [.sl 5 false (newF.l.map nodA), aI newF.next], aI 1, aI 1] (aB false) := by
  exact spec_vc (F := Try.f24) 400 (
 .new fun b1 => .r 1 <| .run 2 [b1 = b1] ⟨rfl, trivial⟩ <|
 .call (reach0_spec) <|
 .r 1 <| .look (kk := .i 1) (es := []) (fd := none) rfl <| .r 3 <| .new fun b2 => .run 2 [b2 = b2] ⟨rfl, trivial⟩ <|
 .r 2 <| .fin (x := aB false) (r := aB false) [] trivial (by exact Sub.refl _)) Try.func24 rfl (by kernel_rfl) (by kernel_rfl)
set_option maxRecDepth 100000 in
set_option maxHeartbeats 4000000 in
theorem right0_spec  : FSpec Try.prog 23 [.agg [.sl 5 false (newF.l.map nodA), aI newF.next]] (aB true) := by
  exact spec_vc (F := Try.f23) 400 (
 .new fun b1 => .r 1 <| .run 1 [b1 = b1] ⟨rfl, trivial⟩ <|
 .call (rows_spec newF newF_ok) <|
 .r 2 <| .is 16 (show (!(dP (rowsP newF))) = false from (by rw [show (dP (rowsP newF)) = true from (dP_true.2 newF_rows)]; rfl)) <| .run 3 [b1 = b1] ⟨rfl, trivial⟩ <|
 .val 19 (show (aI ((newF.l.map nodA).length : Int) : AV) = aI (newF.l.length : Int) from by rw [List.length_map]) <| .r 2 <| .is 21 (show ((newF.l.length : Int) == 0) = false from rfl) <| .run 2 [b1 = b1] ⟨rfl, trivial⟩ <|
 .idxM newF.l nodA 0 (m := 0) rfl (by rw [newF_len]; omega) fun x1 hx1 =>
 .r 1 <| .new fun b2 => .run 1 [b2 = b2] ⟨rfl, trivial⟩ <|
 .run 4 [b2 = b2] ⟨rfl, trivial⟩ <|
 .is 29 (show (x1.ino != 1) = false from (by rw [newF_at hx1]; rfl)) <| .run 5 [b2 = b2] ⟨rfl, trivial⟩ <|
 .is 34 (show (x1.kind != 2) = false from (by rw [newF_at hx1]; rfl)) <| .run 4 [b2 = b2] ⟨rfl, trivial⟩ <|
 .is 38 (show (x1.links != 0) = false from (by rw [newF_at hx1]; rfl)) <| .run 1 [b1 = b1] ⟨rfl, trivial⟩ <|
 .call (count0_spec) <|
 .r 1 <| .via 101 (seqN 5 (Try.f23.body.getD .skip)) (seqN 6 (Try.f23.body.getD .skip)) (rnR 4) () (fun (_ : Unit) σ => (((σ.put (some 41) .any).put (some 42) .any).put (some 43) .any).put (some 44) .any) (rule_rngNil (m := 4) (x := 41) (it := 42) (nx := 43) (t := 44) (kt := 3) (et := 3) (Y := seqN 6 (Try.f23.body.getD .skip)) rfl ⟨rfl, rfl, rfl⟩ ⟨rfl, rfl, rfl⟩ (by kernel_rfl) ⟨rfl, rfl, rfl⟩ ⟨rfl, rfl, rfl⟩ (by decide)) fun _ =>
 .run 1 [b1 = b1] ⟨rfl, trivial⟩ <|
 .call (reach0_spec) <|
 .r 1 <| .run 2 [b1 = b1] ⟨rfl, trivial⟩ <|
 .slc 5 false (newF.l.map nodA) (some 1) none none 1 ((newF.l.map nodA).length) false (.inr rfl) (.inl ⟨rfl, rfl⟩) (.inl ⟨rfl, fun h => by cases h⟩) (by simp [newF]) (by simp [newF]) <|
 .r 2 <| let L1 : Lp (Nat) := ⟨fun a1 => ⟨[(4, .mp []), (8, .mp []), (63, .sl 5 false (((newF.l.map nodA).take ((newF.l.map nodA).length)).drop 1)), (64, aI ((((newF.l.map nodA).take ((newF.l.map nodA).length)).drop 1).length : Int)), (65, aI (a1 : Int))], []⟩, fun a1 => 0 - a1, fun a1 => 0 ≤ a1⟩
 .loop L1 0 (show 0 ≤ 0 from Nat.zero_le _) ⟨[(4, .mp []), (8, .mp []), (63, .sl 5 false (((newF.l.map nodA).take ((newF.l.map nodA).length)).drop 1)), (64, aI ((((newF.l.map nodA).take ((newF.l.map nodA).length)).drop 1).length : Int)), (65, aI 0)], []⟩ ⟨Sub.refl _, Sub.refl _, Sub.refl _, Sub.refl _, Sub.of_eq (congrArg aI (by first | omega | rfl)), trivial⟩ trivial fun a1 ha1 =>
 (fun (j : Nat) (hH1 : 0 ≤ j) => .r 1 <| .is 66 (show (decide ((j : Int) < ((((newF.l.map nodA).take ((newF.l.map nodA).length)).drop 1).length : Int))) = false from (decide_eq_false (by first | (simp [newF]; done) | (simp [newF]; omega)))) <| .r 1 <| .fin (x := aB true) (r := aB true) [] trivial (by exact Sub.refl _)) a1 ha1) Try.func23 rfl (by kernel_rfl) (by kernel_rfl)
set_option maxRecDepth 100000 in
set_option maxHeartbeats 4000000 in
theorem shown_spec  : FSpec Try.prog 9 [] (aB true) := by
  exact spec_vc (F := Try.f9) 400 (
 .r 1 <| .call (tnew_spec) <|
 .new fun b1 => .run 1 [b1 = b1] ⟨rfl, trivial⟩ <|
 .run 3 [b1 = b1] ⟨rfl, trivial⟩ <|
 .val 5 (show (aI ((newF.l.map nodA).length : Int) : AV) = aI (newF.l.length : Int) from by rw [List.length_map]) <| .r 2 <| .is 7 (show ((newF.l.length : Int) == 1) = true from (by rfl)) <| .run 5 [b1 = b1] ⟨rfl, trivial⟩ <|
 .is 12 (show (newF.next == 2) = true from (by rfl)) <| .run 1 [b1 = b1] ⟨rfl, trivial⟩ <|
 .call (names0_spec) <|
 .r 3 <| .is 17 (show (0 == 0) = true from rfl) <| .run 1 [b1 = b1] ⟨rfl, trivial⟩ <|
 .call (below0_spec) <|
 .run 4 [b1 = b1] ⟨rfl, trivial⟩ <|
 .call (right0_spec) <|
 .r 2 <| .fin (x := aB true) (r := aB true) [] trivial (by exact Sub.of_eq (by first | rfl | simp))) Try.func9 rfl (by kernel_rfl) (by kernel_rfl)
end Go.Proofs.Ytgcjfhgkkgocpaa

set_option linter.unusedVariables false
set_option linter.unusedSimpArgs false
namespace Go.Proofs.Ytgcjfhgkkgocpaa
open Go Go.RowKit Copyhold
theorem cut_out {l : List Nod} {i : Int} (hr : RiseN l) : ∀ x ∈ outN l i, x.ino ≠ i ∧ x ∈ l := by
  intro x hx
  rw [outN_filter hr] at hx
  obtain ⟨h1, h2⟩ := List.mem_filter.1 hx
  exact ⟨by simpa using h2, h1⟩
theorem out_ok {f : Fsy} {i : Int} (okf : OkF f) (hr : RiseN f.l) : OkF (outF f i) := ⟨okf.1, Nat.le_trans (outN_le f.l i) okf.2.1, fun n hn => okf.2.2 n (cut_out hr n hn).2⟩
theorem mem_put {l : List Nod} {n x : Nod} (h : x ∈ putN l n) : x = n ∨ x ∈ l := by
  unfold putN at h
  rcases List.mem_append.1 h with h | h
  · exact .inr (List.mem_of_mem_take h)
  · rcases List.mem_cons.1 h with h | h
    · exact .inl h
    · exact .inr (List.mem_of_mem_drop h)
theorem put_ok {f : Fsy} {n : Nod} (okf : OkF f) (okn : OkN n) (hn : n.ino < 9223372036854775807) (hl : f.l.length ≤ 100000) : OkF (putF f n) := by
  refine ⟨?_, ?_, fun x hx => ?_⟩
  · show I64 (if n.ino + 1 > f.next then n.ino + 1 else f.next)
    split
    · exact ⟨by have := okn.1.1; omega, by omega⟩
    · exact okf.1
  · have := putN_le f.l n
    show (putN f.l n).length ≤ _
    omega
  · rcases mem_put hx with rfl | hx
    · exact okn
    · exact okf.2.2 x hx
end Go.Proofs.Ytgcjfhgkkgocpaa

set_option linter.unusedVariables false
set_option linter.unusedSimpArgs false
namespace Go.Proofs.Ytgcjfhgkkgocpaa
open Go Go.RowKit Copyhold
theorem takeFs_ok : ∀ (m : Nat) (acc : List Nod) (s : Txt), (∀ n ∈ acc, OkN n) → (takeFs m acc s).1.length ≤ acc.length + m ∧ ∀ n ∈ (takeFs m acc s).1, OkN n
  | 0, acc, s, h => ⟨Nat.le_refl _, h⟩
  | m + 1, acc, s, h => by
    by_cases he : (takeNode s).2.2 = 0
    · rw [takeFs_step he]
      have ih := takeFs_ok m (acc ++ [nodO (takeNode s).1]) (takeNode s).2.1 (fun n hn => by
        rcases List.mem_append.1 hn with hn | hn
        · exact h n hn
        · obtain rfl := List.mem_singleton.1 hn; exact nodO_ok (takeNode_ok s))
      simp only [List.length_append, List.length_singleton] at ih
      exact ⟨by omega, ih.2⟩
    · rw [takeFs_bad he]
      exact ⟨Nat.zero_le _, fun n hn => by cases hn⟩
theorem fs0_ok : OkF fs0 := ⟨⟨by decide, by decide⟩, Nat.zero_le _, fun n h => by cases h⟩
theorem takeF_ok (s : Txt) : OkF (takeF s).1 := by
  unfold takeF
  split
  · exact fs0_ok
  · split
    · exact fs0_ok
    · split
      · exact fs0_ok
      · split
        · exact fs0_ok
        · have h := takeFs_ok (takeNum (takeNum s).2.1).1 [] (takeNum (takeNum s).2.1).2.1 (fun n h => by cases h)
          unfold endF
          split
          · refine ⟨(takeWhole_bd s).1, ?_, h.2⟩
            have := h.1
            show (takeFs _ _ _).1.length ≤ _
            simp only [List.length_nil] at this
            omega
          · exact fs0_ok
structure TtIn where
  f : Fsy
  n : Nod
  i : Int
  s : Txt
def ttA (x : TtIn) : List AV := [.sl 5 false (x.f.l.map nodA), aI x.f.next, aI x.n.ino, aI x.n.kind, aI x.n.links, aS x.n.text, .sl 2 false (x.n.l.map entA), aI x.i, aS x.s]
def OkTt (x : TtIn) : Prop := OkF x.f ∧ OkN x.n ∧ I64 x.i ∧ x.s.length ≤ 140737488351232
set_option maxRecDepth 100000 in
set_option maxHeartbeats 4000000 in
theorem treeTurns_spec0 (f : Fsy) (n : Nod) (i : Int) (s : Txt) (okf : OkF f) (okn : OkN n) (hs : s.length ≤ 140737488351232) : FSpec Try.prog 3 [.agg [.sl 5 false (f.l.map nodA), aI f.next, aI n.ino, aI n.kind, aI n.links, aS n.text, .sl 2 false (n.l.map entA), aI i, aS s]] (aB true) := by
  have hnl := okn.2.2.2.2.1
  have hn0 := okn.1.1
  have hn9 := okn.1.2
  exact spec_vc (F := Try.f3) 400 (
 .new fun b1 => .r 1 <| .run 2 [b1 = b1] ⟨rfl, trivial⟩ <|
 .new fun b2 => .run 1 [b2 = b2] ⟨rfl, trivial⟩ <|
 .run 2 [b1 = b1] ⟨rfl, trivial⟩ <|
 .new fun b3 => .run 1 [b3 = b3] ⟨rfl, trivial⟩ <|
 .run 3 [b1 = b1] ⟨rfl, trivial⟩ <|
 .run 3 [b1 = b1] ⟨rfl, trivial⟩ <|
 .call (shown_spec) <|
 .r 1 <| .r 4 <| .br 25 (decide (((s).length : Int) > 5000)) (fun q1 => have p1 := decT q1; .r 5 <| .r 2 <| .fin (x := aB true) (r := aB true) [] trivial (by exact Sub.of_eq (by first | rfl | (exact congrArg aB (dP_true.2 rfl)) | (simp; done))))
 <| fun q1 => have p1 := decF q1; .run 3 [b3 = b3] ⟨rfl, trivial⟩ <|
 .val 28 (show (aI ((n.l.map entA).length : Int) : AV) = aI (n.l.length : Int) from by rw [List.length_map]) <| .r 2 <| .br 30 (decide ((n.l.length : Int) > 200)) (fun q2 => have p2 := decT q2; .r 2 <| .fin (x := aB true) (r := aB true) [] trivial (by exact Sub.of_eq (by first | rfl | (exact congrArg aB (dP_true.2 rfl)) | (simp; done))))
 <| fun q2 => have p2 := decF q2; .r 1 <| .call (take_spec s hs) <|
 .r 3 <| .new fun b4 => .run 2 [b4 = b4] ⟨rfl, trivial⟩ <|
 .r 1 <| .call (rtake_spec s hs) <|
 .r 3 <| .new fun b5 => .run 2 [b5 = b5] ⟨rfl, trivial⟩ <|
 .run 2 [b4 = b4, b5 = b5] ⟨rfl, rfl, trivial⟩ <|
 .call (fsame_spec (takeF s).1 (takeF s).1 (takeF_ok s) (takeF_ok s)) <|
 .r 1 <| .r 3 <| .is 47 (show (!(dP ((takeF s).1 = (takeF s).1))) = false from (by rw [show (dP ((takeF s).1 = (takeF s).1)) = true from (dP_true.2 rfl)]; rfl)) <| .r 4 <| .is 51 (show (((takeF s).2) != ((takeF s).2)) = false from (by simp)) <| .run 1 [b2 = b2] ⟨rfl, trivial⟩ <|
 .call (few_spec f okf) <|
 .r 2 <| .br 55 (!(dP (fewF f))) (fun q3 => have q3 := notT q3; have p3 := booF q3; .r 14 <| .r 2 <| .fin (x := aB true) (r := aB true) [] trivial (by exact Sub.of_eq (by first | rfl | (exact congrArg aB (dP_true.2 rfl)) | (simp; done))))
 <| fun q3 => have q3 := notF q3; have p3 := booT q3; have hf1 := (dP_true.1 q3).1; have hl0 : f.l.length ≤ 200 := (by omega); .run 1 [b2 = b2] ⟨rfl, trivial⟩ <|
 .call (rrows_spec f (okf)) <|
 .r 3 <| .br 60 (!(dP (rowsP f))) (fun q4 => have q4 := notT q4; have p4 := booF q4; .r 9 <| .r 2 <| .fin (x := aB true) (r := aB true) [] trivial (by exact Sub.of_eq (by first | rfl | (exact congrArg aB (dP_true.2 rfl)) | (simp; done))))
 <| fun q4 => have q4 := notF q4; have p4 := booT q4; have hp := dP_true.1 q4; have hr := rows_rise hp; .run 1 [b3 = b3] ⟨rfl, trivial⟩ <|
 .call (rnright_spec n okn) <|
 .r 3 <| .br 65 (!(dP (nodP n))) (fun q5 => have q5 := notT q5; have p5 := booF q5; .r 4 <| .r 2 <| .fin (x := aB true) (r := aB true) [] trivial (by exact Sub.of_eq (by first | rfl | (exact congrArg aB (dP_true.2 rfl)) | (simp; done))))
 <| fun q5 => have q5 := notF q5; have p5 := booT q5; .run 4 [b3 = b3] ⟨rfl, trivial⟩ <|
 .br 69 (n.ino == 9223372036854775807) (fun q6 => have p6 := beqT q6; .r 2 <| .fin (x := aB true) (r := aB true) [] trivial (by exact Sub.of_eq (by first | rfl | (exact congrArg aB (dP_true.2 rfl)) | (simp; done))))
 <| fun q6 => have p6 := beqF q6; .ord [0, 1, 2, 3, 5, 6, 4, 7, 8, 9, 10, 11, 12, 14, 15, 13, 16, 17, 18, 19] <| .run 6 [b2 = b2, b3 = b3, b2 = b2, b3 = b3] ⟨rfl, rfl, rfl, rfl, trivial⟩ <|
 .call (put_spec f n ⟨okn.1, by omega⟩ (by omega) hr) <|
 .call (rput_spec f n ⟨okn.1, by omega⟩ (by omega) hr) <|
 .call (fsame_spec (putF f n) (putF f n) ((put_ok okf okn (by omega) (by omega))) ((put_ok okf okn (by omega) (by omega)))) <|
 .r 2 <| .is 81 (show (dP ((putF f n) = (putF f n))) = true from (dP_true.2 rfl)) <| .run 4 [b2 = b2, b2 = b2] ⟨rfl, rfl, trivial⟩ <|
 .call (out_spec f i (by omega) hr) <|
 .call (rout_spec f i (by omega) hr) <|
 .call (fsame_spec (outF f i) (outF f i) ((out_ok okf hr)) ((out_ok okf hr))) <|
 .r 2 <| .fin (x := aB (dP ((outF f i) = (outF f i)))) (r := aB true) [] trivial (by exact Sub.of_eq (by first | rfl | (exact congrArg aB (dP_true.2 rfl)) | (simp; done)))) Try.func3 rfl (by kernel_rfl) (by kernel_rfl)
theorem treeTurns_spec (x : TtIn) (h : OkTt x) : FSpec Try.prog 3 [.agg (ttA x)] (aB true) := treeTurns_spec0 x.f x.n x.i x.s h.1 h.2.1 h.2.2.2
end Go.Proofs.Ytgcjfhgkkgocpaa

set_option linter.unusedVariables false
set_option linter.unusedSimpArgs false
namespace Copyhold
open Go Go.RowKit Go.ChangeShapes Go.WideShapes Go.ChangeAt Go.Deep
structure Opn {α : Type} (P : Program) (W : World) (t : TypeId) (en : α → List AV) (ok : α → Prop) : Prop where
  run : ∀ (H : Type) (enc : TypeId × Value → H) (fuel : Nat) (cs : List Value) (x : DataW H × List MemPlace),
    DataW.trod enc P W 0 (fun _ => true) true fuel t cs = some x → (∀ p ∈ x.2, p.block < W.heap.size) → (∀ n ∈ DataW.weights P t x.1, n ≤ 140737488351232) →
    ∃ a, CellsR (· < W.heap.size) W (en a) cs ∧ (∀ u ∈ cs, u.oneCell' = true) ∧ ok a
section
variable {P : Program} {W : World} {t : TypeId}
theorem Opn.map {α β : Type} {en : α → List AV} {ok : α → Prop} {en' : β → List AV} {ok' : β → Prop} (h : Opn P W t en ok) (f : α → β) (he : ∀ a, en' (f a) = en a) (ho : ∀ a, ok a → ok' (f a)) : Opn P W t en' ok' := Opn.mk fun H enc fuel cs x h1 h2 h3 => by
  obtain ⟨a, g1, g2, g3⟩ := h.run H enc fuel cs x h1 h2 h3
  exact ⟨f a, by rw [he]; exact g1, g2, ho a g3⟩
theorem cells_one {D : Nat → Prop} {w : World} {a : AV} {v : Value} (h : Ra D w a v) : CellsR D w [a] [v] := ⟨rfl, fun j x u hx hu => by
  match j, hx, hu with
  | 0, hx, hu => simp at hx hu; subst hx hu; exact h
  | j + 1, hx, _ => simp at hx⟩
theorem wf_i64 {z : Int} (w : (Lit.int .i64 z).wf = true) : -9223372036854775808 ≤ z ∧ z ≤ 9223372036854775807 := by
  simpa [Lit.wf, IntKind.min, IntKind.max, IntKind.signed, IntKind.bits] using w
theorem opn_int (hu : P.underlying t = some (.int .i64)) : Opn P W t (fun n : Int => [aI n]) (fun n => -9223372036854775808 ≤ n ∧ n ≤ 9223372036854775807) := Opn.mk fun H enc fuel cs x h1 h2 h3 => by
  obtain ⟨n, rfl, rfl, hw⟩ := DataW.trod_int hu h1
  exact ⟨n, cells_one (.val _), fun u hu => by obtain rfl := List.mem_singleton.1 hu; rfl, wf_i64 hw⟩
theorem opn_string (hu : P.underlying t = some .string) : Opn P W t (fun n : List UInt8 => [aS n]) (fun n => n.length ≤ 140737488351232) := Opn.mk fun H enc fuel cs x h1 h2 h3 => by
  obtain ⟨s, rfl, rfl, _⟩ := DataW.trod_string hu h1
  exact ⟨s.data.toList, cells_one (.val _), fun u hu => by obtain rfl := List.mem_singleton.1 hu; rfl, h3 _ (by simp [DataW.weights])⟩
theorem opn_slice {α : Type} {en : α → List AV} {ok : α → Prop} {e : TypeId} {k : Nat} (h : Opn P W e en ok) (a0 : α) (hu : P.underlying t = some (.slice e)) (hc : P.cellsOf e = k) (hk : 0 < k) (hb : 16 ≤ P.bytesOf e) :
    Opn P W t (fun l : List α => [.sl k false (l.map en)]) (fun l => l.length ≤ 8796093022207 ∧ ∀ a ∈ l, ok a) := Opn.mk fun H enc fuel cs x h1 h2 h3 => by
  obtain ⟨v, rs, rfl, hr, hd⟩ := open_slice_of (k := k) (R := fun a cs => CellsR (· < W.heap.size) W (en a) cs ∧ (∀ u ∈ cs, u.oneCell' = true) ∧ ok a) hu hc hk a0 (fun n cs' y hy hl hcl hww => h.run H enc n cs' y hy hl hww) h1 h2 h3
  have hsz := rows_sized hu hd h3
  have := Nat.le_trans (Nat.mul_le_mul_left rs.length hb) hsz
  have hra : Ra (· < W.heap.size) W (.sl k false (rs.map en)) v := ra_of_slOf hr (· < W.heap.size) (fun _ h => h) (fun a _ cs _ hR => ⟨hR.2.1, hR.1⟩)
  obtain ⟨A, c, rfl⟩ := hr.shape
  refine ⟨rs, cells_one hra, fun u hu => by obtain rfl := List.mem_singleton.1 hu; rfl, by omega, fun a ha => ?_⟩
  obtain ⟨css, g1, g2, g3⟩ := hr
  obtain ⟨i, hi, rfl⟩ := List.mem_iff_getElem.1 ha
  exact (g3 i _ _ (List.getElem?_eq_getElem (by omega)) (List.getElem?_eq_getElem hi)).2.2.2
structure OpnFs {γ : Type} (P : Program) (W : World) (N : Nat) (fs : List Field) (off : Nat) (en : γ → List AV) (ok : γ → Prop) : Prop where
  run : ∀ (H : Type) (enc : TypeId × Value → H) (m : Nat) (cs : List Value) (xs : List (DataW H × List MemPlace)), cs.length = N → xs.length = fs.length →
    (∀ (i : Nat) (f : Field), fs[i]? = some f → DataW.trod enc P W 0 (fun _ => true) true m f.type ((cs.drop f.offset).take (P.cellsOf f.type)) = xs[i]?) →
    (∀ x ∈ xs, ∀ p ∈ x.2, p.block < W.heap.size) → (∀ n ∈ DataW.weightsEach P (fs.map (·.type)) (xs.map (·.1)), n ≤ 140737488351232) →
    ∃ g, CellsR (· < W.heap.size) W (en g) (cs.drop off) ∧ (∀ u ∈ cs.drop off, u.oneCell' = true) ∧ ok g
theorem opnF_nil (N : Nat) : OpnFs P W N [] N (fun _ : Unit => []) (fun _ => True) := OpnFs.mk fun H enc m cs xs h1 h2 h3 h4 h5 => by
  have : cs.drop N = [] := List.drop_eq_nil_of_le (by omega)
  rw [this]
  exact ⟨(), ⟨rfl, fun j a u ha => by simp at ha⟩, fun u hu => by simp at hu, trivial⟩
theorem cells_append {D : Nat → Prop} {w : World} {xs ys : List AV} {cs ds : List Value} (h : CellsR D w xs cs) (k : CellsR D w ys ds) : CellsR D w (xs ++ ys) (cs ++ ds) := by
  refine ⟨by simp [h.1, k.1], fun j a u ha hu => ?_⟩
  by_cases hj : j < xs.length
  · rw [List.getElem?_append_left hj] at ha
    rw [List.getElem?_append_left (by rw [h.1]; exact hj)] at hu
    exact h.2 j a u ha hu
  · rw [List.getElem?_append_right (by omega)] at ha
    rw [List.getElem?_append_right (by rw [h.1]; omega), h.1] at hu
    exact k.2 _ a u ha hu
theorem opnF_cons {α γ : Type} {N off k : Nat} {f : Field} {fs : List Field} {en : α → List AV} {ok : α → Prop} {en2 : γ → List AV} {ok2 : γ → Prop} (h : Opn P W f.type en ok) (ho : f.offset = off) (hk : P.cellsOf f.type = k)
    (hr : OpnFs P W N fs (off + k) en2 ok2) : OpnFs P W N (f :: fs) off (fun g : α × γ => en g.1 ++ en2 g.2) (fun g => ok g.1 ∧ ok2 g.2) := OpnFs.mk fun H enc m cs xs h1 h2 h3 h4 h5 => by
  obtain ⟨x0, xr, rfl⟩ : ∃ a r, xs = a :: r := by
    cases xs with
    | nil => simp at h2
    | cons a r => exact ⟨a, r, rfl⟩
  have g0 := h3 0 f rfl
  rw [ho, hk] at g0
  simp only [List.map_cons, DataW.weightsEach] at h5
  obtain ⟨a, ha, ha2, ha3⟩ := h.run H enc m _ x0 (by simpa using g0) (h4 x0 (by simp)) (fun n hn => h5 n (by simp [hn]))
  obtain ⟨g, hg, hg2, hg3⟩ := hr.run H enc m cs xr h1 (by simpa using h2) (fun i f' hf => by have := h3 (i + 1) f' (by simpa using hf); simpa using this) (fun x hx => h4 x (by simp [hx])) (fun n hn => h5 n (by simp [hn]))
  have e : cs.drop off = (cs.drop off).take k ++ cs.drop (off + k) := by
    rw [← List.drop_drop, List.take_append_drop]
  refine ⟨(a, g), ?_, ?_, ha3, hg3⟩
  · rw [e]; exact cells_append ha hg
  · intro u hu
    rw [e] at hu
    rcases List.mem_append.1 hu with h | h
    · exact ha2 u h
    · exact hg2 u h
theorem opn_struct {γ : Type} {N : Nat} {fs : Array Field} {en : γ → List AV} {ok : γ → Prop} (hu : P.underlying t = some (.struct fs)) (hc : P.cellsOf t = N) (h : OpnFs P W N fs.toList 0 en ok) : Opn P W t en ok := Opn.mk fun H enc fuel cs x h1 h2 h3 => by
  obtain ⟨xs, m, _, rfl, hl, hlen, hfl⟩ := DataW.trod_struct hu h1
  obtain ⟨g, g1, g2, g3⟩ := h.run H enc m cs xs (by rw [hl, hc]) (by simpa using hlen) (fun i f hf => hfl i f (by simpa using hf)) (fun x hx p hp => h2 p (by simp only [List.mem_flatMap]; exact ⟨x, hx, hp⟩))
    (fun n hn => h3 n (by simp only [DataW.weights, hu]; exact hn))
  exact ⟨g, by simpa using g1, by simpa using g2, g3⟩
theorem arg_struct {α : Type} {en : α → List AV} {ok : α → Prop} {fs : Array Field} {H : Type} {enc : TypeId × Value → H} {base : Nat} {v : Value} {d : DataW H} {p : List MemPlace} (h : Opn P W t en ok) (hu : P.underlying t = some (.struct fs)) (hv : Value.okWide P W .any base t v)
    (ht : ∃ fuel, DataW.trod enc P W 0 (fun _ => true) true fuel t v.cells.toList = some (d, p)) (hlt : ∀ x ∈ p, x.block < W.heap.size) (hw : ∀ n ∈ DataW.weights P t d, n ≤ 140737488351232) : ∃ a, Ra (· < W.heap.size) W (.agg (en a)) v ∧ ok a := by
  obtain ⟨cs, rfl, _⟩ := okWide_struct hu hv
  obtain ⟨fuel, ht⟩ := ht
  obtain ⟨a, g1, g2, g3⟩ := h.run H enc fuel _ _ ht hlt hw
  refine ⟨a, .agg _ _ (by have := g1.1; simp [Value.cells] at this; omega) (fun j u hj => g2 u (by have := Array.mem_of_getElem? hj; simpa [Value.cells] using this)) (fun j x u hx hj => g1.2 j x u hx (by simpa [Value.cells] using hj)), g3⟩
def RaL (D : Nat → Prop) (w : World) : List AV → List Value → Prop
  | [], [] => True
  | x :: xs, v :: vs => Ra D w x v ∧ RaL D w xs vs
  | _, _ => False
theorem raAllL {D : Nat → Prop} {w : World} : ∀ (xs : List AV) (vs : List Value), RaL D w xs vs → RaAll D w xs vs.toArray
  | [], [], _ => ⟨rfl, fun j a u ha => by simp at ha⟩
  | x :: xs, v :: vs, h => by
    have ih := raAllL xs vs h.2
    refine ⟨by have := ih.1; simp at this ⊢; exact this, fun j a u ha hu => ?_⟩
    cases j with
    | zero => simp at ha hu; subst ha hu; exact h.1
    | succ j => exact ih.2 j a u (by simpa using ha) (by simpa using hu)
  | [], _ :: _, h => h.elim
  | _ :: _, [], h => h.elim
theorem law_callsV {f : FuncId} {args : List AV} {vs : Array Value} {w : World} (h : FSpec P f args (aB true)) (hv : RaAll (· < w.heap.size) w args vs) :
    Calls P f vs w (fun e w' => e = .returned (.bool true) ∧ Below w.heap.size w w') := by
  refine (h _ w vs (fun _ h => h) hv).mono ?_
  rintro e w' ⟨v, D', rfl, hb, _, _, hr⟩
  cases hr
  exact ⟨rfl, hb⟩
end
end Copyhold

set_option linter.unusedVariables false
set_option linter.unusedSimpArgs false
namespace Go.Proofs.Ytgcjfhgkkgocpaa
open Go Go.RowKit Copyhold
theorem opv_ent (W : World) : Opn Try.prog W 93 entA OkE :=
  (opn_struct (N := 2) Try.underlying93 (by kernel_rfl) (opnF_cons (k := 1) (opn_string Try.underlying9) rfl (by kernel_rfl) (opnF_cons (k := 1) (opn_int Try.underlying3) rfl (by kernel_rfl) (opnF_nil 2)))).map (fun g => ⟨g.1, g.2.1⟩) (fun _ => rfl) (fun a h => ⟨h.1, h.2.1⟩)
theorem opv_ents (W : World) : Opn Try.prog W 25 (fun l : List (Ent) => [.sl 2 false (l.map entA)]) (fun l => l.length ≤ 8796093022207 ∧ ∀ a ∈ l, OkE a) := opn_slice (opv_ent W) (⟨[], 0⟩) Try.underlying25 (by kernel_rfl) (by decide) (Nat.le_of_ble_eq_true (by kernel_rfl))
theorem opv_nod (W : World) : Opn Try.prog W 27 nodA OkN :=
  (opn_struct (N := 5) Try.underlying27 (by kernel_rfl) (opnF_cons (k := 1) (opn_int Try.underlying3) rfl (by kernel_rfl) (opnF_cons (k := 1) (opn_int Try.underlying3) rfl (by kernel_rfl) (opnF_cons (k := 1) (opn_int Try.underlying3) rfl (by kernel_rfl) (opnF_cons (k := 1) (opn_string Try.underlying9) rfl (by kernel_rfl) (opnF_cons (k := 1) (opv_ents W) rfl (by kernel_rfl) (opnF_nil 5))))))).map (fun g => ⟨g.1, g.2.1, g.2.2.1, g.2.2.2.1, g.2.2.2.2.1⟩) (fun _ => rfl) (fun a h => ⟨h.1, h.2.1, h.2.2.1, h.2.2.2.1, h.2.2.2.2.1.1, h.2.2.2.2.1.2⟩)
theorem opv_nods (W : World) : Opn Try.prog W 22 (fun l : List (Nod) => [.sl 5 false (l.map nodA)]) (fun l => l.length ≤ 8796093022207 ∧ ∀ a ∈ l, OkN a) := opn_slice (opv_nod W) (⟨0, 0, 0, [], []⟩) Try.underlying22 (by kernel_rfl) (by decide) (Nat.le_of_ble_eq_true (by kernel_rfl))
theorem opv_fsy (W : World) : Opn Try.prog W 24 fsyA OkF :=
  (opn_struct (N := 2) Try.underlying24 (by kernel_rfl) (opnF_cons (k := 1) (opv_nods W) rfl (by kernel_rfl) (opnF_cons (k := 1) (opn_int Try.underlying3) rfl (by kernel_rfl) (opnF_nil 2)))).map (fun g => ⟨g.1, g.2.1⟩) (fun _ => rfl) (fun a h => ⟨h.2.1, h.1.1, h.1.2⟩)
end Go.Proofs.Ytgcjfhgkkgocpaa
