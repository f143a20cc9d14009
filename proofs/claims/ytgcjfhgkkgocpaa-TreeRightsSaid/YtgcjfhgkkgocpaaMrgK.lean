/- tree.place, at, Find. tree.place, at, Find. tree.Put, Out, Rows; ref08.Put, Out, Rows, Find, Same, Few. ref08.Put, Out. tree.Rows, ref08.Rows, Find, Same, Few. Numbers below a directory, names of a number: the mathematics. A box lent to a callee that may turn it: the callee's contract, and the call. A range over a map without entries, over abstract states: nothing is done. Over any program. -/
import Derived.Test.YtgcjfhgkkgocpaaMrgJ
import Derived.Test.YtgcjfhgkkgocpaaVc
import Derived.Test.YtgcjfhgkkgocpaaMrgI
import Derived.MapKept
set_option linter.unusedVariables false
set_option linter.unusedSimpArgs false
namespace Go.Proofs.Ytgcjfhgkkgocpaa
open Go Go.RowKit Copyhold
set_option maxRecDepth 100000 in
set_option maxHeartbeats 4000000 in
theorem at1_spec (x : Nod) : FSpec Try.prog 55 [.agg [aI x.ino, aI x.kind, aI x.links, aS x.text, .sl 2 false (x.l.map entA)]] (aI x.ino) := by
  exact spec_vc (F := Try.f55) 400 (
 .new fun b1 => .r 1 <| .run 3 [b1 = b1] ⟨rfl, trivial⟩ <|
 .fin (x := aI x.ino) (r := aI x.ino) [] trivial (by exact Sub.refl _)) Try.func55 rfl (by kernel_rfl) (by kernel_rfl)
set_option maxRecDepth 100000 in
set_option maxHeartbeats 4000000 in
theorem cmp_spec (x : Nod) (n : Int) : FSpec Try.prog 66 [.agg [aI x.ino, aI x.kind, aI x.links, aS x.text, .sl 2 false (x.l.map entA)], aI n, .dptr [.val (.func (.func 55) #[] #[])]] (aI (cmpD x.ino n)) := by
  exact spec_vc (F := Try.f66) 400 (
 .new fun b1 => .r 1 <| .run 2 [b1 = b1] ⟨rfl, trivial⟩ <|
 .call (at1_spec x) <|
 .r 1 <| .r 4 <| .br 10 (decide (x.ino < n)) (fun q1 => have p1 := decT q1; .r 1 <| .fin (x := aI (-1)) (r := aI (cmpD x.ino n)) [] trivial (by exact Sub.of_eq (congrArg aI (cmp1 (by omega)).symm)))
 <| fun q1 => have p1 := decF q1; .r 4 <| .br 14 (decide (x.ino > n)) (fun q2 => have p2 := decT q2; .r 1 <| .fin (x := aI 1) (r := aI (cmpD x.ino n)) [] trivial (by exact Sub.of_eq (congrArg aI (cmp2 (by omega) (by omega)).symm)))
 <| fun q2 => have p2 := decF q2; .r 1 <| .fin (x := aI 0) (r := aI (cmpD x.ino n)) [] trivial (by exact Sub.of_eq (congrArg aI (cmp3 (by omega) (by omega)).symm))) Try.func66 rfl (by kernel_rfl) (by kernel_rfl)
def BsH (l : List Nod) (n : Int) (i j : Nat) : Prop := i ≤ j ∧ j ≤ l.length ∧ AllTo (fun _ c => c.ino < n) l i ∧ ∀ k c, j ≤ k → l[k]? = some c → ¬ c.ino < n
theorem bs0 (l : List Nod) (n : Int) : BsH l n 0 l.length := ⟨Nat.zero_le _, Nat.le_refl _, AllTo.zero _ _, fun k c hk hc => by have := lt_of_some hc; omega⟩
theorem bs_up {l : List Nod} {n : Int} {i j h : Nat} {x : Nod} (hr : RiseN l) (H : BsH l n i j) (hx : l[h]? = some x) (q : decide (cmpD x.ino n < 0) = true) (hi : i ≤ h := by omega) (hj : h < j := by omega) : BsH l n (h + 1) j := by
  rw [cmp_lt] at q
  have q := of_decide_eq_true q
  refine ⟨hj, H.2.1, fun k c hk hc => ?_, H.2.2.2⟩
  have := hr.le hc hx (by omega)
  show c.ino < n
  omega
theorem bs_dn {l : List Nod} {n : Int} {i j h : Nat} {x : Nod} (hr : RiseN l) (H : BsH l n i j) (hx : l[h]? = some x) (q : decide (cmpD x.ino n < 0) = false) (hi : i ≤ h := by omega) (hj : h < j := by omega) : BsH l n i h := by
  rw [cmp_lt] at q
  have q := of_decide_eq_false q
  refine ⟨hi, by have := H.2.1; omega, H.2.2.1, fun k c hk hc => ?_⟩
  have := hr.le hx hc hk
  omega
theorem bs_end {l : List Nod} {n : Int} {i j : Nat} (H : BsH l n i j) (hij : ¬ i < j) : plN l n = i :=
  placeF_eq (by have := H.1; have := H.2.1; omega) H.2.2.1 (fun x hx => H.2.2.2 i x (by omega) hx)
end Go.Proofs.Ytgcjfhgkkgocpaa

set_option linter.unusedVariables false
set_option linter.unusedSimpArgs false
namespace Go.Proofs.Ytgcjfhgkkgocpaa
open Go Go.RowKit Copyhold
set_option maxRecDepth 100000 in
set_option maxHeartbeats 4000000 in
theorem bsearch_spec (l : List Nod) (n : Int) (hl : l.length ≤ 100000) (hr : RiseN l) : FSpec Try.prog 65 [.sl 5 false (l.map nodA), aI n, .clo 66 [.dptr [.val (.func (.func 55) #[] #[])]]] (.tup [aI (plN l n : Int), aB (thN l n)]) := by
  exact spec_vc (F := Try.f65) 400 (
 .r 2 <| .r 2 <| .val 13 (show (aI ((l.map nodA).length : Int) : AV) = aI (l.length : Int) from by rw [List.length_map]) <| .r 1 <| .r 3 <| let L1 : Lp (Nat × Nat) := ⟨fun a1 => ⟨[(0, .sl 5 false (l.map nodA)), (1, aI n), (2, .clo 66 [.dptr [.val (.func (.func 55) #[] #[])]]), (8, aI (l.length : Int)), (9, aI (a1.1 : Int)), (10, aI (a1.2 : Int))], []⟩, fun a1 => a1.2 - a1.1, fun a1 => BsH l n a1.1 a1.2⟩
 .loop L1 (0, l.length) (show BsH l n 0 l.length from (bs0 l n)) ⟨[(0, .sl 5 false (l.map nodA)), (1, aI n), (2, .clo 66 [.dptr [.val (.func (.func 55) #[] #[])]]), (8, aI (l.length : Int)), (9, aI 0), (10, aI (l.length : Int))], []⟩ ⟨Sub.refl _, Sub.refl _, Sub.refl _, Sub.refl _, Sub.of_eq (congrArg aI (by first | omega | rfl)), Sub.refl _, trivial⟩ trivial fun a1 ha1 =>
 (fun (i : Nat) (j : Nat) (hH1 : BsH l n i j) => have hb1 := hH1.1; have hb2 := hH1.2.1; .r 3 <| .br 17 (decide ((i : Int) < (j : Int))) (fun q1 => have p1 := decT q1; .run 3 [rng .i64 ((i : Int) + (j : Int))] ⟨rng64 (by omega) (by omega), trivial⟩ <|
 .op (cvR) (3, 103, .int .i64 ((i : Int) + (j : Int)), some 21) (fun (_ : Unit) σ => σ.put (some 21) (.val (.int .u64 ((i : Int) + (j : Int))))) (rule_cv (conv_int (by kernel_rfl) (by kernel_rfl) (rngu (by omega) (by omega)))) fun _ =>
 .binV .shr 103 (shrN (yk := .u64) (a := ((i : Int) + (j : Int))) (b := 1) (by omega)) <|
 .val 22 (show (.val (.int .u64 (((i : Int) + (j : Int)) / 2 ^ 1)) : AV) = .val (.int .u64 (((i + j) / 2 : Nat) : Int)) from (congrArg (fun z => AV.val (.int .u64 z)) (by rw [show (i : Int) + (j : Int) = ((i + j : Nat) : Int) from by omega]; exact fdiv2 _))) <| .op (cvR) (103, 3, .int .u64 (((i + j) / 2 : Nat) : Int), some 23) (fun (_ : Unit) σ => σ.put (some 23) (.val (.int .i64 (((i + j) / 2 : Nat) : Int)))) (rule_cv (conv_int (by kernel_rfl) (by kernel_rfl) (rng64 (by omega) (by omega)))) fun _ =>
 .r 1 <| .r 3 <| .idxM l nodA ((i + j) / 2) (m := (((i + j) / 2 : Nat) : Int)) rfl (by have := hH1.1; have := hH1.2.1; omega) fun x1 hx1 =>
 .r 2 <| .call (cmp_spec x1 n) <|
 .r 1 <| .br 31 (decide ((cmpD x1.ino n) < 0)) (fun q2 => have p2 := decT q2; .run 3 [rng .i64 ((((i + j) / 2 : Nat) : Int) + 1)] ⟨rng64 (by omega) (by omega), trivial⟩ <|
 .back L1 (i, j) (((i + j) / 2 + 1), j) (show BsH l n ((i + j) / 2 + 1) j from (bs_up hr hH1 hx1 q2)) (show j - ((i + j) / 2 + 1) < j - i from (by omega)) ⟨[(0, .sl 5 false (l.map nodA)), (1, aI n), (2, .clo 66 [.dptr [.val (.func (.func 55) #[] #[])]]), (8, aI (l.length : Int)), (9, aI ((((i + j) / 2 : Nat) : Int) + 1)), (10, aI (j : Int))], []⟩ ⟨Sub.refl _, Sub.refl _, Sub.refl _, Sub.refl _, Sub.of_eq (congrArg aI (by omega)), Sub.refl _, trivial⟩ trivial)
 <| fun q2 => have p2 := decF q2; .r 2 <| .back L1 (i, j) (i, ((i + j) / 2)) (show BsH l n i ((i + j) / 2) from (bs_dn hr hH1 hx1 q2)) (show ((i + j) / 2) - i < j - i from (by omega)) ⟨[(0, .sl 5 false (l.map nodA)), (1, aI n), (2, .clo 66 [.dptr [.val (.func (.func 55) #[] #[])]]), (8, aI (l.length : Int)), (9, aI (i : Int)), (10, aI (((i + j) / 2 : Nat) : Int))], []⟩ ⟨Sub.refl _, Sub.refl _, Sub.refl _, Sub.refl _, Sub.refl _, Sub.of_eq (congrArg aI (by first | omega | rfl)), trivial⟩ trivial)
 <| fun q1 => have p1 := decF q1; .r 5 <| .br 39 (decide ((i : Int) < (l.length : Int))) (fun q3 => have p3 := decT q3; .r 3 <| .idxM l nodA i (m := (i : Int)) rfl (by omega) fun x2 hx2 =>
 .r 2 <| .call (cmp_spec x2 n) <|
 .r 4 <| .fin (x := .tup [aI (i : Int), aB ((cmpD x2.ino n) == 0)]) (r := .tup [aI (plN l n : Int), aB (thN l n)]) [] trivial (by
    have e := bs_end hH1 (by omega)
    rw [show thN l n = (cmpD x2.ino n == 0) from (thereF_at e hx2).trans cmp_eq.symm, show plN l n = i from e]
    exact Sub.refl _))
 <| fun q3 => have p3 := decF q3; .r 11 <| .fin (x := .tup [aI (i : Int), aB false]) (r := .tup [aI (plN l n : Int), aB (thN l n)]) [] trivial (by
    have e := bs_end hH1 (by omega)
    have e2 : plN l n = l.length := (by have := hH1.1; have := hH1.2.1; omega)
    rw [show thN l n = false from thereF_end e2, show plN l n = i from e]
    exact Sub.refl _)) a1.1 a1.2 ha1) Try.func65 rfl (by kernel_rfl) (by kernel_rfl)
set_option maxRecDepth 100000 in
set_option maxHeartbeats 4000000 in
theorem place_spec (l : List Nod) (n : Int) (hl : l.length ≤ 100000) (hr : RiseN l) : FSpec Try.prog 54 [.sl 5 false (l.map nodA), .val (.func (.func 55) #[] #[]), aI n] (.tup [aI (plN l n : Int), aB (thN l n)]) := by
  exact spec_vc (F := Try.f54) 400 (
 .new fun b1 => .r 2 <| .frz 4 [0, 2, 4, 6, 7] [] [b1 = b1] ⟨rfl, trivial⟩ <|
 .r 3 <| .call (bsearch_spec l n hl hr) <|
 .r 4 <| .fin (x := .tup [aI (plN l n : Int), aB (thN l n)]) (r := .tup [aI (plN l n : Int), aB (thN l n)]) [] trivial (by exact Sub.refl _)) Try.func54 rfl (by kernel_rfl) (by kernel_rfl)
set_option maxRecDepth 100000 in
set_option maxHeartbeats 4000000 in
theorem at_spec (f : Fsy) (n : Int) (hl : f.l.length ≤ 100000) (hr : RiseN f.l) : FSpec Try.prog 35 [.agg [.sl 5 false (f.l.map nodA), aI f.next], aI n] (.tup [aI (plN f.l n : Int), aB (thN f.l n)]) := by
  exact spec_vc (F := Try.f35) 400 (
 .new fun b1 => .r 2 <| .run 3 [b1 = b1] ⟨rfl, trivial⟩ <|
 .call (place_spec f.l n hl hr) <|
 .r 4 <| .fin (x := .tup [aI (plN f.l n : Int), aB (thN f.l n)]) (r := .tup [aI (plN f.l n : Int), aB (thN f.l n)]) [] trivial (by exact Sub.refl _)) Try.func35 rfl (by kernel_rfl) (by kernel_rfl)
set_option maxRecDepth 100000 in
set_option maxHeartbeats 4000000 in
theorem tfind_spec (f : Fsy) (n : Int) (hl : f.l.length ≤ 100000) (hr : RiseN f.l) : FSpec Try.prog 20 [.agg [.sl 5 false (f.l.map nodA), aI f.next], aI n] (.tup [.agg (nodA (findN f n)), aB (findB f n)]) := by
  exact spec_vc (F := Try.f20) 400 (
 .new fun b1 => .new fun b2 => .r 1 <| .run 2 [b1 = b1] ⟨rfl, trivial⟩ <|
 .call (at_spec f n hl hr) <|
 .r 5 <| .r 2 <| .br 15 (!(thN f.l n)) (fun q1 => have q1 := notT q1; have p1 := booF q1; .run 3 [b2 = b2] ⟨rfl, trivial⟩ <|
 .fin (x := .tup [.agg [aI 0, aI 0, aI 0, aS ([]), aN], aB false]) (r := .tup [.agg (nodA (findN f n)), aB (findB f n)]) [b2 = b2] ⟨rfl, trivial⟩ (by
    obtain ⟨e1, e2⟩ := find_away hr q1
    rw [show findN f n = nod0 from by unfold findN; rw [e2]; rfl, show findB f n = false from e1]
    exact Sub.tups ⟨Sub.aggs ⟨Sub.refl _, Sub.refl _, Sub.refl _, Sub.refl _, Sub.nil _ _, trivial⟩, Sub.refl _, trivial⟩))
 <| fun q1 => have q1 := notF q1; have p1 := booT q1; .run 3 [b1 = b1] ⟨rfl, trivial⟩ <|
 .idxM f.l nodA (plN f.l n) (m := (plN f.l n : Int)) rfl (by obtain ⟨c, hc, _⟩ := thereF_some q1; exact lt_of_some hc) fun x1 hx1 =>
 .run 3 [b2 = b2] ⟨rfl, trivial⟩ <|
 .fin (x := .tup [.agg [aI x1.ino, aI x1.kind, aI x1.links, aS x1.text, .sl 2 false (x1.l.map entA)], aB true]) (r := .tup [.agg (nodA (findN f n)), aB (findB f n)]) [b2 = b2] ⟨rfl, trivial⟩ (by
    obtain ⟨e1, e2⟩ := find_there hr q1 hx1
    rw [show findN f n = x1 from by unfold findN; rw [e2]; rfl, show findB f n = true from e1]
    exact Sub.refl _)) Try.func20 rfl (by kernel_rfl) (by kernel_rfl)
end Go.Proofs.Ytgcjfhgkkgocpaa

set_option linter.unusedVariables false
set_option linter.unusedSimpArgs false
namespace Go.Proofs.Ytgcjfhgkkgocpaa
open Go Go.RowKit Copyhold
end Go.Proofs.Ytgcjfhgkkgocpaa

set_option linter.unusedVariables false
set_option linter.unusedSimpArgs false
namespace Go.Proofs.Ytgcjfhgkkgocpaa
open Go Go.RowKit Copyhold
end Go.Proofs.Ytgcjfhgkkgocpaa

set_option linter.unusedVariables false
set_option linter.unusedSimpArgs false
namespace Go.Proofs.Ytgcjfhgkkgocpaa
open Go Go.RowKit Copyhold
set_option maxRecDepth 100000 in
set_option maxHeartbeats 4000000 in
theorem rows_spec (f : Fsy) (okf : OkF f) : FSpec Try.prog 30 [.agg [.sl 5 false (f.l.map nodA), aI f.next]] (aB (dP (rowsP f))) := by
  have hfl := okf.2.1
  exact spec_vc (F := Try.f30) 400 (
 .new fun b1 => .r 1 <| .run 3 [b1 = b1] ⟨rfl, trivial⟩ <|
 .val 7 (show (aI ((f.l.map nodA).length : Int) : AV) = aI (f.l.length : Int) from by rw [List.length_map]) <| .r 2 <| .br 9 (decide ((f.l.length : Int) > 256)) (fun q1 => have p1 := decT q1; .r 4 <| .r 1 <| .fin (x := aB false) (r := aB (dP (rowsP f))) [] trivial (by
    refine sF (fun h => ?_)
    obtain ⟨g1, g2, g3⟩ := h
    omega))
 <| fun q1 => have p1 := decF q1; .run 4 [b1 = b1] ⟨rfl, trivial⟩ <|
 .br 13 (decide (f.next < 1)) (fun q2 => have p2 := decT q2; .r 1 <| .fin (x := aB false) (r := aB (dP (rowsP f))) [] trivial (by
    refine sF (fun h => ?_)
    obtain ⟨g1, g2, g3⟩ := h
    omega))
 <| fun q2 => have p2 := decF q2; .run 3 [b1 = b1] ⟨rfl, trivial⟩ <|
 .val 16 (show (aI ((f.l.map nodA).length : Int) : AV) = aI (f.l.length : Int) from by rw [List.length_map]) <| .r 1 <| let L1 : Lp (Nat) := ⟨fun a1 => ⟨[(1, .ptr 1 b1 0), (15, .sl 5 false (f.l.map nodA)), (16, aI (f.l.length : Int)), (17, aI (a1 : Int))], [(1, .box b1 24 [.sl 5 false (f.l.map nodA), aI f.next])]⟩, fun a1 => f.l.length - a1, fun a1 => a1 ≤ f.l.length ∧ AllTo (rowAt f) f.l a1⟩
 .loop L1 0 (show 0 ≤ f.l.length ∧ AllTo (rowAt f) f.l 0 from ⟨Nat.zero_le _, AllTo.zero _ _⟩) ⟨[(1, .ptr 1 b1 0), (15, .sl 5 false (f.l.map nodA)), (16, aI (f.l.length : Int)), (17, aI 0)], [(1, .box b1 24 [.sl 5 false (f.l.map nodA), aI f.next])]⟩ ⟨Sub.refl _, Sub.refl _, Sub.refl _, Sub.of_eq (congrArg aI (by first | omega | rfl)), trivial⟩ ⟨⟨_, rfl, SubB.refl _⟩, trivial⟩ fun a1 ha1 =>
 (fun (k : Nat) (hH1 : k ≤ f.l.length ∧ AllTo (rowAt f) f.l k) => .r 1 <| .br 18 (decide ((k : Int) < (f.l.length : Int))) (fun q3 => have p3 := decT q3; .r 1 <| .idxM f.l nodA k (m := (k : Int)) rfl (by omega) fun x1 hx1 =>
 have okx1 := okf.2.2 x1 (List.mem_of_getElem? hx1); .r 1 <| .new fun b2 => .run 2 [b2 = b2] ⟨rfl, trivial⟩ <|
 .run 1 [b2 = b2] ⟨rfl, trivial⟩ <|
 .call (nright_spec x1 okx1) <|
 .r 2 <| .br 25 (!(dP (nodP x1))) (fun q4 => have q4 := notT q4; have p4 := booF q4; .r 6 <| .r 1 <| .fin (x := aB false) (r := aB (dP (rowsP f))) [] trivial (by
    refine sF (fun h => ?_)
    obtain ⟨g1, g2, g3⟩ := h.2.2.at hx1
    first | omega | exact dP_false.1 (by assumption) g1 ))
 <| fun q4 => have q4 := notF q4; have p4 := booT q4; .run 6 [b2 = b2, b1 = b1] ⟨rfl, rfl, trivial⟩ <|
 .br 31 (decide (x1.ino ≥ f.next)) (fun q5 => have p5 := decT q5; .r 1 <| .fin (x := aB false) (r := aB (dP (rowsP f))) [] trivial (by
    refine sF (fun h => ?_)
    obtain ⟨g1, g2, g3⟩ := h.2.2.at hx1
    first | omega | exact dP_false.1 (by assumption) g1 ))
 <| fun q5 => have p5 := decF q5; .ord [0, 1, 2, 3, 4, 5, 6, 7, 8, 9, 10, 11, 12, 13] <| .r 3 <| .br 34 (decide ((k : Int) > 0)) (fun q6 => have p6 := decT q6; .run 4 [b1 = b1, rng .i64 ((k : Int) - 1)] ⟨rfl, rng64 (by omega) (by omega), trivial⟩ <|
 .idxM f.l nodA (k - 1) (m := (k : Int) - 1) (by omega) (by omega) fun x2 hx2 =>
 have okx2 := okf.2.2 x2 (List.mem_of_getElem? hx2); .run 6 [b2 = b2] ⟨rfl, trivial⟩ <|
 .br 45 (decide (x2.ino ≥ x1.ino)) (fun q7 => have p7 := decT q7; .r 1 <| .fin (x := aB false) (r := aB (dP (rowsP f))) [] trivial (by
    refine sF (fun h => ?_)
    obtain ⟨g1, g2, g3⟩ := h.2.2.at hx1
    first | omega | exact dP_false.1 (by assumption) g1 | (have := g3 _ (by omega) hx2; omega)))
 <| fun q7 => have p7 := decF q7; .run 2 [rng .i64 ((k : Int) + 1)] ⟨rng64 (by omega) (by omega), trivial⟩ <|
 .back L1 k (k + 1) (show (k + 1) ≤ f.l.length ∧ AllTo (rowAt f) f.l (k + 1) from ⟨by omega, hH1.2.step hx1 ⟨dP_true.1 (by assumption), by omega, by intro d h0 hd; first | omega | (rw [hd] at hx2; obtain rfl := Option.some.inj hx2; omega)⟩⟩) (show f.l.length - (k + 1) < f.l.length - k from (by omega)) ⟨[(1, .ptr 1 b1 0), (15, .sl 5 false (f.l.map nodA)), (16, aI (f.l.length : Int)), (17, aI ((k : Int) + 1))], [(1, .box b1 24 [.sl 5 false (f.l.map nodA), aI f.next])]⟩ ⟨Sub.refl _, Sub.refl _, Sub.refl _, Sub.of_eq (congrArg aI (by first | omega | rfl)), trivial⟩ ⟨⟨_, rfl, SubB.refl _⟩, trivial⟩)
 <| fun q6 => have p6 := decF q6; .r 11 <| .run 2 [rng .i64 ((k : Int) + 1)] ⟨rng64 (by omega) (by omega), trivial⟩ <|
 .back L1 k (k + 1) (show (k + 1) ≤ f.l.length ∧ AllTo (rowAt f) f.l (k + 1) from ⟨by omega, hH1.2.step hx1 ⟨dP_true.1 (by assumption), by omega, by intro d h0 hd; omega⟩⟩) (show f.l.length - (k + 1) < f.l.length - k from (by omega)) ⟨[(1, .ptr 1 b1 0), (15, .sl 5 false (f.l.map nodA)), (16, aI (f.l.length : Int)), (17, aI ((k : Int) + 1))], [(1, .box b1 24 [.sl 5 false (f.l.map nodA), aI f.next])]⟩ ⟨Sub.refl _, Sub.refl _, Sub.refl _, Sub.of_eq (congrArg aI (by first | omega | rfl)), trivial⟩ ⟨⟨_, rfl, SubB.refl _⟩, trivial⟩)
 <| fun q3 => have p3 := decF q3; .r 1 <| .fin (x := aB true) (r := aB (dP (rowsP f))) [] trivial (by exact sT ⟨by omega, by omega, hH1.2.full (by omega)⟩)) a1 ha1) Try.func30 rfl (by kernel_rfl) (by kernel_rfl)
set_option maxRecDepth 100000 in
set_option maxHeartbeats 4000000 in
theorem rrows_spec (f : Fsy) (okf : OkF f) : FSpec Try.prog 14 [.agg [.sl 5 false (f.l.map nodA), aI f.next]] (aB (dP (rowsP f))) := by
  have hfl := okf.2.1
  exact spec_vc (F := Try.f14) 400 (
 .new fun b1 => .r 1 <| .run 3 [b1 = b1] ⟨rfl, trivial⟩ <|
 .val 7 (show (aI ((f.l.map nodA).length : Int) : AV) = aI (f.l.length : Int) from by rw [List.length_map]) <| .r 2 <| .br 9 (decide ((f.l.length : Int) > 256)) (fun q1 => have p1 := decT q1; .r 4 <| .r 1 <| .fin (x := aB false) (r := aB (dP (rowsP f))) [] trivial (by
    refine sF (fun h => ?_)
    obtain ⟨g1, g2, g3⟩ := h
    omega))
 <| fun q1 => have p1 := decF q1; .run 4 [b1 = b1] ⟨rfl, trivial⟩ <|
 .br 13 (decide (f.next < 1)) (fun q2 => have p2 := decT q2; .r 1 <| .fin (x := aB false) (r := aB (dP (rowsP f))) [] trivial (by
    refine sF (fun h => ?_)
    obtain ⟨g1, g2, g3⟩ := h
    omega))
 <| fun q2 => have p2 := decF q2; .r 1 <| let L1 : Lp (Nat) := ⟨fun a1 => ⟨[(1, .ptr 1 b1 0), (3, aI (a1 : Int))], [(1, .box b1 24 [.sl 5 false (f.l.map nodA), aI f.next])]⟩, fun a1 => f.l.length - a1, fun a1 => a1 ≤ f.l.length ∧ AllTo (rowAt f) f.l a1⟩
 .loop L1 0 (show 0 ≤ f.l.length ∧ AllTo (rowAt f) f.l 0 from ⟨Nat.zero_le _, AllTo.zero _ _⟩) ⟨[(1, .ptr 1 b1 0), (3, aI 0)], [(1, .box b1 24 [.sl 5 false (f.l.map nodA), aI f.next])]⟩ ⟨Sub.refl _, Sub.of_eq (congrArg aI (by first | omega | rfl)), trivial⟩ ⟨⟨_, rfl, SubB.refl _⟩, trivial⟩ fun a1 ha1 =>
 (fun (k : Nat) (hH1 : k ≤ f.l.length ∧ AllTo (rowAt f) f.l k) => .run 4 [b1 = b1] ⟨rfl, trivial⟩ <|
 .val 17 (show (aI ((f.l.map nodA).length : Int) : AV) = aI (f.l.length : Int) from by rw [List.length_map]) <| .r 1 <| .br 18 (decide ((k : Int) < (f.l.length : Int))) (fun q3 => have p3 := decT q3; .run 3 [b1 = b1] ⟨rfl, trivial⟩ <|
 .idxM f.l nodA k (m := (k : Int)) rfl (by omega) fun x1 hx1 =>
 have okx1 := okf.2.2 x1 (List.mem_of_getElem? hx1); .r 1 <| .call (rnright_spec x1 okx1) <|
 .r 1 <| .ord [0, 1, 2, 3, 4, 5, 6, 7, 8, 9, 10, 11, 12, 13, 14, 15, 16, 17, 18, 19, 20, 21, 22, 23, 24, 25, 26, 27, 28, 29, 30, 31, 32] <| .r 3 <| .br 29 (!(dP (nodP x1))) (fun q4 => have q4 := notT q4; have p4 := booF q4; .r 30 <| .r 1 <| .fin (x := aB false) (r := aB (dP (rowsP f))) [] trivial (by
    refine sF (fun h => ?_)
    obtain ⟨g1, g2, g3⟩ := h.2.2.at hx1
    first | omega | exact dP_false.1 (by assumption) g1 ))
 <| fun q4 => have q4 := notF q4; have p4 := booT q4; .run 3 [b1 = b1] ⟨rfl, trivial⟩ <|
 .idx k (m := (k : Int)) (xs := f.l.map nodA) (e := nodA x1) rfl (map_some hx1) <|
 .run 7 [b1 = b1] ⟨rfl, trivial⟩ <|
 .br 40 (decide (x1.ino ≥ f.next)) (fun q5 => have p5 := decT q5; .r 19 <| .r 1 <| .fin (x := aB false) (r := aB (dP (rowsP f))) [] trivial (by
    refine sF (fun h => ?_)
    obtain ⟨g1, g2, g3⟩ := h.2.2.at hx1
    first | omega | exact dP_false.1 (by assumption) g1 ))
 <| fun q5 => have p5 := decF q5; .r 3 <| .br 43 (decide ((k : Int) > 0)) (fun q6 => have p6 := decT q6; .run 4 [b1 = b1, rng .i64 ((k : Int) - 1)] ⟨rfl, rng64 (by omega) (by omega), trivial⟩ <|
 .idxM f.l nodA (k - 1) (m := (k : Int) - 1) (by omega) (by omega) fun x2 hx2 =>
 have okx2 := okf.2.2 x2 (List.mem_of_getElem? hx2); .run 5 [b1 = b1] ⟨rfl, trivial⟩ <|
 .idx k (m := (k : Int)) (xs := f.l.map nodA) (e := nodA x1) rfl (map_some hx1) <|
 .r 5 <| .br 59 (decide (x2.ino ≥ x1.ino)) (fun q7 => have p7 := decT q7; .r 1 <| .fin (x := aB false) (r := aB (dP (rowsP f))) [] trivial (by
    refine sF (fun h => ?_)
    obtain ⟨g1, g2, g3⟩ := h.2.2.at hx1
    first | omega | exact dP_false.1 (by assumption) g1 | (have := g3 _ (by omega) hx2; omega)))
 <| fun q7 => have p7 := decF q7; .run 3 [rng .i64 ((k : Int) + 1)] ⟨rng64 (by omega) (by omega), trivial⟩ <|
 .back L1 k (k + 1) (show (k + 1) ≤ f.l.length ∧ AllTo (rowAt f) f.l (k + 1) from ⟨by omega, hH1.2.step hx1 ⟨dP_true.1 (by assumption), by omega, by intro d h0 hd; first | omega | (rw [hd] at hx2; obtain rfl := Option.some.inj hx2; omega)⟩⟩) (show f.l.length - (k + 1) < f.l.length - k from (by omega)) ⟨[(1, .ptr 1 b1 0), (3, aI ((k : Int) + 1))], [(1, .box b1 24 [.sl 5 false (f.l.map nodA), aI f.next])]⟩ ⟨Sub.refl _, Sub.of_eq (congrArg aI (by first | omega | rfl)), trivial⟩ ⟨⟨_, rfl, SubB.refl _⟩, trivial⟩)
 <| fun q6 => have p6 := decF q6; .r 16 <| .run 3 [rng .i64 ((k : Int) + 1)] ⟨rng64 (by omega) (by omega), trivial⟩ <|
 .back L1 k (k + 1) (show (k + 1) ≤ f.l.length ∧ AllTo (rowAt f) f.l (k + 1) from ⟨by omega, hH1.2.step hx1 ⟨dP_true.1 (by assumption), by omega, by intro d h0 hd; omega⟩⟩) (show f.l.length - (k + 1) < f.l.length - k from (by omega)) ⟨[(1, .ptr 1 b1 0), (3, aI ((k : Int) + 1))], [(1, .box b1 24 [.sl 5 false (f.l.map nodA), aI f.next])]⟩ ⟨Sub.refl _, Sub.of_eq (congrArg aI (by first | omega | rfl)), trivial⟩ ⟨⟨_, rfl, SubB.refl _⟩, trivial⟩)
 <| fun q3 => have p3 := decF q3; .r 1 <| .fin (x := aB true) (r := aB (dP (rowsP f))) [] trivial (by exact sT ⟨by omega, by omega, hH1.2.full (by omega)⟩)) a1 ha1) Try.func14 rfl (by kernel_rfl) (by kernel_rfl)
def wN (n : Nod) : Nat := n.l.length
def fewF (f : Fsy) : Prop := f.l.length + (f.l.map wN).sum ≤ 200 ∧ ∀ n ∈ f.l, n.text.length ≤ 5000
def FewK (f : Fsy) (k n : Nat) : Prop := k ≤ f.l.length ∧ n = f.l.length + ((f.l.take k).map wN).sum ∧ (∀ m ∈ f.l.take k, m.text.length ≤ 5000) ∧ n ≤ 100000000000000
theorem few0 {f : Fsy} (h : f.l.length ≤ 8796093022207) : FewK f 0 f.l.length := ⟨Nat.zero_le _, by simp, fun m h => by simp at h, by omega⟩
theorem few_step {f : Fsy} {k n : Nat} {x : Nod} (h : FewK f k n) (hx : f.l[k]? = some x) (hn : n ≤ 200) (ht : x.text.length ≤ 5000) (hb : x.l.length ≤ 8796093022207) : FewK f (k + 1) (n + x.l.length) := by
  obtain ⟨h1, h2, h3, _⟩ := h
  refine ⟨lt_of_some hx, by rw [sum_take wN hx, h2]; simp only [wN]; omega, fun m hm => ?_, by omega⟩
  rcases mem_take_add hx hm with h | rfl
  · exact h3 m h
  · exact ht
theorem few_end {f : Fsy} {k n : Nat} (h : FewK f k n) (h3 : ¬ (k : Int) < f.l.length ∨ ¬ (n : Int) ≤ 200) : decide ((n : Int) ≤ 200) = true ↔ fewF f := by
  obtain ⟨hk, h1, h2, _⟩ := h
  rw [decide_eq_true_iff]
  refine ⟨fun hn => ?_, fun hf => ?_⟩
  · have hk' : f.l.length ≤ k := by omega
    rw [take_all hk'] at h1 h2
    exact ⟨by omega, h2⟩
  · have := hf.1
    have := sum_take_le wN f.l k
    omega
set_option maxRecDepth 100000 in
set_option maxHeartbeats 4000000 in
theorem few_spec (f : Fsy) (okf : OkF f) : FSpec Try.prog 13 [.agg [.sl 5 false (f.l.map nodA), aI f.next]] (aB (dP (fewF f))) := by
  have hfl := okf.2.1
  exact spec_vc (F := Try.f13) 400 (
 .new fun b1 => .r 1 <| .run 3 [b1 = b1] ⟨rfl, trivial⟩ <|
 .val 7 (show (aI ((f.l.map nodA).length : Int) : AV) = aI (f.l.length : Int) from by rw [List.length_map]) <| .r 1 <| .r 1 <| let L1 : Lp (Nat × Nat) := ⟨fun a1 => ⟨[(1, .ptr 1 b1 0), (4, aI (a1.1 : Int)), (3, aI (a1.2 : Int))], [(1, .box b1 24 [.sl 5 false (f.l.map nodA), aI f.next])]⟩, fun a1 => f.l.length - a1.1, fun a1 => FewK f a1.1 a1.2⟩
 .loop L1 (0, f.l.length) (show FewK f 0 f.l.length from (few0 hfl)) ⟨[(1, .ptr 1 b1 0), (4, aI 0), (3, aI (f.l.length : Int))], [(1, .box b1 24 [.sl 5 false (f.l.map nodA), aI f.next])]⟩ ⟨Sub.refl _, Sub.of_eq (congrArg aI (by first | omega | rfl)), Sub.refl _, trivial⟩ ⟨⟨_, rfl, SubB.refl _⟩, trivial⟩ fun a1 ha1 =>
 (fun (k : Nat) (n : Nat) (hH1 : FewK f k n) => have hk1 := hH1.1; have hk2 := hH1.2.2.2; .run 4 [b1 = b1] ⟨rfl, trivial⟩ <|
 .val 11 (show (aI ((f.l.map nodA).length : Int) : AV) = aI (f.l.length : Int) from by rw [List.length_map]) <| .r 2 <| .br 13 (decide ((k : Int) < (f.l.length : Int))) (fun q1 => have p1 := decT q1; .r 3 <| .br 16 (decide ((n : Int) ≤ 200)) (fun q2 => have p2 := decT q2; .run 4 [b1 = b1] ⟨rfl, trivial⟩ <|
 .idxM f.l nodA k (m := (k : Int)) rfl (by omega) fun x1 hx1 =>
 have okx1 := okf.2.2 x1 (List.mem_of_getElem? hx1); have blx1 := okx1.2.2.2.2.1; .r 3 <| .val 26 (show (aI ((x1.l.map entA).length : Int) : AV) = aI (x1.l.length : Int) from by rw [List.length_map]) <| .run 2 [rng .i64 ((n : Int) + (x1.l.length : Int))] ⟨rng64 (by omega) (by omega), trivial⟩ <|
 .run 3 [b1 = b1] ⟨rfl, trivial⟩ <|
 .idx k (m := (k : Int)) (xs := f.l.map nodA) (e := nodA x1) rfl (map_some hx1) <|
 .r 4 <| .br 35 (decide (((x1.text).length : Int) > 5000)) (fun q3 => have p3 := decT q3; .r 1 <| .fin (x := aB false) (r := aB (dP (fewF f))) [] trivial (by exact sF (fun h => by have := h.2 _ (List.mem_of_getElem? hx1); omega)))
 <| fun q3 => have p3 := decF q3; .run 3 [rng .i64 ((k : Int) + 1)] ⟨rng64 (by omega) (by omega), trivial⟩ <|
 .back L1 (k, n) ((k + 1), (n + x1.l.length)) (show FewK f (k + 1) (n + x1.l.length) from (few_step hH1 hx1 (by omega) (by omega) (by omega))) (show f.l.length - (k + 1) < f.l.length - k from (by omega)) ⟨[(1, .ptr 1 b1 0), (4, aI ((k : Int) + 1)), (3, aI ((n : Int) + (x1.l.length : Int)))], [(1, .box b1 24 [.sl 5 false (f.l.map nodA), aI f.next])]⟩ ⟨Sub.refl _, Sub.of_eq (congrArg aI (by first | omega | rfl)), Sub.of_eq (congrArg aI (by first | omega | rfl)), trivial⟩ ⟨⟨_, rfl, SubB.refl _⟩, trivial⟩)
 <| fun q2 => have p2 := decF q2; .r 3 <| .fin (x := aB (decide ((n : Int) ≤ 200))) (r := aB (dP (fewF f))) [] trivial (by exact sE (few_end hH1 (by omega))))
 <| fun q1 => have p1 := decF q1; .r 3 <| .r 3 <| .fin (x := aB (decide ((n : Int) ≤ 200))) (r := aB (dP (fewF f))) [] trivial (by exact sE (few_end hH1 (by omega)))) a1.1 a1.2 ha1) Try.func13 rfl (by kernel_rfl) (by kernel_rfl)
end Go.Proofs.Ytgcjfhgkkgocpaa

set_option linter.unusedVariables false
set_option linter.unusedSimpArgs false
namespace Go.Proofs.Ytgcjfhgkkgocpaa
open Go Go.RowKit Copyhold
def hasB (U : List Int) (i : Int) : Bool := U.any fun z => z == i
theorem hasB_mem {U : List Int} {i : Int} : hasB U i = true ↔ i ∈ U := by
  unfold hasB
  rw [List.any_eq_true]
  exact ⟨fun ⟨x, hx, he⟩ => by rw [beq_iff_eq] at he; exact he ▸ hx, fun h => ⟨i, h, by simp⟩⟩
def addE (U : List Int) (l : List Ent) : List Int := l.foldl (fun U e => if hasB U e.ino then U else U ++ [e.ino]) U
theorem addE_len (l : List Ent) : ∀ U : List Int, U.length ≤ (addE U l).length := by
  induction l with
  | nil => exact fun U => Nat.le_refl _
  | cons e r ih =>
    intro U
    show _ ≤ (addE (if hasB U e.ino then U else U ++ [e.ino]) r).length
    refine Nat.le_trans ?_ (ih _)
    split
    · exact Nat.le_refl _
    · simp
def inosF (f : Fsy) : List Int := f.l.flatMap fun n => n.l.map Ent.ino
theorem inos_len (f : Fsy) : (inosF f).length = (f.l.map wN).sum := by
  unfold inosF
  rw [List.length_flatMap]
  congr 1
  refine List.map_congr_left fun n _ => ?_
  rw [List.length_map]; rfl
theorem nodup_le : ∀ {U A : List Int}, U.Nodup → (∀ z ∈ U, z ∈ A) → U.length ≤ A.length
  | [], A, _, _ => Nat.zero_le _
  | x :: r, A, hn, hs => by
    obtain ⟨h1, h2⟩ := List.nodup_cons.1 hn
    have hx : x ∈ A := hs x (by simp)
    have := nodup_le (U := r) (A := A.erase x) h2 fun z hz => (List.mem_erase_of_ne (a := z) (b := x) (fun e => h1 (by rw [← e]; exact hz))).2 (hs z (by simp [hz]))
    rw [List.length_erase_of_mem hx] at this
    have := List.length_pos_of_mem hx
    simp only [List.length_cons]
    omega
def Dst (f : Fsy) (U : List Int) : Prop := U.Nodup ∧ ∀ z ∈ U, z ∈ inosF f
theorem Dst.le {f : Fsy} {U : List Int} (h : Dst f U) (hf : fewF f) : U.length ≤ 200 := by
  have := nodup_le h.1 h.2
  rw [inos_len] at this
  have := hf.1
  omega
theorem Dst.nil (f : Fsy) : Dst f [] := ⟨List.nodup_nil, fun z h => by cases h⟩
theorem addE_dst {f : Fsy} : ∀ {l : List Ent} {U : List Int}, Dst f U → (∀ e ∈ l, e.ino ∈ inosF f) → Dst f (addE U l)
  | [], U, h, _ => h
  | e :: r, U, h, hl => by
    show Dst f (addE (if hasB U e.ino then U else U ++ [e.ino]) r)
    refine addE_dst ?_ fun e' he => hl e' (by simp [he])
    cases hq : hasB U e.ino with
    | true => exact h
    | false =>
      have hne : e.ino ∉ U := fun hm => by rw [hasB_mem.2 hm] at hq; cases hq
      refine ⟨?_, fun z hz => ?_⟩
      · show (U ++ [e.ino]).Nodup
        rw [List.nodup_append]
        exact ⟨h.1, by simp, fun a ha b hb => by obtain rfl := List.mem_singleton.1 hb; exact fun e => hne (e ▸ ha)⟩
      · rcases List.mem_append.1 hz with hz | hz
        · exact h.2 z hz
        · obtain rfl := List.mem_singleton.1 hz
          exact hl e (by simp)
theorem find_ent {f : Fsy} {i : Int} {e : Ent} (h : e ∈ (findN f i).l) : e.ino ∈ inosF f := by
  unfold findN at h
  cases hf : f.l.find? (isNo i) with
  | none => rw [hf] at h; cases h
  | some n =>
    rw [hf] at h
    exact List.mem_flatMap.2 ⟨n, List.mem_of_find?_eq_some hf, List.mem_map_of_mem h⟩
theorem ent_find_dst {f : Fsy} {U : List Int} (h : Dst f U) (i : Int) (k : Nat) : Dst f (addE U ((findN f i).l.take k)) :=
  addE_dst h fun e he => find_ent (List.mem_of_mem_take he)
def goU (f : Fsy) : Nat → List Int → Nat → List Int
  | 0, U, _ => U
  | n + 1, U, p =>
    match U[p]? with
    | some i => goU f n (addE U (findN f i).l) (p + 1)
    | none => U
def underF (f : Fsy) (i : Int) : List Int := goU f 300 (addE [] (findN f i).l) 0
def UH (f : Fsy) (i : Int) (U : List Int) (p : Nat) : Prop := Dst f U ∧ p ≤ U.length ∧ goU f (300 - p) U p = underF f i
theorem UH.zero (f : Fsy) (i : Int) {j : Nat} (h : (findN f i).l.length ≤ j) : UH f i (addE [] ((findN f i).l.take j)) 0 := by
  refine ⟨ent_find_dst (Dst.nil f) i j, Nat.zero_le _, ?_⟩
  rw [take_all h]; rfl
theorem UH.step {f : Fsy} {i : Int} {U : List Int} {p j : Nat} {z : Int} (hf : fewF f) (h : UH f i U p) (hz : U[p]? = some z) (hj : (findN f z).l.length ≤ j) : UH f i (addE U ((findN f z).l.take j)) (p + 1) := by
  obtain ⟨h1, h2, h3⟩ := h
  have hp := lt_of_some hz
  have hl := h1.le hf
  refine ⟨ent_find_dst h1 z j, by have := addE_len ((findN f z).l.take j) U; omega, ?_⟩
  rw [take_all hj, ← h3, show 300 - p = (300 - (p + 1)) + 1 from by omega]
  simp only [goU, hz]
theorem UH.done {f : Fsy} {i : Int} {U : List Int} {p : Nat} (h : UH f i U p) (hp : U.length ≤ p) : underF f i = U := by
  rw [← h.2.2]
  cases 300 - p with
  | zero => rfl
  | succ n => simp only [goU, List.getElem?_eq_none hp]
def isE (i : Int) (e : Ent) : Bool := e.ino == i
def cntE (i : Int) (n : Nod) : Nat := n.l.countP (isE i)
end Go.Proofs.Ytgcjfhgkkgocpaa

set_option linter.unusedVariables false
set_option linter.unusedSimpArgs false
namespace Go.Proofs.Ytgcjfhgkkgocpaa
open Go Go.RowKit Copyhold
def gone : Bx := .row (.slice none 0 0) 0 0 []
def lcR (P : Program) (q : Nat) (ops : Array Oper) (s : LS) (i : Nat) : Option ((FuncId × List AV × Option Tmp) × Bx) :=
  match callO ops s i, bget s.bx q with
  | some (f, args, d), some y => bif entB P f then some ((f, args, d), y) else none
  | _, _ => none
end Go.Proofs.Ytgcjfhgkkgocpaa

set_option linter.unusedVariables false
set_option linter.unusedSimpArgs false
namespace Go.Proofs.Ytgcjfhgkkgocpaa
open Go Go.RowKit Copyhold
def seqN : Nat → Code → Code
  | 0, c => c
  | n + 1, .seq _ y => seqN n y
  | _ + 1, c => c
theorem wpOps_val {P : Program} {ops : Array Oper} {Q : Exit → Act → World → Prop} {i : Nat} {rest : List Nat} {a : Act} {w w' : World} {o : Oper} {v : Value} (ho : ops[i]? = some o) (hg : o.guard = none)
    (hx : (execOp a.eval o).run P w = .ok (.value v) w') (k : wpOps P ops Q rest (a.put o.dst v) w') : wpOps P ops Q (i :: rest) a w := by
  simp only [wpOps, ho]
  rw [if_pos (by unfold Region.wanted; rw [hg])]
  left
  unfold Oper.wp
  rw [hx, Oper.upon_value]
  exact k
theorem eval_put {a : Act} {d : Nat} {v : Value} (h : d < a.tmps.size) : (a.put (some d) v).eval (.tmp d) = v := by
  simp [Act.put, Act.eval, h]
theorem size_put (a : Act) (d : Option Tmp) (v : Value) : (a.put d v).tmps.size = a.tmps.size := by
  cases d <;> simp [Act.put]
def rnR (m : Nat) (s : LS) : Option Unit :=
  match lget s.tm m with
  | .mp [] => some ()
  | _ => none
theorem rule_rngNil {P : Program} {nt m x it nx t id7 id8 bid ty : Nat} {o0 o1 o2 o3 : Oper} {B Y code : Code} {kt et : TypeId}
    (hc : code = .seq (.seq (.region id7 #[o0, o1] false) (.block bid (.loop (.seq (.region id8 #[o2, o3] false) (.seq (.cond (.tmp t) .skip (.exit bid)) B))))) Y)
    (h0 : o0.op = .move (.tmp m) ∧ o0.dst = some x ∧ o0.guard = none) (h1 : o1.op = .range ty (.tmp x) ∧ o1.dst = some it ∧ o1.guard = none) (hu : P.underlying ty = some (.map kt et))
    (h2 : o2.op = .next (.tmp it) false ∧ o2.dst = some nx ∧ o2.guard = none) (h3 : o3.op = .extract (.tmp nx) 0 ∧ o3.dst = some t ∧ o3.guard = none)
    (hn : m < nt ∧ x < nt ∧ it < nt ∧ nx < nt ∧ t < nt) :
    ∀ (c : Cx) (Q : Exit → FS → Prop) (s : LS), c.n = nt → P.follows .mixedOrders = true → rnR m s = some () → (∀ _ : Unit, AWp c P Y Q ((((s.put (some x) .any).put (some it) .any).put (some nx) .any).put (some t) .any).fs) → AWp c P code Q s.fs := by
  subst hc
  intro c Q s hcn hm hrd kk a w hr
  obtain ⟨hcb, D, hR⟩ := hr
  obtain ⟨n1, n2, n3, n4, n5⟩ := hn
  have hmp : lget s.tm m = .mp [] := by
    unfold rnR at hrd
    split at hrd
    · assumption
    · cases hrd
  have hv := hR.ev (.tmp m) (fun t' e => by cases e; rw [hcn]; exact n1)
  have hev : s.fs.ev (.tmp m) = .mp [] := hmp
  rw [hev] at hv
  have hsz : a.tmps.size = nt := hR.size.trans hcn
  generalize hva : a.eval (.tmp m) = v at hv
  cases hv with
  | mp es r es' clock hDr hlt hhp hlen hkeys hvals =>
    have hes : es' = #[] := Array.eq_empty_of_size_eq_zero (by simpa using hlen.1.symm)
    subst hes
    refine wp_seq (wp_seq (wp_region ?_))
    show wpOps P #[o0, o1] _ [0, 1] a w
    refine wpOps_val (o := o0) rfl h0.2.2 (v := .map (some r)) (w' := w) (by simp [execOp, h0.1, hva]) ?_
    rw [h0.2.1]
    have he1 := eval_put (a := a) (d := x) (v := .map (some r)) (by omega)
    have hs1 := size_put a (some x) (.map (some r))
    refine wpOps_val (o := o1) rfl h1.2.2 (v := .pointer (some ⟨w.heap.size, 0, none⟩)) (w' := w.alloc (.mapIter (some r) clock #[] clock)) (by
      simp [execOp, h1.1, he1, Instr.range, run_underlying hu, getObj, Sem.run, hhp, newObj]) ?_
    rw [h1.2.1]
    generalize ha1 : a.put (some x) (.map (some r)) = a1 at he1 hs1
    have hD1 : RelD c D (s.put (some x) .any).fs a1 w := by
      rw [← LS.fs_put, ← ha1]; exact hR.put _ (.any _)
    have he2 := eval_put (a := a1) (d := it) (v := .pointer (some ⟨w.heap.size, 0, none⟩)) (by omega)
    have hs2 := size_put a1 (some it) (.pointer (some ⟨w.heap.size, 0, none⟩))
    generalize ha2 : a1.put (some it) (.pointer (some ⟨w.heap.size, 0, none⟩)) = a2 at he2 hs2
    obtain ⟨w2, hw2⟩ : ∃ w2, w2 = w.alloc (.mapIter (some r) clock #[] clock) := ⟨_, rfl⟩
    have hb2 : Below w.heap.size w w2 := hw2 ▸ (Below.refl _ _).alloc (Nat.le_refl _) _
    have hit : w2.heap[w.heap.size]? = some (.mapIter (some r) clock #[] clock) := hw2 ▸ heap_alloc_new w _
    have hmap : w2.heap[r]? = some (.map #[] clock) := (hb2.block r hlt).trans hhp
    rw [← hw2]
    have hD2 : RelD c D ((s.put (some x) .any).put (some it) .any).fs a2 w2 := by
      have h := hD1.grow (D' := D) hcb hb2 (fun _ h => h) (fun b h => ⟨Nat.lt_of_lt_of_le (hR.dlt b h) hb2.size, .inl h⟩) none (fun id y h => by cases h)
      rw [← LS.fs_put, ← ha2]; exact h.put _ (.any _)
    show Code.wp P _ _ a2 w2
    refine wp_block (wp_loop (fun a' w' => a' = a2 ∧ w' = w2) (fun _ _ => 0) ⟨rfl, rfl⟩ fun a' w' ⟨e1, e2⟩ => ?_)
    subst e1 e2
    refine wp_seq (wp_region ?_)
    show wpOps P #[o2, o3] _ [0, 1] a' w'
    refine wpOps_val (o := o2) rfl h2.2.2 (v := .tuple #[.bool false]) (w' := w') (by
      simp [execOp, h2.1, he2, Instr.next, getObj, Sem.run, hit, hmap, choose, Question.cut, Question.forced]) ?_
    rw [h2.2.1]
    have he3 := eval_put (a := a') (d := nx) (v := .tuple #[.bool false]) (by omega)
    have hs3 := size_put a' (some nx) (.tuple #[.bool false])
    refine wpOps_val (o := o3) rfl h3.2.2 (v := .bool false) (w' := w') (by simp [execOp, h3.1, he3, Instr.extract]) ?_
    rw [h3.2.1]
    have he4 := eval_put (a := a'.put (some nx) (.tuple #[.bool false])) (d := t) (v := .bool false) (by omega)
    show Code.wp P _ _ _ _
    refine wp_seq (wp_cond_false he4 (wp_exit ?_))
    show Exit.inBlock bid _ (.exit bid) _ _
    simp only [Exit.inBlock, if_true]
    refine kk () _ _ ⟨Nat.le_trans hcb hb2.size, D, ?_⟩
    rw [← LS.fs_put _ (some t), ← LS.fs_put _ (some nx)]
    exact (hD2.put _ (.any _)).put _ (.any _)
end Go.Proofs.Ytgcjfhgkkgocpaa
