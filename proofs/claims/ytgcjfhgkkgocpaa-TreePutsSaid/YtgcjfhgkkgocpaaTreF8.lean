/- tree.place, at, Find. -/
import Derived.Test.YtgcjfhgkkgocpaaTreE8
set_option linter.unusedVariables false
set_option linter.unusedSimpArgs false
namespace Go.Proofs.Ytgcjfhgkkgocpaa
open Go Go.RowKit Copyhold
set_option maxRecDepth 100000 in
set_option maxHeartbeats 4000000 in
theorem bsearch_spec (l : List Nod) (n : Int) (hl : l.length ≤ 100000) (hr : RiseN l) : FSpec Try.prog 65 [.sl 5 false (l.map nodA), aI n, .clo 66 [.dptr [.val (.func (.func 55) #[] #[])]]] (.tup [aI (plN l n : Int), aB (thN l n)]) := by
  exact spec_vc (F := Try.f65) 400 (
 .r 2 <| .r 2 <| .val 13 (show (aI ((l.map nodA).length : Int) : AV) = aI (l.length : Int) from by rw [List.length_map]) <| .r 1 <| .r 3 <| let L1 : Lp (Nat × Nat) := ⟨fun a1 => ⟨[(0, .sl 5 false (l.map nodA)), (1, aI n), (2, .clo 66 [.dptr [.val (.func (.func 55) #[] #[])]]), (8, aI (l.length : Int)), (9, aI (a1.1 : Int)), (10, aI (a1.2 : Int))], []⟩, fun a1 => a1.2 - a1.1, fun a1 => BsH l n a1.1 a1.2⟩
 .loop L1 (0, l.length) (show BsH l n 0 l.length from (bs0 l n)) ⟨[(0, .sl 5 false (l.map nodA)), (1, aI n), (2, .clo 66 [.dptr [.val (.func (.func 55) #[] #[])]]), (8, aI (l.length : Int)), (9, aI 0), (10, aI (l.length : Int))], []⟩ ⟨Sub.refl _, Sub.refl _, Sub.refl _, Sub.refl _, Sub.of_eq (congrArg aI (by first | omega | rfl)), Sub.refl _, trivial⟩ trivial fun a1 ha1 =>
 (fun (i : Nat) (j : Nat) (hH1 : BsH l n i j) => have hb1 := hH1.1; have hb2 := hH1.2.1; .r 3 <| .br 17 (decide ((i : Int) < (j : Int))) (fun q1 => have p1 := decT q1; .run 3 [rng .i64 ((i : Int) + (j : Int))] ⟨rng64 (by omega) (by omega), trivial⟩ <|
 .op (cvR) (3, 103, .int .i64 ((i : Int) + (j : Int)), some 21) (fun (_ : Unit) σ => σ.put (some 21) (.val (.int .u64 ((i : Int) + (j : Int))))) (rule_cv (conv_int (by kernel_rfl) (by kernel_rfl) (rngu (by omega) (by omega)))) fun _ =>
 .binV .shr 103 (shrN (yk := .u64) (a := ((i : Int) + (j : Int))) (b := 1) (by omega)) <|
 .val 22 (show (.val (.int .u64 (((i : Int) + (j : Int)) / 2 ^ 1)) : AV) = .val (.int .u64 (((i + j) / 2 : Nat) : Int)) from (congrArg (fun z => AV.val (.int .u64 z)) (by rw [show (i : Int) + (j : Int) = ((i + j : Nat) : Int) from by omega]; exact fdiv2 _))) <| .op (cvR) (103, 3, .int .u64 (((i + j) / 2 : Nat) : Int), some 23) (fun (_ : Unit) σ => σ.put (some 23) (.val (.int .i64 (((i + j) / 2 : Nat) : Int)))) (rule_cv (conv_int (by kernel_rfl) (by kernel_rfl) (rng64 (by omega) (by omega)))) fun _ =>
 .r 1 <| .r 3 <| .idxM l nodA ((i + j) / 2) (m := (((i + j) / 2 : Nat) : Int)) rfl (by have := hH1.1; have := hH1.2.1; omega) fun x1 hx1 =>
 .r 2 <| .call (cmp_spec x1 n) <|
 .r 1 <| .br 31 (decide ((cmpD x1.ino n) < 0)) (fun q2 => have p2 := decT q2; .run 3 [rng .i64 ((((i + j) / 2 : Nat) : Int) + 1)] ⟨rng64 (by omega) (by omega), trivial⟩ <|
 .back L1 (i, j) (((i + j) / 2 + 1), j) (show BsH l n ((i + j) / 2 + 1) j from (bs_up hr hH1 hx1 q2)) (show j - ((i + j) / 2 + 1) < j - i from (by omega)) ⟨[(0, .sl 5 false (l.map nodA)), (1, aI n), (2, .clo 66 [.dptr [.val (.func (.func 55) #[] #[])]]), (8, aI (l.length : Int)), (9, aI ((((i + j) / 2 : Nat) : Int) + 1)), (10, aI (j : Int))], []⟩ ⟨Sub.refl _, Sub.refl _, Sub.refl _, Sub.refl _, Sub.of_eq (congrArg aI (by omega)), Sub.refl _, trivial⟩ trivial)
 <| fun q2 => have p2 := decF q2; .r 2 <| .back L1 (i, j) (i, ((i + j) / 2)) (show BsH l n i ((i + j) / 2) from (bs_dn hr hH1 hx1 q2)) (show ((i + j) / 2) - i < j - i from (by omega)) ⟨[(0, .sl 5 false (l.map nodA)), (1, aI n), (2, .clo 66 [.dptr [.val (.func (.func 55) #[] #[])]]), (8, aI (l.length : Int)), (9, aI (i : Int)), (10, aI (((i + j) / 2 : Nat) : Int))], []⟩ ⟨Sub.refl _, Sub.refl _, Sub.refl _, Sub.refl _, Sub.refl _, Sub.of_eq (congrArg aI (by first | omega | rfl)), trivial⟩ trivial)
 <| fun q1 => have p1 := decF q1; .r 5 <| .br 39 (decide ((i : Int) < (l.length : Int))) (fun q3 => have p3 := decT q3; .r 3 <| .idxM l nodA i (m := (i : Int)) rfl (by omega) fun x2 hx2 =>
 .r 2 <| .call (cmp_spec x2 n) <|
 .r 4 <| .fin (x := .tup [aI (i : Int), aB ((cmpD x2.ino n) == 0)]) (r := .tup [aI (plN l n : Int), aB (thN l n)]) [] trivial (by
    have e := bs_end hH1 (by omega)
    rw [show thN l n = (cmpD x2.ino n == 0) from (thereF_at e hx2).trans cmp_eq.symm, show plN l n = i from e]
    exact Sub.refl _))
 <| fun q3 => have p3 := decF q3; .r 11 <| .fin (x := .tup [aI (i : Int), aB false]) (r := .tup [aI (plN l n : Int), aB (thN l n)]) [] trivial (by
    have e := bs_end hH1 (by omega)
    have e2 : plN l n = l.length := (by have := hH1.1; have := hH1.2.1; omega)
    rw [show thN l n = false from thereF_end e2, show plN l n = i from e]
    exact Sub.refl _)) a1.1 a1.2 ha1) Try.func65 rfl (by kernel_rfl) (by kernel_rfl)
set_option maxRecDepth 100000 in
set_option maxHeartbeats 4000000 in
theorem place_spec (l : List Nod) (n : Int) (hl : l.length ≤ 100000) (hr : RiseN l) : FSpec Try.prog 54 [.sl 5 false (l.map nodA), .val (.func (.func 55) #[] #[]), aI n] (.tup [aI (plN l n : Int), aB (thN l n)]) := by
  exact spec_vc (F := Try.f54) 400 (
 .new fun b1 => .r 2 <| .frz 4 [0, 2, 4, 6, 7] [] [b1 = b1] ⟨rfl, trivial⟩ <|
 .r 3 <| .call (bsearch_spec l n hl hr) <|
 .r 4 <| .fin (x := .tup [aI (plN l n : Int), aB (thN l n)]) (r := .tup [aI (plN l n : Int), aB (thN l n)]) [] trivial (by exact Sub.refl _)) Try.func54 rfl (by kernel_rfl) (by kernel_rfl)
set_option maxRecDepth 100000 in
set_option maxHeartbeats 4000000 in
theorem at_spec (f : Fsy) (n : Int) (hl : f.l.length ≤ 100000) (hr : RiseN f.l) : FSpec Try.prog 35 [.agg [.sl 5 false (f.l.map nodA), aI f.next], aI n] (.tup [aI (plN f.l n : Int), aB (thN f.l n)]) := by
  exact spec_vc (F := Try.f35) 400 (
 .new fun b1 => .r 2 <| .run 3 [b1 = b1] ⟨rfl, trivial⟩ <|
 .call (place_spec f.l n hl hr) <|
 .r 4 <| .fin (x := .tup [aI (plN f.l n : Int), aB (thN f.l n)]) (r := .tup [aI (plN f.l n : Int), aB (thN f.l n)]) [] trivial (by exact Sub.refl _)) Try.func35 rfl (by kernel_rfl) (by kernel_rfl)
set_option maxRecDepth 100000 in
set_option maxHeartbeats 4000000 in
theorem tfind_spec (f : Fsy) (n : Int) (hl : f.l.length ≤ 100000) (hr : RiseN f.l) : FSpec Try.prog 20 [.agg [.sl 5 false (f.l.map nodA), aI f.next], aI n] (.tup [.agg (nodA (findN f n)), aB (findB f n)]) := by
  exact spec_vc (F := Try.f20) 400 (
 .new fun b1 => .new fun b2 => .r 1 <| .run 2 [b1 = b1] ⟨rfl, trivial⟩ <|
 .call (at_spec f n hl hr) <|
 .r 5 <| .r 2 <| .br 15 (!(thN f.l n)) (fun q1 => have q1 := notT q1; have p1 := booF q1; .run 3 [b2 = b2] ⟨rfl, trivial⟩ <|
 .fin (x := .tup [.agg [aI 0, aI 0, aI 0, aS ([]), aN], aB false]) (r := .tup [.agg (nodA (findN f n)), aB (findB f n)]) [b2 = b2] ⟨rfl, trivial⟩ (by
    obtain ⟨e1, e2⟩ := find_away hr q1
    rw [show findN f n = nod0 from by unfold findN; rw [e2]; rfl, show findB f n = false from e1]
    exact Sub.tups ⟨Sub.aggs ⟨Sub.refl _, Sub.refl _, Sub.refl _, Sub.refl _, Sub.nil _ _, trivial⟩, Sub.refl _, trivial⟩))
 <| fun q1 => have q1 := notF q1; have p1 := booT q1; .run 3 [b1 = b1] ⟨rfl, trivial⟩ <|
 .idxM f.l nodA (plN f.l n) (m := (plN f.l n : Int)) rfl (by obtain ⟨c, hc, _⟩ := thereF_some q1; exact lt_of_some hc) fun x1 hx1 =>
 .run 3 [b2 = b2] ⟨rfl, trivial⟩ <|
 .fin (x := .tup [.agg [aI x1.ino, aI x1.kind, aI x1.links, aS x1.text, .sl 2 false (x1.l.map entA)], aB true]) (r := .tup [.agg (nodA (findN f n)), aB (findB f n)]) [b2 = b2] ⟨rfl, trivial⟩ (by
    obtain ⟨e1, e2⟩ := find_there hr q1 hx1
    rw [show findN f n = x1 from by unfold findN; rw [e2]; rfl, show findB f n = true from e1]
    exact Sub.refl _)) Try.func20 rfl (by kernel_rfl) (by kernel_rfl)
end Go.Proofs.Ytgcjfhgkkgocpaa
