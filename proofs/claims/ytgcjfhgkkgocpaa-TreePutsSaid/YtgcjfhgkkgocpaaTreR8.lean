/- tree.Rows, ref08.Rows, Find, Same, Few. -/
import Derived.Test.YtgcjfhgkkgocpaaTreV8
set_option linter.unusedVariables false
set_option linter.unusedSimpArgs false
namespace Go.Proofs.Ytgcjfhgkkgocpaa
open Go Go.RowKit Copyhold
set_option maxRecDepth 100000 in
set_option maxHeartbeats 4000000 in
theorem rows_spec (f : Fsy) (okf : OkF f) : FSpec Try.prog 30 [.agg [.sl 5 false (f.l.map nodA), aI f.next]] (aB (dP (rowsP f))) := by
  have hfl := okf.2.1
  exact spec_vc (F := Try.f30) 400 (
 .new fun b1 => .r 1 <| .run 3 [b1 = b1] ⟨rfl, trivial⟩ <|
 .val 7 (show (aI ((f.l.map nodA).length : Int) : AV) = aI (f.l.length : Int) from by rw [List.length_map]) <| .r 2 <| .br 9 (decide ((f.l.length : Int) > 256)) (fun q1 => have p1 := decT q1; .r 4 <| .r 1 <| .fin (x := aB false) (r := aB (dP (rowsP f))) [] trivial (by
    refine sF (fun h => ?_)
    obtain ⟨g1, g2, g3⟩ := h
    omega))
 <| fun q1 => have p1 := decF q1; .run 4 [b1 = b1] ⟨rfl, trivial⟩ <|
 .br 13 (decide (f.next < 1)) (fun q2 => have p2 := decT q2; .r 1 <| .fin (x := aB false) (r := aB (dP (rowsP f))) [] trivial (by
    refine sF (fun h => ?_)
    obtain ⟨g1, g2, g3⟩ := h
    omega))
 <| fun q2 => have p2 := decF q2; .run 3 [b1 = b1] ⟨rfl, trivial⟩ <|
 .val 16 (show (aI ((f.l.map nodA).length : Int) : AV) = aI (f.l.length : Int) from by rw [List.length_map]) <| .r 1 <| let L1 : Lp (Nat) := ⟨fun a1 => ⟨[(1, .ptr 1 b1 0), (15, .sl 5 false (f.l.map nodA)), (16, aI (f.l.length : Int)), (17, aI (a1 : Int))], [(1, .box b1 24 [.sl 5 false (f.l.map nodA), aI f.next])]⟩, fun a1 => f.l.length - a1, fun a1 => a1 ≤ f.l.length ∧ AllTo (rowAt f) f.l a1⟩
 .loop L1 0 (show 0 ≤ f.l.length ∧ AllTo (rowAt f) f.l 0 from ⟨Nat.zero_le _, AllTo.zero _ _⟩) ⟨[(1, .ptr 1 b1 0), (15, .sl 5 false (f.l.map nodA)), (16, aI (f.l.length : Int)), (17, aI 0)], [(1, .box b1 24 [.sl 5 false (f.l.map nodA), aI f.next])]⟩ ⟨Sub.refl _, Sub.refl _, Sub.refl _, Sub.of_eq (congrArg aI (by first | omega | rfl)), trivial⟩ ⟨⟨_, rfl, SubB.refl _⟩, trivial⟩ fun a1 ha1 =>
 (fun (k : Nat) (hH1 : k ≤ f.l.length ∧ AllTo (rowAt f) f.l k) => .r 1 <| .br 18 (decide ((k : Int) < (f.l.length : Int))) (fun q3 => have p3 := decT q3; .r 1 <| .idxM f.l nodA k (m := (k : Int)) rfl (by omega) fun x1 hx1 =>
 have okx1 := okf.2.2 x1 (List.mem_of_getElem? hx1); .r 1 <| .new fun b2 => .run 2 [b2 = b2] ⟨rfl, trivial⟩ <|
 .run 1 [b2 = b2] ⟨rfl, trivial⟩ <|
 .call (nright_spec x1 okx1) <|
 .r 2 <| .br 25 (!(dP (nodP x1))) (fun q4 => have q4 := notT q4; have p4 := booF q4; .r 6 <| .r 1 <| .fin (x := aB false) (r := aB (dP (rowsP f))) [] trivial (by
    refine sF (fun h => ?_)
    obtain ⟨g1, g2, g3⟩ := h.2.2.at hx1
    first | omega | exact dP_false.1 (by assumption) g1 ))
 <| fun q4 => have q4 := notF q4; have p4 := booT q4; .run 6 [b2 = b2, b1 = b1] ⟨rfl, rfl, trivial⟩ <|
 .br 31 (decide (x1.ino ≥ f.next)) (fun q5 => have p5 := decT q5; .r 1 <| .fin (x := aB false) (r := aB (dP (rowsP f))) [] trivial (by
    refine sF (fun h => ?_)
    obtain ⟨g1, g2, g3⟩ := h.2.2.at hx1
    first | omega | exact dP_false.1 (by assumption) g1 ))
 <| fun q5 => have p5 := decF q5; .ord [0, 1, 2, 3, 4, 5, 6, 7, 8, 9, 10, 11, 12, 13] <| .r 3 <| .br 34 (decide ((k : Int) > 0)) (fun q6 => have p6 := decT q6; .run 4 [b1 = b1, rng .i64 ((k : Int) - 1)] ⟨rfl, rng64 (by omega) (by omega), trivial⟩ <|
 .idxM f.l nodA (k - 1) (m := (k : Int) - 1) (by omega) (by omega) fun x2 hx2 =>
 have okx2 := okf.2.2 x2 (List.mem_of_getElem? hx2); .run 6 [b2 = b2] ⟨rfl, trivial⟩ <|
 .br 45 (decide (x2.ino ≥ x1.ino)) (fun q7 => have p7 := decT q7; .r 1 <| .fin (x := aB false) (r := aB (dP (rowsP f))) [] trivial (by
    refine sF (fun h => ?_)
    obtain ⟨g1, g2, g3⟩ := h.2.2.at hx1
    first | omega | exact dP_false.1 (by assumption) g1 | (have := g3 _ (by omega) hx2; omega)))
 <| fun q7 => have p7 := decF q7; .run 2 [rng .i64 ((k : Int) + 1)] ⟨rng64 (by omega) (by omega), trivial⟩ <|
 .back L1 k (k + 1) (show (k + 1) ≤ f.l.length ∧ AllTo (rowAt f) f.l (k + 1) from ⟨by omega, hH1.2.step hx1 ⟨dP_true.1 (by assumption), by omega, by intro d h0 hd; first | omega | (rw [hd] at hx2; obtain rfl := Option.some.inj hx2; omega)⟩⟩) (show f.l.length - (k + 1) < f.l.length - k from (by omega)) ⟨[(1, .ptr 1 b1 0), (15, .sl 5 false (f.l.map nodA)), (16, aI (f.l.length : Int)), (17, aI ((k : Int) + 1))], [(1, .box b1 24 [.sl 5 false (f.l.map nodA), aI f.next])]⟩ ⟨Sub.refl _, Sub.refl _, Sub.refl _, Sub.of_eq (congrArg aI (by first | omega | rfl)), trivial⟩ ⟨⟨_, rfl, SubB.refl _⟩, trivial⟩)
 <| fun q6 => have p6 := decF q6; .r 11 <| .run 2 [rng .i64 ((k : Int) + 1)] ⟨rng64 (by omega) (by omega), trivial⟩ <|
 .back L1 k (k + 1) (show (k + 1) ≤ f.l.length ∧ AllTo (rowAt f) f.l (k + 1) from ⟨by omega, hH1.2.step hx1 ⟨dP_true.1 (by assumption), by omega, by intro d h0 hd; omega⟩⟩) (show f.l.length - (k + 1) < f.l.length - k from (by omega)) ⟨[(1, .ptr 1 b1 0), (15, .sl 5 false (f.l.map nodA)), (16, aI (f.l.length : Int)), (17, aI ((k : Int) + 1))], [(1, .box b1 24 [.sl 5 false (f.l.map nodA), aI f.next])]⟩ ⟨Sub.refl _, Sub.refl _, Sub.refl _, Sub.of_eq (congrArg aI (by first | omega | rfl)), trivial⟩ ⟨⟨_, rfl, SubB.refl _⟩, trivial⟩)
 <| fun q3 => have p3 := decF q3; .r 1 <| .fin (x := aB true) (r := aB (dP (rowsP f))) [] trivial (by exact sT ⟨by omega, by omega, hH1.2.full (by omega)⟩)) a1 ha1) Try.func30 rfl (by kernel_rfl) (by kernel_rfl)
set_option maxRecDepth 100000 in
set_option maxHeartbeats 4000000 in
theorem rrows_spec (f : Fsy) (okf : OkF f) : FSpec Try.prog 14 [.agg [.sl 5 false (f.l.map nodA), aI f.next]] (aB (dP (rowsP f))) := by
  have hfl := okf.2.1
  exact spec_vc (F := Try.f14) 400 (
 .new fun b1 => .r 1 <| .run 3 [b1 = b1] ⟨rfl, trivial⟩ <|
 .val 7 (show (aI ((f.l.map nodA).length : Int) : AV) = aI (f.l.length : Int) from by rw [List.length_map]) <| .r 2 <| .br 9 (decide ((f.l.length : Int) > 256)) (fun q1 => have p1 := decT q1; .r 4 <| .r 1 <| .fin (x := aB false) (r := aB (dP (rowsP f))) [] trivial (by
    refine sF (fun h => ?_)
    obtain ⟨g1, g2, g3⟩ := h
    omega))
 <| fun q1 => have p1 := decF q1; .run 4 [b1 = b1] ⟨rfl, trivial⟩ <|
 .br 13 (decide (f.next < 1)) (fun q2 => have p2 := decT q2; .r 1 <| .fin (x := aB false) (r := aB (dP (rowsP f))) [] trivial (by
    refine sF (fun h => ?_)
    obtain ⟨g1, g2, g3⟩ := h
    omega))
 <| fun q2 => have p2 := decF q2; .r 1 <| let L1 : Lp (Nat) := ⟨fun a1 => ⟨[(1, .ptr 1 b1 0), (3, aI (a1 : Int))], [(1, .box b1 24 [.sl 5 false (f.l.map nodA), aI f.next])]⟩, fun a1 => f.l.length - a1, fun a1 => a1 ≤ f.l.length ∧ AllTo (rowAt f) f.l a1⟩
 .loop L1 0 (show 0 ≤ f.l.length ∧ AllTo (rowAt f) f.l 0 from ⟨Nat.zero_le _, AllTo.zero _ _⟩) ⟨[(1, .ptr 1 b1 0), (3, aI 0)], [(1, .box b1 24 [.sl 5 false (f.l.map nodA), aI f.next])]⟩ ⟨Sub.refl _, Sub.of_eq (congrArg aI (by first | omega | rfl)), trivial⟩ ⟨⟨_, rfl, SubB.refl _⟩, trivial⟩ fun a1 ha1 =>
 (fun (k : Nat) (hH1 : k ≤ f.l.length ∧ AllTo (rowAt f) f.l k) => .run 4 [b1 = b1] ⟨rfl, trivial⟩ <|
 .val 17 (show (aI ((f.l.map nodA).length : Int) : AV) = aI (f.l.length : Int) from by rw [List.length_map]) <| .r 1 <| .br 18 (decide ((k : Int) < (f.l.length : Int))) (fun q3 => have p3 := decT q3; .run 3 [b1 = b1] ⟨rfl, trivial⟩ <|
 .idxM f.l nodA k (m := (k : Int)) rfl (by omega) fun x1 hx1 =>
 have okx1 := okf.2.2 x1 (List.mem_of_getElem? hx1); .r 1 <| .call (rnright_spec x1 okx1) <|
 .r 1 <| .ord [0, 1, 2, 3, 4, 5, 6, 7, 8, 9, 10, 11, 12, 13, 14, 15, 16, 17, 18, 19, 20, 21, 22, 23, 24, 25, 26, 27, 28, 29, 30, 31, 32] <| .r 3 <| .br 29 (!(dP (nodP x1))) (fun q4 => have q4 := notT q4; have p4 := booF q4; .r 30 <| .r 1 <| .fin (x := aB false) (r := aB (dP (rowsP f))) [] trivial (by
    refine sF (fun h => ?_)
    obtain ⟨g1, g2, g3⟩ := h.2.2.at hx1
    first | omega | exact dP_false.1 (by assumption) g1 ))
 <| fun q4 => have q4 := notF q4; have p4 := booT q4; .run 3 [b1 = b1] ⟨rfl, trivial⟩ <|
 .idx k (m := (k : Int)) (xs := f.l.map nodA) (e := nodA x1) rfl (map_some hx1) <|
 .run 7 [b1 = b1] ⟨rfl, trivial⟩ <|
 .br 40 (decide (x1.ino ≥ f.next)) (fun q5 => have p5 := decT q5; .r 19 <| .r 1 <| .fin (x := aB false) (r := aB (dP (rowsP f))) [] trivial (by
    refine sF (fun h => ?_)
    obtain ⟨g1, g2, g3⟩ := h.2.2.at hx1
    first | omega | exact dP_false.1 (by assumption) g1 ))
 <| fun q5 => have p5 := decF q5; .r 3 <| .br 43 (decide ((k : Int) > 0)) (fun q6 => have p6 := decT q6; .run 4 [b1 = b1, rng .i64 ((k : Int) - 1)] ⟨rfl, rng64 (by omega) (by omega), trivial⟩ <|
 .idxM f.l nodA (k - 1) (m := (k : Int) - 1) (by omega) (by omega) fun x2 hx2 =>
 have okx2 := okf.2.2 x2 (List.mem_of_getElem? hx2); .run 5 [b1 = b1] ⟨rfl, trivial⟩ <|
 .idx k (m := (k : Int)) (xs := f.l.map nodA) (e := nodA x1) rfl (map_some hx1) <|
 .r 5 <| .br 59 (decide (x2.ino ≥ x1.ino)) (fun q7 => have p7 := decT q7; .r 1 <| .fin (x := aB false) (r := aB (dP (rowsP f))) [] trivial (by
    refine sF (fun h => ?_)
    obtain ⟨g1, g2, g3⟩ := h.2.2.at hx1
    first | omega | exact dP_false.1 (by assumption) g1 | (have := g3 _ (by omega) hx2; omega)))
 <| fun q7 => have p7 := decF q7; .run 3 [rng .i64 ((k : Int) + 1)] ⟨rng64 (by omega) (by omega), trivial⟩ <|
 .back L1 k (k + 1) (show (k + 1) ≤ f.l.length ∧ AllTo (rowAt f) f.l (k + 1) from ⟨by omega, hH1.2.step hx1 ⟨dP_true.1 (by assumption), by omega, by intro d h0 hd; first | omega | (rw [hd] at hx2; obtain rfl := Option.some.inj hx2; omega)⟩⟩) (show f.l.length - (k + 1) < f.l.length - k from (by omega)) ⟨[(1, .ptr 1 b1 0), (3, aI ((k : Int) + 1))], [(1, .box b1 24 [.sl 5 false (f.l.map nodA), aI f.next])]⟩ ⟨Sub.refl _, Sub.of_eq (congrArg aI (by first | omega | rfl)), trivial⟩ ⟨⟨_, rfl, SubB.refl _⟩, trivial⟩)
 <| fun q6 => have p6 := decF q6; .r 16 <| .run 3 [rng .i64 ((k : Int) + 1)] ⟨rng64 (by omega) (by omega), trivial⟩ <|
 .back L1 k (k + 1) (show (k + 1) ≤ f.l.length ∧ AllTo (rowAt f) f.l (k + 1) from ⟨by omega, hH1.2.step hx1 ⟨dP_true.1 (by assumption), by omega, by intro d h0 hd; omega⟩⟩) (show f.l.length - (k + 1) < f.l.length - k from (by omega)) ⟨[(1, .ptr 1 b1 0), (3, aI ((k : Int) + 1))], [(1, .box b1 24 [.sl 5 false (f.l.map nodA), aI f.next])]⟩ ⟨Sub.refl _, Sub.of_eq (congrArg aI (by first | omega | rfl)), trivial⟩ ⟨⟨_, rfl, SubB.refl _⟩, trivial⟩)
 <| fun q3 => have p3 := decF q3; .r 1 <| .fin (x := aB true) (r := aB (dP (rowsP f))) [] trivial (by exact sT ⟨by omega, by omega, hH1.2.full (by omega)⟩)) a1 ha1) Try.func14 rfl (by kernel_rfl) (by kernel_rfl)
theorem fsy_eq {x y : Fsy} (h1 : x.l = y.l) (h2 : x.next = y.next) : x = y := by cases x; cases y; simp_all
set_option maxRecDepth 100000 in
set_option maxHeartbeats 4000000 in
theorem fsame_spec (f g : Fsy) (okf : OkF f) (okg : OkF g) : FSpec Try.prog 12 [.agg [.sl 5 false (f.l.map nodA), aI f.next], .agg [.sl 5 false (g.l.map nodA), aI g.next]] (aB (dP (f = g))) := by
  have hb1 := okf.2.1
  have hb2 := okg.2.1
  exact spec_vc (F := Try.f12) 400 (
 .new fun b1 => .new fun b2 => .r 1 <| .run 6 [b1 = b1, b2 = b2] ⟨rfl, rfl, trivial⟩ <|
 .br 12 (f.next != g.next) (fun q1 => have p1 := bneT q1; .r 8 <| .r 1 <| .fin (x := aB false) (r := aB (dP (f = g))) [] trivial (by exact sF (fun h => by subst h; omega)))
 <| fun q1 => have p1 := bneF q1; .run 3 [b1 = b1] ⟨rfl, trivial⟩ <|
 .val 15 (show (aI ((f.l.map nodA).length : Int) : AV) = aI (f.l.length : Int) from by rw [List.length_map]) <| .run 3 [b2 = b2] ⟨rfl, trivial⟩ <|
 .val 18 (show (aI ((g.l.map nodA).length : Int) : AV) = aI (g.l.length : Int) from by rw [List.length_map]) <| .r 2 <| .br 20 ((f.l.length : Int) != (g.l.length : Int)) (fun q2 => have p2 := bneT q2; .r 1 <| .fin (x := aB false) (r := aB (dP (f = g))) [] trivial (by exact sF (fun h => by subst h; omega)))
 <| fun q2 => have p2 := bneF q2; .r 1 <| let L1 : Lp (Nat) := ⟨fun a1 => ⟨[(2, .ptr 2 b1 0), (3, .ptr 3 b2 0), (5, aI (a1 : Int))], [(2, .box b1 24 [.sl 5 false (f.l.map nodA), aI f.next]), (3, .box b2 24 [.sl 5 false (g.l.map nodA), aI g.next])]⟩, fun a1 => f.l.length - a1, fun a1 => a1 ≤ f.l.length ∧ f.l.take a1 = g.l.take a1⟩
 .loop L1 0 (show 0 ≤ f.l.length ∧ f.l.take 0 = g.l.take 0 from ⟨Nat.zero_le _, rfl⟩) ⟨[(2, .ptr 2 b1 0), (3, .ptr 3 b2 0), (5, aI 0)], [(2, .box b1 24 [.sl 5 false (f.l.map nodA), aI f.next]), (3, .box b2 24 [.sl 5 false (g.l.map nodA), aI g.next])]⟩ ⟨Sub.refl _, Sub.refl _, Sub.of_eq (congrArg aI (by first | omega | rfl)), trivial⟩ ⟨⟨_, rfl, SubB.refl _⟩, ⟨_, rfl, SubB.refl _⟩, trivial⟩ fun a1 ha1 =>
 (fun (k : Nat) (hH1 : k ≤ f.l.length ∧ f.l.take k = g.l.take k) => .run 4 [b1 = b1] ⟨rfl, trivial⟩ <|
 .val 24 (show (aI ((f.l.map nodA).length : Int) : AV) = aI (f.l.length : Int) from by rw [List.length_map]) <| .r 1 <| .br 25 (decide ((k : Int) < (f.l.length : Int))) (fun q3 => have p3 := decT q3; .ord [0, 1, 2, 3, 4, 5, 6, 7, 8, 9, 10, 11] <| .run 3 [b1 = b1] ⟨rfl, trivial⟩ <|
 .idxM f.l nodA k (m := (k : Int)) rfl (by omega) fun x1 hx1 =>
 have okx1 := okf.2.2 x1 (List.mem_of_getElem? hx1); .run 4 [b2 = b2] ⟨rfl, trivial⟩ <|
 .idxM g.l nodA k (m := (k : Int)) rfl (by omega) fun x2 hx2 =>
 have okx2 := okg.2.2 x2 (List.mem_of_getElem? hx2); .r 1 <| .call (rnsame_spec x1 x2 okx1 okx2) <|
 .r 1 <| .r 2 <| .br 40 (!(dP (x1 = x2))) (fun q4 => have q4 := notT q4; have p4 := booF q4; .r 1 <| .fin (x := aB false) (r := aB (dP (f = g))) [] trivial (by
    refine sF (fun h => ?_)
    rw [h, hx2] at hx1
    obtain rfl := Option.some.inj hx1
    simp_all [dP_true, dP_false]))
 <| fun q4 => have q4 := notF q4; have p4 := booT q4; .run 3 [rng .i64 ((k : Int) + 1)] ⟨rng64 (by omega) (by omega), trivial⟩ <|
 .back L1 k (k + 1) (show (k + 1) ≤ f.l.length ∧ f.l.take (k + 1) = g.l.take (k + 1) from ⟨by omega, by rw [take_step hx1, take_step hx2, hH1.2]; first | (congr 2; done) | (congr 2; exact dP_true.1 (by assumption))⟩) (show f.l.length - (k + 1) < f.l.length - k from (by omega)) ⟨[(2, .ptr 2 b1 0), (3, .ptr 3 b2 0), (5, aI ((k : Int) + 1))], [(2, .box b1 24 [.sl 5 false (f.l.map nodA), aI f.next]), (3, .box b2 24 [.sl 5 false (g.l.map nodA), aI g.next])]⟩ ⟨Sub.refl _, Sub.refl _, Sub.of_eq (congrArg aI (by first | omega | rfl)), trivial⟩ ⟨⟨_, rfl, SubB.refl _⟩, ⟨_, rfl, SubB.refl _⟩, trivial⟩)
 <| fun q3 => have p3 := decF q3; .r 1 <| .fin (x := aB true) (r := aB (dP (f = g))) [] trivial (by
    refine sT (fsy_eq ?_ (by omega))
    have h := hH1.2
    rw [take_all (by omega), take_all (by omega)] at h
    exact h)) a1 ha1) Try.func12 rfl (by kernel_rfl) (by kernel_rfl)
def wN (n : Nod) : Nat := n.l.length
def fewF (f : Fsy) : Prop := f.l.length + (f.l.map wN).sum ≤ 200 ∧ ∀ n ∈ f.l, n.text.length ≤ 5000
def FewK (f : Fsy) (k n : Nat) : Prop := k ≤ f.l.length ∧ n = f.l.length + ((f.l.take k).map wN).sum ∧ (∀ m ∈ f.l.take k, m.text.length ≤ 5000) ∧ n ≤ 100000000000000
theorem few0 {f : Fsy} (h : f.l.length ≤ 8796093022207) : FewK f 0 f.l.length := ⟨Nat.zero_le _, by simp, fun m h => by simp at h, by omega⟩
theorem few_step {f : Fsy} {k n : Nat} {x : Nod} (h : FewK f k n) (hx : f.l[k]? = some x) (hn : n ≤ 200) (ht : x.text.length ≤ 5000) (hb : x.l.length ≤ 8796093022207) : FewK f (k + 1) (n + x.l.length) := by
  obtain ⟨h1, h2, h3, _⟩ := h
  refine ⟨lt_of_some hx, by rw [sum_take wN hx, h2]; simp only [wN]; omega, fun m hm => ?_, by omega⟩
  rcases mem_take_add hx hm with h | rfl
  · exact h3 m h
  · exact ht
theorem few_end {f : Fsy} {k n : Nat} (h : FewK f k n) (h3 : ¬ (k : Int) < f.l.length ∨ ¬ (n : Int) ≤ 200) : decide ((n : Int) ≤ 200) = true ↔ fewF f := by
  obtain ⟨hk, h1, h2, _⟩ := h
  rw [decide_eq_true_iff]
  refine ⟨fun hn => ?_, fun hf => ?_⟩
  · have hk' : f.l.length ≤ k := by omega
    rw [take_all hk'] at h1 h2
    exact ⟨by omega, h2⟩
  · have := hf.1
    have := sum_take_le wN f.l k
    omega
set_option maxRecDepth 100000 in
set_option maxHeartbeats 4000000 in
theorem few_spec (f : Fsy) (okf : OkF f) : FSpec Try.prog 13 [.agg [.sl 5 false (f.l.map nodA), aI f.next]] (aB (dP (fewF f))) := by
  have hfl := okf.2.1
  exact spec_vc (F := Try.f13) 400 (
 .new fun b1 => .r 1 <| .run 3 [b1 = b1] ⟨rfl, trivial⟩ <|
 .val 7 (show (aI ((f.l.map nodA).length : Int) : AV) = aI (f.l.length : Int) from by rw [List.length_map]) <| .r 1 <| .r 1 <| let L1 : Lp (Nat × Nat) := ⟨fun a1 => ⟨[(1, .ptr 1 b1 0), (4, aI (a1.1 : Int)), (3, aI (a1.2 : Int))], [(1, .box b1 24 [.sl 5 false (f.l.map nodA), aI f.next])]⟩, fun a1 => f.l.length - a1.1, fun a1 => FewK f a1.1 a1.2⟩
 .loop L1 (0, f.l.length) (show FewK f 0 f.l.length from (few0 hfl)) ⟨[(1, .ptr 1 b1 0), (4, aI 0), (3, aI (f.l.length : Int))], [(1, .box b1 24 [.sl 5 false (f.l.map nodA), aI f.next])]⟩ ⟨Sub.refl _, Sub.of_eq (congrArg aI (by first | omega | rfl)), Sub.refl _, trivial⟩ ⟨⟨_, rfl, SubB.refl _⟩, trivial⟩ fun a1 ha1 =>
 (fun (k : Nat) (n : Nat) (hH1 : FewK f k n) => have hk1 := hH1.1; have hk2 := hH1.2.2.2; .run 4 [b1 = b1] ⟨rfl, trivial⟩ <|
 .val 11 (show (aI ((f.l.map nodA).length : Int) : AV) = aI (f.l.length : Int) from by rw [List.length_map]) <| .r 2 <| .br 13 (decide ((k : Int) < (f.l.length : Int))) (fun q1 => have p1 := decT q1; .r 3 <| .br 16 (decide ((n : Int) ≤ 200)) (fun q2 => have p2 := decT q2; .run 4 [b1 = b1] ⟨rfl, trivial⟩ <|
 .idxM f.l nodA k (m := (k : Int)) rfl (by omega) fun x1 hx1 =>
 have okx1 := okf.2.2 x1 (List.mem_of_getElem? hx1); have blx1 := okx1.2.2.2.2.1; .r 3 <| .val 26 (show (aI ((x1.l.map entA).length : Int) : AV) = aI (x1.l.length : Int) from by rw [List.length_map]) <| .run 2 [rng .i64 ((n : Int) + (x1.l.length : Int))] ⟨rng64 (by omega) (by omega), trivial⟩ <|
 .run 3 [b1 = b1] ⟨rfl, trivial⟩ <|
 .idx k (m := (k : Int)) (xs := f.l.map nodA) (e := nodA x1) rfl (map_some hx1) <|
 .r 4 <| .br 35 (decide (((x1.text).length : Int) > 5000)) (fun q3 => have p3 := decT q3; .r 1 <| .fin (x := aB false) (r := aB (dP (fewF f))) [] trivial (by exact sF (fun h => by have := h.2 _ (List.mem_of_getElem? hx1); omega)))
 <| fun q3 => have p3 := decF q3; .run 3 [rng .i64 ((k : Int) + 1)] ⟨rng64 (by omega) (by omega), trivial⟩ <|
 .back L1 (k, n) ((k + 1), (n + x1.l.length)) (show FewK f (k + 1) (n + x1.l.length) from (few_step hH1 hx1 (by omega) (by omega) (by omega))) (show f.l.length - (k + 1) < f.l.length - k from (by omega)) ⟨[(1, .ptr 1 b1 0), (4, aI ((k : Int) + 1)), (3, aI ((n : Int) + (x1.l.length : Int)))], [(1, .box b1 24 [.sl 5 false (f.l.map nodA), aI f.next])]⟩ ⟨Sub.refl _, Sub.of_eq (congrArg aI (by first | omega | rfl)), Sub.of_eq (congrArg aI (by first | omega | rfl)), trivial⟩ ⟨⟨_, rfl, SubB.refl _⟩, trivial⟩)
 <| fun q2 => have p2 := decF q2; .r 3 <| .fin (x := aB (decide ((n : Int) ≤ 200))) (r := aB (dP (fewF f))) [] trivial (by exact sE (few_end hH1 (by omega))))
 <| fun q1 => have p1 := decF q1; .r 3 <| .r 3 <| .fin (x := aB (decide ((n : Int) ≤ 200))) (r := aB (dP (fewF f))) [] trivial (by exact sE (few_end hH1 (by omega)))) a1.1 a1.2 ha1) Try.func13 rfl (by kernel_rfl) (by kernel_rfl)
end Go.Proofs.Ytgcjfhgkkgocpaa
