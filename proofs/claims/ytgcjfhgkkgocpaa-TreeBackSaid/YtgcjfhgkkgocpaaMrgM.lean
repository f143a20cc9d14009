/- tree.Rows, ref08.Rows, Find, Same, Few. The plain mathematics of layer 1 (octet): short numbers, texts and lists as rows of bytes, and what is taken of such rows. Lists and numbers alone: nothing of the program. Layer 1's plain mathematics, more: what was laid is taken as it was; what is taken was laid. Layer 1's plain mathematics, more: no beginning of what was laid is taken. Layer 7, without a program: nodes, which are right, their texts. copyholdref06.Check: it answers as the document says; memory is as it was. name.Right, copyholdref06.Right: they answer as the document says; old memory is as it was. name.Right: it answers as the document says; old memory is as it was. copyholdref06.Same: it answers as the document says; old memory is as it was. -/
import Derived.Test.YtgcjfhgkkgocpaaTreV8
import Derived.Laws.BytesArg
import Derived.Test.YtgcjfhgkkgocpaaMrgJ
import Derived.Deep.QuietTactic
import Derived.BigQuiet
import Derived.IntWalk
set_option linter.unusedVariables false
set_option linter.unusedSimpArgs false
namespace Go.Proofs.Ytgcjfhgkkgocpaa
open Go Go.RowKit Copyhold
set_option maxRecDepth 100000 in
set_option maxHeartbeats 4000000 in
theorem rows_spec (f : Fsy) (okf : OkF f) : FSpec Try.prog 30 [.agg [.sl 5 false (f.l.map nodA), aI f.next]] (aB (dP (rowsP f))) := by
  have hfl := okf.2.1
  exact spec_vc (F := Try.f30) 400 (
 .new fun b1 => .r 1 <| .run 3 [b1 = b1] ⟨rfl, trivial⟩ <|
 .val 7 (show (aI ((f.l.map nodA).length : Int) : AV) = aI (f.l.length : Int) from by rw [List.length_map]) <| .r 2 <| .br 9 (decide ((f.l.length : Int) > 256)) (fun q1 => have p1 := decT q1; .r 4 <| .r 1 <| .fin (x := aB false) (r := aB (dP (rowsP f))) [] trivial (by
    refine sF (fun h => ?_)
    obtain ⟨g1, g2, g3⟩ := h
    omega))
 <| fun q1 => have p1 := decF q1; .run 4 [b1 = b1] ⟨rfl, trivial⟩ <|
 .br 13 (decide (f.next < 1)) (fun q2 => have p2 := decT q2; .r 1 <| .fin (x := aB false) (r := aB (dP (rowsP f))) [] trivial (by
    refine sF (fun h => ?_)
    obtain ⟨g1, g2, g3⟩ := h
    omega))
 <| fun q2 => have p2 := decF q2; .run 3 [b1 = b1] ⟨rfl, trivial⟩ <|
 .val 16 (show (aI ((f.l.map nodA).length : Int) : AV) = aI (f.l.length : Int) from by rw [List.length_map]) <| .r 1 <| let L1 : Lp (Nat) := ⟨fun a1 => ⟨[(1, .ptr 1 b1 0), (15, .sl 5 false (f.l.map nodA)), (16, aI (f.l.length : Int)), (17, aI (a1 : Int))], [(1, .box b1 24 [.sl 5 false (f.l.map nodA), aI f.next])]⟩, fun a1 => f.l.length - a1, fun a1 => a1 ≤ f.l.length ∧ AllTo (rowAt f) f.l a1⟩
 .loop L1 0 (show 0 ≤ f.l.length ∧ AllTo (rowAt f) f.l 0 from ⟨Nat.zero_le _, AllTo.zero _ _⟩) ⟨[(1, .ptr 1 b1 0), (15, .sl 5 false (f.l.map nodA)), (16, aI (f.l.length : Int)), (17, aI 0)], [(1, .box b1 24 [.sl 5 false (f.l.map nodA), aI f.next])]⟩ ⟨Sub.refl _, Sub.refl _, Sub.refl _, Sub.of_eq (congrArg aI (by first | omega | rfl)), trivial⟩ ⟨⟨_, rfl, SubB.refl _⟩, trivial⟩ fun a1 ha1 =>
 (fun (k : Nat) (hH1 : k ≤ f.l.length ∧ AllTo (rowAt f) f.l k) => .r 1 <| .br 18 (decide ((k : Int) < (f.l.length : Int))) (fun q3 => have p3 := decT q3; .r 1 <| .idxM f.l nodA k (m := (k : Int)) rfl (by omega) fun x1 hx1 =>
 have okx1 := okf.2.2 x1 (List.mem_of_getElem? hx1); .r 1 <| .new fun b2 => .run 2 [b2 = b2] ⟨rfl, trivial⟩ <|
 .run 1 [b2 = b2] ⟨rfl, trivial⟩ <|
 .call (nright_spec x1 okx1) <|
 .r 2 <| .br 25 (!(dP (nodP x1))) (fun q4 => have q4 := notT q4; have p4 := booF q4; .r 6 <| .r 1 <| .fin (x := aB false) (r := aB (dP (rowsP f))) [] trivial (by
    refine sF (fun h => ?_)
    obtain ⟨g1, g2, g3⟩ := h.2.2.at hx1
    first | omega | exact dP_false.1 (by assumption) g1 ))
 <| fun q4 => have q4 := notF q4; have p4 := booT q4; .run 6 [b2 = b2, b1 = b1] ⟨rfl, rfl, trivial⟩ <|
 .br 31 (decide (x1.ino ≥ f.next)) (fun q5 => have p5 := decT q5; .r 1 <| .fin (x := aB false) (r := aB (dP (rowsP f))) [] trivial (by
    refine sF (fun h => ?_)
    obtain ⟨g1, g2, g3⟩ := h.2.2.at hx1
    first | omega | exact dP_false.1 (by assumption) g1 ))
 <| fun q5 => have p5 := decF q5; .ord [0, 1, 2, 3, 4, 5, 6, 7, 8, 9, 10, 11, 12, 13] <| .r 3 <| .br 34 (decide ((k : Int) > 0)) (fun q6 => have p6 := decT q6; .run 4 [b1 = b1, rng .i64 ((k : Int) - 1)] ⟨rfl, rng64 (by omega) (by omega), trivial⟩ <|
 .idxM f.l nodA (k - 1) (m := (k : Int) - 1) (by omega) (by omega) fun x2 hx2 =>
 have okx2 := okf.2.2 x2 (List.mem_of_getElem? hx2); .run 6 [b2 = b2] ⟨rfl, trivial⟩ <|
 .br 45 (decide (x2.ino ≥ x1.ino)) (fun q7 => have p7 := decT q7; .r 1 <| .fin (x := aB false) (r := aB (dP (rowsP f))) [] trivial (by
    refine sF (fun h => ?_)
    obtain ⟨g1, g2, g3⟩ := h.2.2.at hx1
    first | omega | exact dP_false.1 (by assumption) g1 | (have := g3 _ (by omega) hx2; omega)))
 <| fun q7 => have p7 := decF q7; .run 2 [rng .i64 ((k : Int) + 1)] ⟨rng64 (by omega) (by omega), trivial⟩ <|
 .back L1 k (k + 1) (show (k + 1) ≤ f.l.length ∧ AllTo (rowAt f) f.l (k + 1) from ⟨by omega, hH1.2.step hx1 ⟨dP_true.1 (by assumption), by omega, by intro d h0 hd; first | omega | (rw [hd] at hx2; obtain rfl := Option.some.inj hx2; omega)⟩⟩) (show f.l.length - (k + 1) < f.l.length - k from (by omega)) ⟨[(1, .ptr 1 b1 0), (15, .sl 5 false (f.l.map nodA)), (16, aI (f.l.length : Int)), (17, aI ((k : Int) + 1))], [(1, .box b1 24 [.sl 5 false (f.l.map nodA), aI f.next])]⟩ ⟨Sub.refl _, Sub.refl _, Sub.refl _, Sub.of_eq (congrArg aI (by first | omega | rfl)), trivial⟩ ⟨⟨_, rfl, SubB.refl _⟩, trivial⟩)
 <| fun q6 => have p6 := decF q6; .r 11 <| .run 2 [rng .i64 ((k : Int) + 1)] ⟨rng64 (by omega) (by omega), trivial⟩ <|
 .back L1 k (k + 1) (show (k + 1) ≤ f.l.length ∧ AllTo (rowAt f) f.l (k + 1) from ⟨by omega, hH1.2.step hx1 ⟨dP_true.1 (by assumption), by omega, by intro d h0 hd; omega⟩⟩) (show f.l.length - (k + 1) < f.l.length - k from (by omega)) ⟨[(1, .ptr 1 b1 0), (15, .sl 5 false (f.l.map nodA)), (16, aI (f.l.length : Int)), (17, aI ((k : Int) + 1))], [(1, .box b1 24 [.sl 5 false (f.l.map nodA), aI f.next])]⟩ ⟨Sub.refl _, Sub.refl _, Sub.refl _, Sub.of_eq (congrArg aI (by first | omega | rfl)), trivial⟩ ⟨⟨_, rfl, SubB.refl _⟩, trivial⟩)
 <| fun q3 => have p3 := decF q3; .r 1 <| .fin (x := aB true) (r := aB (dP (rowsP f))) [] trivial (by exact sT ⟨by omega, by omega, hH1.2.full (by omega)⟩)) a1 ha1) Try.func30 rfl (by kernel_rfl) (by kernel_rfl)
set_option maxRecDepth 100000 in
set_option maxHeartbeats 4000000 in
theorem rrows_spec (f : Fsy) (okf : OkF f) : FSpec Try.prog 14 [.agg [.sl 5 false (f.l.map nodA), aI f.next]] (aB (dP (rowsP f))) := by
  have hfl := okf.2.1
  exact spec_vc (F := Try.f14) 400 (
 .new fun b1 => .r 1 <| .run 3 [b1 = b1] ⟨rfl, trivial⟩ <|
 .val 7 (show (aI ((f.l.map nodA).length : Int) : AV) = aI (f.l.length : Int) from by rw [List.length_map]) <| .r 2 <| .br 9 (decide ((f.l.length : Int) > 256)) (fun q1 => have p1 := decT q1; .r 4 <| .r 1 <| .fin (x := aB false) (r := aB (dP (rowsP f))) [] trivial (by
    refine sF (fun h => ?_)
    obtain ⟨g1, g2, g3⟩ := h
    omega))
 <| fun q1 => have p1 := decF q1; .run 4 [b1 = b1] ⟨rfl, trivial⟩ <|
 .br 13 (decide (f.next < 1)) (fun q2 => have p2 := decT q2; .r 1 <| .fin (x := aB false) (r := aB (dP (rowsP f))) [] trivial (by
    refine sF (fun h => ?_)
    obtain ⟨g1, g2, g3⟩ := h
    omega))
 <| fun q2 => have p2 := decF q2; .r 1 <| let L1 : Lp (Nat) := ⟨fun a1 => ⟨[(1, .ptr 1 b1 0), (3, aI (a1 : Int))], [(1, .box b1 24 [.sl 5 false (f.l.map nodA), aI f.next])]⟩, fun a1 => f.l.length - a1, fun a1 => a1 ≤ f.l.length ∧ AllTo (rowAt f) f.l a1⟩
 .loop L1 0 (show 0 ≤ f.l.length ∧ AllTo (rowAt f) f.l 0 from ⟨Nat.zero_le _, AllTo.zero _ _⟩) ⟨[(1, .ptr 1 b1 0), (3, aI 0)], [(1, .box b1 24 [.sl 5 false (f.l.map nodA), aI f.next])]⟩ ⟨Sub.refl _, Sub.of_eq (congrArg aI (by first | omega | rfl)), trivial⟩ ⟨⟨_, rfl, SubB.refl _⟩, trivial⟩ fun a1 ha1 =>
 (fun (k : Nat) (hH1 : k ≤ f.l.length ∧ AllTo (rowAt f) f.l k) => .run 4 [b1 = b1] ⟨rfl, trivial⟩ <|
 .val 17 (show (aI ((f.l.map nodA).length : Int) : AV) = aI (f.l.length : Int) from by rw [List.length_map]) <| .r 1 <| .br 18 (decide ((k : Int) < (f.l.length : Int))) (fun q3 => have p3 := decT q3; .run 3 [b1 = b1] ⟨rfl, trivial⟩ <|
 .idxM f.l nodA k (m := (k : Int)) rfl (by omega) fun x1 hx1 =>
 have okx1 := okf.2.2 x1 (List.mem_of_getElem? hx1); .r 1 <| .call (rnright_spec x1 okx1) <|
 .r 1 <| .ord [0, 1, 2, 3, 4, 5, 6, 7, 8, 9, 10, 11, 12, 13, 14, 15, 16, 17, 18, 19, 20, 21, 22, 23, 24, 25, 26, 27, 28, 29, 30, 31, 32] <| .r 3 <| .br 29 (!(dP (nodP x1))) (fun q4 => have q4 := notT q4; have p4 := booF q4; .r 30 <| .r 1 <| .fin (x := aB false) (r := aB (dP (rowsP f))) [] trivial (by
    refine sF (fun h => ?_)
    obtain ⟨g1, g2, g3⟩ := h.2.2.at hx1
    first | omega | exact dP_false.1 (by assumption) g1 ))
 <| fun q4 => have q4 := notF q4; have p4 := booT q4; .run 3 [b1 = b1] ⟨rfl, trivial⟩ <|
 .idx k (m := (k : Int)) (xs := f.l.map nodA) (e := nodA x1) rfl (map_some hx1) <|
 .run 7 [b1 = b1] ⟨rfl, trivial⟩ <|
 .br 40 (decide (x1.ino ≥ f.next)) (fun q5 => have p5 := decT q5; .r 19 <| .r 1 <| .fin (x := aB false) (r := aB (dP (rowsP f))) [] trivial (by
    refine sF (fun h => ?_)
    obtain ⟨g1, g2, g3⟩ := h.2.2.at hx1
    first | omega | exact dP_false.1 (by assumption) g1 ))
 <| fun q5 => have p5 := decF q5; .r 3 <| .br 43 (decide ((k : Int) > 0)) (fun q6 => have p6 := decT q6; .run 4 [b1 = b1, rng .i64 ((k : Int) - 1)] ⟨rfl, rng64 (by omega) (by omega), trivial⟩ <|
 .idxM f.l nodA (k - 1) (m := (k : Int) - 1) (by omega) (by omega) fun x2 hx2 =>
 have okx2 := okf.2.2 x2 (List.mem_of_getElem? hx2); .run 5 [b1 = b1] ⟨rfl, trivial⟩ <|
 .idx k (m := (k : Int)) (xs := f.l.map nodA) (e := nodA x1) rfl (map_some hx1) <|
 .r 5 <| .br 59 (decide (x2.ino ≥ x1.ino)) (fun q7 => have p7 := decT q7; .r 1 <| .fin (x := aB false) (r := aB (dP (rowsP f))) [] trivial (by
    refine sF (fun h => ?_)
    obtain ⟨g1, g2, g3⟩ := h.2.2.at hx1
    first | omega | exact dP_false.1 (by assumption) g1 | (have := g3 _ (by omega) hx2; omega)))
 <| fun q7 => have p7 := decF q7; .run 3 [rng .i64 ((k : Int) + 1)] ⟨rng64 (by omega) (by omega), trivial⟩ <|
 .back L1 k (k + 1) (show (k + 1) ≤ f.l.length ∧ AllTo (rowAt f) f.l (k + 1) from ⟨by omega, hH1.2.step hx1 ⟨dP_true.1 (by assumption), by omega, by intro d h0 hd; first | omega | (rw [hd] at hx2; obtain rfl := Option.some.inj hx2; omega)⟩⟩) (show f.l.length - (k + 1) < f.l.length - k from (by omega)) ⟨[(1, .ptr 1 b1 0), (3, aI ((k : Int) + 1))], [(1, .box b1 24 [.sl 5 false (f.l.map nodA), aI f.next])]⟩ ⟨Sub.refl _, Sub.of_eq (congrArg aI (by first | omega | rfl)), trivial⟩ ⟨⟨_, rfl, SubB.refl _⟩, trivial⟩)
 <| fun q6 => have p6 := decF q6; .r 16 <| .run 3 [rng .i64 ((k : Int) + 1)] ⟨rng64 (by omega) (by omega), trivial⟩ <|
 .back L1 k (k + 1) (show (k + 1) ≤ f.l.length ∧ AllTo (rowAt f) f.l (k + 1) from ⟨by omega, hH1.2.step hx1 ⟨dP_true.1 (by assumption), by omega, by intro d h0 hd; omega⟩⟩) (show f.l.length - (k + 1) < f.l.length - k from (by omega)) ⟨[(1, .ptr 1 b1 0), (3, aI ((k : Int) + 1))], [(1, .box b1 24 [.sl 5 false (f.l.map nodA), aI f.next])]⟩ ⟨Sub.refl _, Sub.of_eq (congrArg aI (by first | omega | rfl)), trivial⟩ ⟨⟨_, rfl, SubB.refl _⟩, trivial⟩)
 <| fun q3 => have p3 := decF q3; .r 1 <| .fin (x := aB true) (r := aB (dP (rowsP f))) [] trivial (by exact sT ⟨by omega, by omega, hH1.2.full (by omega)⟩)) a1 ha1) Try.func14 rfl (by kernel_rfl) (by kernel_rfl)
theorem fsy_eq {x y : Fsy} (h1 : x.l = y.l) (h2 : x.next = y.next) : x = y := by cases x; cases y; simp_all
set_option maxRecDepth 100000 in
set_option maxHeartbeats 4000000 in
theorem fsame_spec (f g : Fsy) (okf : OkF f) (okg : OkF g) : FSpec Try.prog 12 [.agg [.sl 5 false (f.l.map nodA), aI f.next], .agg [.sl 5 false (g.l.map nodA), aI g.next]] (aB (dP (f = g))) := by
  have hb1 := okf.2.1
  have hb2 := okg.2.1
  exact spec_vc (F := Try.f12) 400 (
 .new fun b1 => .new fun b2 => .r 1 <| .run 6 [b1 = b1, b2 = b2] ⟨rfl, rfl, trivial⟩ <|
 .br 12 (f.next != g.next) (fun q1 => have p1 := bneT q1; .r 8 <| .r 1 <| .fin (x := aB false) (r := aB (dP (f = g))) [] trivial (by exact sF (fun h => by subst h; omega)))
 <| fun q1 => have p1 := bneF q1; .run 3 [b1 = b1] ⟨rfl, trivial⟩ <|
 .val 15 (show (aI ((f.l.map nodA).length : Int) : AV) = aI (f.l.length : Int) from by rw [List.length_map]) <| .run 3 [b2 = b2] ⟨rfl, trivial⟩ <|
 .val 18 (show (aI ((g.l.map nodA).length : Int) : AV) = aI (g.l.length : Int) from by rw [List.length_map]) <| .r 2 <| .br 20 ((f.l.length : Int) != (g.l.length : Int)) (fun q2 => have p2 := bneT q2; .r 1 <| .fin (x := aB false) (r := aB (dP (f = g))) [] trivial (by exact sF (fun h => by subst h; omega)))
 <| fun q2 => have p2 := bneF q2; .r 1 <| let L1 : Lp (Nat) := ⟨fun a1 => ⟨[(2, .ptr 2 b1 0), (3, .ptr 3 b2 0), (5, aI (a1 : Int))], [(2, .box b1 24 [.sl 5 false (f.l.map nodA), aI f.next]), (3, .box b2 24 [.sl 5 false (g.l.map nodA), aI g.next])]⟩, fun a1 => f.l.length - a1, fun a1 => a1 ≤ f.l.length ∧ f.l.take a1 = g.l.take a1⟩
 .loop L1 0 (show 0 ≤ f.l.length ∧ f.l.take 0 = g.l.take 0 from ⟨Nat.zero_le _, rfl⟩) ⟨[(2, .ptr 2 b1 0), (3, .ptr 3 b2 0), (5, aI 0)], [(2, .box b1 24 [.sl 5 false (f.l.map nodA), aI f.next]), (3, .box b2 24 [.sl 5 false (g.l.map nodA), aI g.next])]⟩ ⟨Sub.refl _, Sub.refl _, Sub.of_eq (congrArg aI (by first | omega | rfl)), trivial⟩ ⟨⟨_, rfl, SubB.refl _⟩, ⟨_, rfl, SubB.refl _⟩, trivial⟩ fun a1 ha1 =>
 (fun (k : Nat) (hH1 : k ≤ f.l.length ∧ f.l.take k = g.l.take k) => .run 4 [b1 = b1] ⟨rfl, trivial⟩ <|
 .val 24 (show (aI ((f.l.map nodA).length : Int) : AV) = aI (f.l.length : Int) from by rw [List.length_map]) <| .r 1 <| .br 25 (decide ((k : Int) < (f.l.length : Int))) (fun q3 => have p3 := decT q3; .ord [0, 1, 2, 3, 4, 5, 6, 7, 8, 9, 10, 11] <| .run 3 [b1 = b1] ⟨rfl, trivial⟩ <|
 .idxM f.l nodA k (m := (k : Int)) rfl (by omega) fun x1 hx1 =>
 have okx1 := okf.2.2 x1 (List.mem_of_getElem? hx1); .run 4 [b2 = b2] ⟨rfl, trivial⟩ <|
 .idxM g.l nodA k (m := (k : Int)) rfl (by omega) fun x2 hx2 =>
 have okx2 := okg.2.2 x2 (List.mem_of_getElem? hx2); .r 1 <| .call (rnsame_spec x1 x2 okx1 okx2) <|
 .r 1 <| .r 2 <| .br 40 (!(dP (x1 = x2))) (fun q4 => have q4 := notT q4; have p4 := booF q4; .r 1 <| .fin (x := aB false) (r := aB (dP (f = g))) [] trivial (by
    refine sF (fun h => ?_)
    rw [h, hx2] at hx1
    obtain rfl := Option.some.inj hx1
    simp_all [dP_true, dP_false]))
 <| fun q4 => have q4 := notF q4; have p4 := booT q4; .run 3 [rng .i64 ((k : Int) + 1)] ⟨rng64 (by omega) (by omega), trivial⟩ <|
 .back L1 k (k + 1) (show (k + 1) ≤ f.l.length ∧ f.l.take (k + 1) = g.l.take (k + 1) from ⟨by omega, by rw [take_step hx1, take_step hx2, hH1.2]; first | (congr 2; done) | (congr 2; exact dP_true.1 (by assumption))⟩) (show f.l.length - (k + 1) < f.l.length - k from (by omega)) ⟨[(2, .ptr 2 b1 0), (3, .ptr 3 b2 0), (5, aI ((k : Int) + 1))], [(2, .box b1 24 [.sl 5 false (f.l.map nodA), aI f.next]), (3, .box b2 24 [.sl 5 false (g.l.map nodA), aI g.next])]⟩ ⟨Sub.refl _, Sub.refl _, Sub.of_eq (congrArg aI (by first | omega | rfl)), trivial⟩ ⟨⟨_, rfl, SubB.refl _⟩, ⟨_, rfl, SubB.refl _⟩, trivial⟩)
 <| fun q3 => have p3 := decF q3; .r 1 <| .fin (x := aB true) (r := aB (dP (f = g))) [] trivial (by
    refine sT (fsy_eq ?_ (by omega))
    have h := hH1.2
    rw [take_all (by omega), take_all (by omega)] at h
    exact h)) a1 ha1) Try.func12 rfl (by kernel_rfl) (by kernel_rfl)
def wN (n : Nod) : Nat := n.l.length
def fewF (f : Fsy) : Prop := f.l.length + (f.l.map wN).sum ≤ 200 ∧ ∀ n ∈ f.l, n.text.length ≤ 5000
def FewK (f : Fsy) (k n : Nat) : Prop := k ≤ f.l.length ∧ n = f.l.length + ((f.l.take k).map wN).sum ∧ (∀ m ∈ f.l.take k, m.text.length ≤ 5000) ∧ n ≤ 100000000000000
theorem few0 {f : Fsy} (h : f.l.length ≤ 8796093022207) : FewK f 0 f.l.length := ⟨Nat.zero_le _, by simp, fun m h => by simp at h, by omega⟩
theorem few_step {f : Fsy} {k n : Nat} {x : Nod} (h : FewK f k n) (hx : f.l[k]? = some x) (hn : n ≤ 200) (ht : x.text.length ≤ 5000) (hb : x.l.length ≤ 8796093022207) : FewK f (k + 1) (n + x.l.length) := by
  obtain ⟨h1, h2, h3, _⟩ := h
  refine ⟨lt_of_some hx, by rw [sum_take wN hx, h2]; simp only [wN]; omega, fun m hm => ?_, by omega⟩
  rcases mem_take_add hx hm with h | rfl
  · exact h3 m h
  · exact ht
theorem few_end {f : Fsy} {k n : Nat} (h : FewK f k n) (h3 : ¬ (k : Int) < f.l.length ∨ ¬ (n : Int) ≤ 200) : decide ((n : Int) ≤ 200) = true ↔ fewF f := by
  obtain ⟨hk, h1, h2, _⟩ := h
  rw [decide_eq_true_iff]
  refine ⟨fun hn => ?_, fun hf => ?_⟩
  · have hk' : f.l.length ≤ k := by omega
    rw [take_all hk'] at h1 h2
    exact ⟨by omega, h2⟩
  · have := hf.1
    have := sum_take_le wN f.l k
    omega
set_option maxRecDepth 100000 in
set_option maxHeartbeats 4000000 in
theorem few_spec (f : Fsy) (okf : OkF f) : FSpec Try.prog 13 [.agg [.sl 5 false (f.l.map nodA), aI f.next]] (aB (dP (fewF f))) := by
  have hfl := okf.2.1
  exact spec_vc (F := Try.f13) 400 (
 .new fun b1 => .r 1 <| .run 3 [b1 = b1] ⟨rfl, trivial⟩ <|
 .val 7 (show (aI ((f.l.map nodA).length : Int) : AV) = aI (f.l.length : Int) from by rw [List.length_map]) <| .r 1 <| .r 1 <| let L1 : Lp (Nat × Nat) := ⟨fun a1 => ⟨[(1, .ptr 1 b1 0), (4, aI (a1.1 : Int)), (3, aI (a1.2 : Int))], [(1, .box b1 24 [.sl 5 false (f.l.map nodA), aI f.next])]⟩, fun a1 => f.l.length - a1.1, fun a1 => FewK f a1.1 a1.2⟩
 .loop L1 (0, f.l.length) (show FewK f 0 f.l.length from (few0 hfl)) ⟨[(1, .ptr 1 b1 0), (4, aI 0), (3, aI (f.l.length : Int))], [(1, .box b1 24 [.sl 5 false (f.l.map nodA), aI f.next])]⟩ ⟨Sub.refl _, Sub.of_eq (congrArg aI (by first | omega | rfl)), Sub.refl _, trivial⟩ ⟨⟨_, rfl, SubB.refl _⟩, trivial⟩ fun a1 ha1 =>
 (fun (k : Nat) (n : Nat) (hH1 : FewK f k n) => have hk1 := hH1.1; have hk2 := hH1.2.2.2; .run 4 [b1 = b1] ⟨rfl, trivial⟩ <|
 .val 11 (show (aI ((f.l.map nodA).length : Int) : AV) = aI (f.l.length : Int) from by rw [List.length_map]) <| .r 2 <| .br 13 (decide ((k : Int) < (f.l.length : Int))) (fun q1 => have p1 := decT q1; .r 3 <| .br 16 (decide ((n : Int) ≤ 200)) (fun q2 => have p2 := decT q2; .run 4 [b1 = b1] ⟨rfl, trivial⟩ <|
 .idxM f.l nodA k (m := (k : Int)) rfl (by omega) fun x1 hx1 =>
 have okx1 := okf.2.2 x1 (List.mem_of_getElem? hx1); have blx1 := okx1.2.2.2.2.1; .r 3 <| .val 26 (show (aI ((x1.l.map entA).length : Int) : AV) = aI (x1.l.length : Int) from by rw [List.length_map]) <| .run 2 [rng .i64 ((n : Int) + (x1.l.length : Int))] ⟨rng64 (by omega) (by omega), trivial⟩ <|
 .run 3 [b1 = b1] ⟨rfl, trivial⟩ <|
 .idx k (m := (k : Int)) (xs := f.l.map nodA) (e := nodA x1) rfl (map_some hx1) <|
 .r 4 <| .br 35 (decide (((x1.text).length : Int) > 5000)) (fun q3 => have p3 := decT q3; .r 1 <| .fin (x := aB false) (r := aB (dP (fewF f))) [] trivial (by exact sF (fun h => by have := h.2 _ (List.mem_of_getElem? hx1); omega)))
 <| fun q3 => have p3 := decF q3; .run 3 [rng .i64 ((k : Int) + 1)] ⟨rng64 (by omega) (by omega), trivial⟩ <|
 .back L1 (k, n) ((k + 1), (n + x1.l.length)) (show FewK f (k + 1) (n + x1.l.length) from (few_step hH1 hx1 (by omega) (by omega) (by omega))) (show f.l.length - (k + 1) < f.l.length - k from (by omega)) ⟨[(1, .ptr 1 b1 0), (4, aI ((k : Int) + 1)), (3, aI ((n : Int) + (x1.l.length : Int)))], [(1, .box b1 24 [.sl 5 false (f.l.map nodA), aI f.next])]⟩ ⟨Sub.refl _, Sub.of_eq (congrArg aI (by first | omega | rfl)), Sub.of_eq (congrArg aI (by first | omega | rfl)), trivial⟩ ⟨⟨_, rfl, SubB.refl _⟩, trivial⟩)
 <| fun q2 => have p2 := decF q2; .r 3 <| .fin (x := aB (decide ((n : Int) ≤ 200))) (r := aB (dP (fewF f))) [] trivial (by exact sE (few_end hH1 (by omega))))
 <| fun q1 => have p1 := decF q1; .r 3 <| .r 3 <| .fin (x := aB (decide ((n : Int) ≤ 200))) (r := aB (dP (fewF f))) [] trivial (by exact sE (few_end hH1 (by omega)))) a1.1 a1.2 ha1) Try.func13 rfl (by kernel_rfl) (by kernel_rfl)
end Go.Proofs.Ytgcjfhgkkgocpaa

namespace Copyhold
def numB (n : Nat) : List UInt8 := if n < 128 then [UInt8.ofNat n] else UInt8.ofNat (n % 128 + 128) :: numB (n / 128)
termination_by n
decreasing_by omega
theorem numB_small {n : Nat} (h : n < 128) : numB n = [UInt8.ofNat n] := by rw [numB, if_pos h]
theorem numB_big {n : Nat} (h : ¬ n < 128) : numB n = UInt8.ofNat (n % 128 + 128) :: numB (n / 128) := by rw [numB, if_neg h]
theorem numB_pos (n : Nat) : 1 ≤ (numB n).length := by rw [numB]; split <;> simp
theorem numB_len (n : Nat) (k : Nat) (h : n < 2 ^ (7 * (k + 1))) : (numB n).length ≤ k + 1 := by
  induction k generalizing n with
  | zero => rw [numB_small (by simpa using h)]; simp
  | succ k ih =>
    by_cases hs : n < 128
    · rw [numB_small hs]; simp
    · rw [numB_big hs]
      simp only [List.length_cons]
      have := ih (n / 128) (by
        rw [Nat.div_lt_iff_lt_mul (by omega)]
        have e : 2 ^ (7 * (k + 1)) * 128 = 2 ^ (7 * (k + 1 + 1)) := by
          rw [show 7 * (k + 1 + 1) = 7 * (k + 1) + 7 from by omega, Nat.pow_add]
        omega)
      omega
theorem numB_len10 (n : Nat) (h : n < 18446744073709551616) : (numB n).length ≤ 10 := numB_len n 9 (by omega)
def textB (l : List UInt8) : List UInt8 := numB l.length ++ l
theorem textB_len (l : List UInt8) (h : l.length < 18446744073709551616) : (textB l).length ≤ l.length + 10 := by
  have := numB_len10 l.length h
  simp only [textB, List.length_append]; omega
theorem intercalate_nil : ∀ xs : List (List UInt8), List.intercalate [] xs = xs.flatten
  | [] => rfl
  | [x] => by simp [List.intercalate]
  | x :: y :: r => by
    have h := intercalate_nil (y :: r)
    simp only [List.intercalate, List.intersperse_cons_cons, List.flatten_cons, List.nil_append] at h ⊢
    rw [h]
def tnGo (k acc : Nat) : List UInt8 → Nat × List UInt8 × Int
  | [] => if k < 10 then (0, [], 2) else (0, [], 3)
  | b :: r => if k < 10 then
      (if b.toNat < 128 then (if k = 9 ∧ 1 < b.toNat ∨ 0 < k ∧ b.toNat = 0 then (0, [], 3) else (acc + b.toNat * 128 ^ k, r, 0))
       else tnGo (k + 1) (acc + (b.toNat % 128) * 128 ^ k) r)
    else (0, [], 3)
def takeNum (l : List UInt8) : Nat × List UInt8 × Int := tnGo 0 0 l
def takeCount (l : List UInt8) (most : Int) : Nat × List UInt8 × Int :=
  if (takeNum l).2.2 ≠ 0 then (0, [], (takeNum l).2.2) else if most < 0 ∨ most < ((takeNum l).1 : Int) then (0, [], 5) else takeNum l
def takeText (l : List UInt8) (most : Int) : List UInt8 × List UInt8 × Int :=
  if (takeCount l most).2.2 ≠ 0 then ([], [], (takeCount l most).2.2)
  else if (takeCount l most).2.1.length < (takeCount l most).1 then ([], [], 2)
  else ((takeCount l most).2.1.take (takeCount l most).1, (takeCount l most).2.1.drop (takeCount l most).1, 0)
theorem tnGo_bd : ∀ (l : List UInt8) (k acc : Nat), acc < 128 ^ k → k ≤ 10 → (tnGo k acc l).1 < 18446744073709551616 ∧ (tnGo k acc l).2.1.length ≤ l.length ∧ 0 ≤ (tnGo k acc l).2.2 ∧ (tnGo k acc l).2.2 ≤ 3
  | [], k, acc, _, _ => by rw [tnGo]; split <;> simp
  | b :: r, k, acc, h, hk => by
    rw [tnGo]
    have hb := b.toNat_lt
    split
    · split
      · split
        · simp
        · rename_i h1 h2 h3
          refine ⟨?_, by simp, by simp, by simp⟩
          show acc + b.toNat * 128 ^ k < _
          by_cases h9 : k = 9
          · subst h9
            have : b.toNat ≤ 1 := by omega
            have e : (128 : Nat) ^ 9 = 9223372036854775808 := by decide
            rw [e] at h ⊢
            have := Nat.mul_le_mul_right 9223372036854775808 this
            omega
          · have e : (128 : Nat) ^ k ≤ 128 ^ 8 := Nat.pow_le_pow_right (by decide) (by omega)
            have e8 : (128 : Nat) ^ 8 = 72057594037927936 := by decide
            rw [e8] at e
            have : b.toNat * 128 ^ k ≤ 127 * 72057594037927936 := Nat.mul_le_mul (by omega) e
            omega
      · rename_i h1 h2
        have := tnGo_bd r (k + 1) (acc + b.toNat % 128 * 128 ^ k) (by
          have e : (128 : Nat) ^ (k + 1) = 128 ^ k * 128 := Nat.pow_succ ..
          have hm : b.toNat % 128 ≤ 127 := by omega
          have := Nat.mul_le_mul_right (128 ^ k) hm
          omega) (by omega)
        simp only [List.length_cons]
        omega
    · simp
theorem takeNum_bd (l : List UInt8) : (takeNum l).1 < 18446744073709551616 ∧ (takeNum l).2.1.length ≤ l.length ∧ 0 ≤ (takeNum l).2.2 ∧ (takeNum l).2.2 ≤ 3 := tnGo_bd l 0 0 (by decide) (by decide)
theorem takeCount_bd (l : List UInt8) (most : Int) : (takeCount l most).1 < 18446744073709551616 ∧ (takeCount l most).2.1.length ≤ l.length ∧ 0 ≤ (takeCount l most).2.2 ∧ (takeCount l most).2.2 ≤ 5 := by
  have := takeNum_bd l
  unfold takeCount
  split
  · simp; omega
  · split
    · simp
    · omega
theorem takeText_bd (l : List UInt8) (most : Int) : (takeText l most).1.length ≤ l.length ∧ (takeText l most).2.1.length ≤ l.length ∧ 0 ≤ (takeText l most).2.2 ∧ (takeText l most).2.2 ≤ 5 := by
  have := takeCount_bd l most
  unfold takeText
  split
  · simp; omega
  · split
    · simp
    · simp only [List.length_take, List.length_drop]
      omega
end Copyhold

namespace Copyhold
theorem pow9 : (128 : Nat) ^ 9 = 9223372036854775808 := by decide
theorem tnGo_numB : ∀ (n k acc : Nat) (more : List UInt8), n * 128 ^ k < 18446744073709551616 → (k = 0 ∨ 0 < n) → tnGo k acc (numB n ++ more) = (acc + n * 128 ^ k, more, 0) := by
  intro n
  induction n using Nat.strongRecOn with
  | _ n ih =>
    intro k acc more hn h0
    have hk : k ≤ 9 := by
      rcases h0 with rfl | h0
      · omega
      · by_cases hk : k ≤ 9
        · exact hk
        · have h1 : (128 : Nat) ^ 10 ≤ 128 ^ k := Nat.pow_le_pow_right (by decide) (by omega)
          have h2 : 1 * 128 ^ k ≤ n * 128 ^ k := Nat.mul_le_mul_right _ h0
          have h3 : (128 : Nat) ^ 10 = 1180591620717411303424 := by decide
          omega
    have hk9 : k = 9 → n ≤ 1 := by
      rintro rfl
      rw [pow9] at hn
      omega
    by_cases hs : n < 128
    · rw [numB_small hs]
      have e : (UInt8.ofNat n).toNat = n := by simp; omega
      rw [List.cons_append, List.nil_append, tnGo, if_pos (by omega), e, if_pos hs, if_neg (by omega)]
    · rw [numB_big hs]
      have e : (UInt8.ofNat (n % 128 + 128)).toNat = n % 128 + 128 := by simp; omega
      rw [List.cons_append, tnGo, if_pos (by omega), e, if_neg (by omega)]
      have hd : n / 128 * 128 ^ (k + 1) + n % 128 * 128 ^ k = n * 128 ^ k := by
        rw [Nat.pow_succ, Nat.mul_comm (128 ^ k) 128, ← Nat.mul_assoc, ← Nat.add_mul]
        congr 1
        omega
      rw [ih (n / 128) (by omega) (k + 1) _ more (by omega) (.inr (by omega))]
      have : (n % 128 + 128) % 128 = n % 128 := by omega
      rw [this]
      congr 1
      omega
theorem takeNum_numB (n : Nat) (more : List UInt8) (h : n < 18446744073709551616) : takeNum (numB n ++ more) = (n, more, 0) := by
  unfold takeNum
  rw [tnGo_numB n 0 0 more (by simpa using h) (.inl rfl)]
  simp
theorem tnGo_laid : ∀ (l : List UInt8) (k acc : Nat), (tnGo k acc l).2.2 = 0 → ∃ n, (k = 0 ∨ 0 < n) ∧ (tnGo k acc l).1 = acc + n * 128 ^ k ∧ l = numB n ++ (tnGo k acc l).2.1
  | [], k, acc, h => by rw [tnGo] at h; split at h <;> simp at h
  | b :: r, k, acc, h => by
    have hb := b.toNat_lt
    rw [tnGo] at h ⊢
    split at h
    · rename_i h1
      rw [if_pos h1]
      split at h
      · rename_i h2
        rw [if_pos h2]
        split at h
        · simp at h
        · rename_i h3
          rw [if_neg h3]
          refine ⟨b.toNat, by omega, rfl, ?_⟩
          rw [numB_small h2]
          simp
      · rename_i h2
        rw [if_neg h2]
        obtain ⟨n, hn0, hn1, hn2⟩ := tnGo_laid r _ _ h
        have hn : 0 < n := by rcases hn0 with h | h <;> omega
        refine ⟨n * 128 + b.toNat % 128, .inr (by omega), ?_, ?_⟩
        · rw [hn1, Nat.pow_succ, Nat.add_mul, Nat.mul_comm (128 ^ k) 128, ← Nat.mul_assoc]
          omega
        · rw [numB_big (by omega), show (n * 128 + b.toNat % 128) / 128 = n from by omega, show (n * 128 + b.toNat % 128) % 128 + 128 = b.toNat from by omega, List.cons_append, ← hn2]
          simp
    · simp at h
theorem takeNum_laid (l : List UInt8) (h : (takeNum l).2.2 = 0) : l = numB (takeNum l).1 ++ (takeNum l).2.1 := by
  obtain ⟨n, _, h1, h2⟩ := tnGo_laid l 0 0 h
  have : (takeNum l).1 = n := by rw [takeNum, h1]; simp
  rw [this]
  exact h2
theorem takeCount_numB (n : Nat) (most : Int) (more : List UInt8) (h : n < 18446744073709551616) :
    takeCount (numB n ++ more) most = if most < 0 ∨ most < (n : Int) then (0, [], 5) else (n, more, 0) := by
  unfold takeCount
  rw [takeNum_numB n more h]
  simp
theorem takeText_textB (l : List UInt8) (most : Int) (more : List UInt8) (h : l.length < 18446744073709551616) :
    takeText (textB l ++ more) most = if most < 0 ∨ most < (l.length : Int) then ([], [], 5) else (l, more, 0) := by
  unfold takeText textB
  rw [List.append_assoc, takeCount_numB _ most _ h]
  split
  · simp
  · simp
theorem takeText_laid (l : List UInt8) (most : Int) (h : (takeText l most).2.2 = 0) : l = textB (takeText l most).1 ++ (takeText l most).2.1 ∧ ((takeText l most).1.length : Int) ≤ most := by
  unfold takeText at h ⊢
  split at h
  · rename_i h1; exact absurd h h1
  · rename_i h1
    rw [if_neg h1]
    have h1' : (takeCount l most).2.2 = 0 := by simpa using h1
    split at h
    · simp at h
    · rename_i h2
      rw [if_neg h2]
      have hl : l = numB (takeCount l most).1 ++ (takeCount l most).2.1 ∧ ((takeCount l most).1 : Int) ≤ most := by
        unfold takeCount at h1' ⊢
        split at h1'
        · rename_i h3; exact absurd h1' h3
        · rename_i h3
          rw [if_neg h3]
          split at h1'
          · simp at h1'
          · rename_i h4
            rw [if_neg h4]
            exact ⟨takeNum_laid l h1', by omega⟩
      obtain ⟨hl, hm⟩ := hl
      have hlen : ((takeCount l most).2.1.take (takeCount l most).1).length = (takeCount l most).1 := by
        rw [List.length_take]; omega
      simp only
      refine ⟨?_, by omega⟩
      unfold textB
      rw [hlen, List.append_assoc, List.take_append_drop]
      exact hl
end Copyhold

namespace Copyhold
theorem tnGo_cut : ∀ (n k acc c : Nat), c < (numB n).length → k + (numB n).length ≤ 10 → tnGo k acc ((numB n).take c) = (0, [], 2) := by
  intro n
  induction n using Nat.strongRecOn with
  | _ n ih =>
    intro k acc c hc hk
    have hp := numB_pos n
    cases c with
    | zero => rw [List.take_zero, tnGo, if_pos (by omega)]
    | succ c =>
      by_cases hs : n < 128
      · rw [numB_small hs] at hc
        simp at hc
      · rw [numB_big hs] at hc hk ⊢
        simp only [List.length_cons] at hc hk
        have e : (UInt8.ofNat (n % 128 + 128)).toNat = n % 128 + 128 := by simp; omega
        rw [List.take_succ_cons, tnGo, if_pos (by omega), e, if_neg (by omega)]
        exact ih (n / 128) (by omega) _ _ c (by omega) (by omega)
theorem takeNum_cut (n c : Nat) (h : n < 18446744073709551616) (hc : c < (numB n).length) : takeNum ((numB n).take c) = (0, [], 2) :=
  tnGo_cut n 0 0 c hc (by have := numB_len10 n h; omega)
theorem takeCount_cut (n c : Nat) (most : Int) (h : n < 18446744073709551616) (hc : c < (numB n).length) : takeCount ((numB n).take c) most = (0, [], 2) := by
  unfold takeCount
  rw [takeNum_cut n c h hc]
  simp
theorem takeText_cut (l : List UInt8) (most : Int) (c : Nat) (h : l.length < 18446744073709551616) (hm : (l.length : Int) ≤ most) (hc : c < (textB l).length) : takeText ((textB l).take c) most = ([], [], 2) := by
  unfold textB at hc ⊢
  rw [List.length_append] at hc
  unfold takeText
  by_cases h1 : c < (numB l.length).length
  · rw [List.take_append_of_le_length (by omega), takeCount_cut _ _ _ h h1]
    simp
  · rw [List.take_append, List.take_of_length_le (by omega), takeCount_numB _ _ _ h, if_neg (show ¬ (most < 0 ∨ most < (l.length : Int)) by omega), if_neg (by simp)]
    simp only
    rw [if_pos (by rw [List.length_take]; omega)]
end Copyhold

set_option linter.unusedVariables false
namespace Copyhold.Name
structure Nd where
  ino : Int
  kind : Int
  links : Int
  text : List UInt8
  l : List Ent
def rightN (n : Nd) : Bool := decide (1 ≤ n.ino) && decide (0 ≤ n.links) && decide (n.links ≤ 64) && (if n.kind = 2 then n.text == [] && rightE n.l else if n.kind = 1 ∨ n.kind = 3 then decide (n.text.length ≤ 4096) && n.l == [] else false)
end Copyhold.Name

set_option linter.unusedVariables false
namespace Go.Proofs.Ytgcjfhgkkgocpaa
open Go.RowKit Copyhold Copyhold.Name
end Go.Proofs.Ytgcjfhgkkgocpaa

set_option linter.unusedVariables false
namespace Go.Proofs.Ytgcjfhgkkgocpaa
open Go.RowKit Copyhold Copyhold.Name
theorem rightE_step {l : List Name.Ent} {k : Nat} (h : (List.range k).all (okAt l) = true) : (List.range (k + 1)).all (okAt l) = okAt l k := by
  rw [List.range_succ, List.all_append, h, Bool.true_and]
  simp
theorem rightE_bad {l : List Name.Ent} {k : Nat} (hk : k < l.length) (h : okAt l k = false) : rightE l = false := by
  rw [Bool.eq_false_iff]
  intro hr
  simp only [rightE, Bool.and_eq_true, List.all_eq_true, List.mem_range] at hr
  rw [hr.2 k hk] at h
  cases h
theorem rightE_full {l : List Name.Ent} (hl : l.length ≤ 256) (h : (List.range l.length).all (okAt l) = true) : rightE l = true := by
  simp [rightE, hl, h]
theorem rightE_long {l : List Name.Ent} (hl : ¬ l.length ≤ 256) : rightE l = false := by
  simp [rightE, hl]
theorem okAt_cases (l : List Name.Ent) (k : Nat) (hk : k < l.length) :
    (okN l[k].1 = false ∧ okAt l k = false) ∨ (okN l[k].1 = true ∧ l[k].2 < 1 ∧ okAt l k = false) ∨
    (okN l[k].1 = true ∧ 1 ≤ l[k].2 ∧ k = 0 ∧ okAt l k = true) ∨ (okN l[k].1 = true ∧ 1 ≤ l[k].2 ∧ 0 < k ∧ okAt l k = Op.bytesLess (l.getD (k - 1) ([], 0)).1 l[k].1) := by
  have e : okAt l k = (okE l[k] && upAt l k l[k]) := by rw [okAt, List.getElem?_eq_getElem hk]
  cases h1 : okN l[k].1
  · exact .inl ⟨rfl, by rw [e]; simp [okE, h1]⟩
  · by_cases h2 : l[k].2 < 1
    · exact .inr (.inl ⟨rfl, h2, by rw [e]; simp only [okE, h1]; rw [decide_eq_false (by omega)]; rfl⟩)
    · have h3 : okE l[k] = true := by simp only [okE, h1]; rw [decide_eq_true (by omega)]; rfl
      rw [h3, Bool.true_and] at e
      by_cases h4 : k = 0
      · exact .inr (.inr (.inl ⟨rfl, by omega, h4, by rw [e]; subst h4; rfl⟩))
      · refine .inr (.inr (.inr ⟨rfl, by omega, by omega, ?_⟩))
        rw [e, upAt, less_eq, show (k == 0) = false from by simpa using h4, Bool.false_or, List.getElem?_eq_getElem (by omega), gete l (k - 1) (by omega)]
end Go.Proofs.Ytgcjfhgkkgocpaa

set_option linter.unusedVariables false
namespace Go.Proofs.Ytgcjfhgkkgocpaa
open Go.RowKit Copyhold Copyhold.Name
set_option maxHeartbeats 4000000 in
theorem name_Right (l : List Name.Ent) (A : Option Addr) (c : Nat) (w : World) (hl : Ents w (.slice A l.length c) l) (ho : OkEnts l) (hn : l.length ≤ 5864062014634) :
    Calls Try.prog 64 #[.slice A l.length c] w fun e w' => e = .returned (.bool (rightE l)) ∧ Below w.heap.size w w' := by
  by_cases hlen : l.length ≤ 256
  · have HL := Lib.hid hl
    have HO := Lib.hid ho
    clear hl ho
    go_enter Try.func64, Try.ntmps64
    go_wp2_with fail
    go_loopw [10] (fun si wr => ∃ k : Nat, si = .int .i64 k ∧ k ≤ l.length ∧ (List.range k).all (okAt l) = true ∧ Below w.heap.size w wr) (fun si _ => l.length - (intOf si).toNat)
    case atStart => exact ⟨0, rfl, Nat.zero_le _, rfl, Below.refl _ _⟩
    case round =>
      obtain ⟨k, rfl, hk, hp, hb⟩ := hrel
      have hbz := hb.size
      have HBB := Lib.hid hb
      clear hb
      have HST := Lib.hid (rightE_step hp)
      have HP := Lib.hid hp
      clear hp
      by_cases hlt : k < l.length
      · have hcs := okAt_cases l k hlt
        have hbad := rightE_bad (k := k) hlt
        have hok := HO.out l[k] (List.getElem_mem hlt)
        obtain ⟨ho1, ho2, ho3⟩ := hok
        obtain ⟨b, off, rfl, hbk, hc, hc1, hc2⟩ := Ents.at (w := wr) (HL.out.below HBB.out) k hlt
        have hprev : 0 < k → wr.cell? ⟨b, off + (k - 1) * 2, none⟩ = some (.string ⟨((l.getD (k - 1) ([], 0)).1).toArray⟩) := fun h0 => by
          obtain ⟨b', off', he, _, _, hc3, _⟩ := Ents.at (w := wr) (HL.out.below HBB.out) (k - 1) (by omega)
          injection he with he
          injection he with e1 e2
          subst e1 e2
          rw [gete l (k - 1) (by omega)]
          exact hc3
        have hki : (k : Int) < (l.length : Int) := by omega
        have hk0 : (0 : Int) ≤ (k : Int) := by omega
        have HBAD := Lib.hid hbad
        have HPREV := Lib.hid hprev
        clear hbad hprev
        generalize l[k] = x at *
        generalize (l.getD (k - 1) ([], 0)).1 = y at *
        have HC2 := Lib.hid hc2
        rcases hcs with ⟨h1, h2⟩ | ⟨h1, h2, h3⟩ | ⟨h1, h2, h3, h4⟩ | ⟨h1, h2, h3, h4⟩
        · have HR := Lib.hid (HBAD.out h2)
          have HC := Lib.hid (name_Check x.1 (wr.alloc (.cells #[.string ⟨x.1.toArray⟩, .int .i64 x.2] 93)) ho1)
          rw [checkD, h1] at HC
          clear h1 h2
          go_wp2_with fail
          refine HC.out.mono ?_
          rintro e w1 ⟨rfl, rfl⟩
          go_wp2_with fail
          go_ret
          exact ⟨by rw [HR.out]; rfl, HBB.out.alloc HBB.out.size _⟩
        · have HR := Lib.hid (HBAD.out h3)
          have HC := Lib.hid (name_Check x.1 (wr.alloc (.cells #[.string ⟨x.1.toArray⟩, .int .i64 x.2] 93)) ho1)
          rw [checkD, h1] at HC
          clear h1 h3
          go_wp2_with fail
          refine HC.out.mono ?_
          rintro e w1 ⟨rfl, rfl⟩
          go_wp2_with fail
          go_ret
          exact ⟨by rw [HR.out]; rfl, HBB.out.alloc HBB.out.size _⟩
        · have HS2 := Lib.hid (HST.out.trans h4)
          have HC := Lib.hid (name_Check x.1 (wr.alloc (.cells #[.string ⟨x.1.toArray⟩, .int .i64 x.2] 93)) ho1)
          rw [checkD, h1] at HC
          subst h3
          rw [Nat.zero_mul, Nat.add_zero] at hc1 hc2
          have hd : decide (x.2 < 1) = false := by simpa using h2
          clear h1 h4
          go_wp2_with fail
          refine HC.out.mono ?_
          rintro e w1 ⟨rfl, rfl⟩
          go_wp2_with fail
          go_quiet (fail)
          go_wp2_with fail
          go_roundw
          case rel => exact ⟨1, by go_num, by omega, HS2.out, below_dn (HBB.out.alloc HBB.out.size _) _⟩
          case measure => simp [intOf]; omega
        · have hc3 := HPREV.out h3
          have hk1 : (0 : Int) < (k : Int) := by omega
          have hkm : IntKind.i64.wrap ((k : Int) - 1) = (k : Int) - 1 := IntWalk.i64_in _ (by omega)
          have hk2 : (0 : Int) ≤ (k : Int) - 1 := by omega
          have hk4 : (k : Int) - 1 < (l.length : Int) := by omega
          have hk3 : ((k : Int) - 1).toNat = k - 1 := by omega
          have hd : decide (x.2 < 1) = false := by simpa using h2
          cases hq : Op.bytesLess y x.1
          · have HR := Lib.hid (HBAD.out (h4.trans hq))
            have HC := Lib.hid (name_Check x.1 (wr.alloc (.cells #[.string ⟨x.1.toArray⟩, .int .i64 x.2] 93)) ho1)
            rw [checkD, h1] at HC
            clear h1 h4
            go_wp2_with fail
            refine HC.out.mono ?_
            rintro e w1 ⟨rfl, rfl⟩
            go_wp2_with fail
            go_quiet (fail)
            go_wp2_with fail
            go_ret
            exact ⟨by rw [HR.out]; rfl, below_dn (HBB.out.alloc HBB.out.size _) _⟩
          · have HS2 := Lib.hid (HST.out.trans (h4.trans hq))
            have HC := Lib.hid (name_Check x.1 (wr.alloc (.cells #[.string ⟨x.1.toArray⟩, .int .i64 x.2] 93)) ho1)
            rw [checkD, h1] at HC
            clear h1 h4
            go_wp2_with fail
            refine HC.out.mono ?_
            rintro e w1 ⟨rfl, rfl⟩
            go_wp2_with fail
            go_quiet (fail)
            go_wp2_with fail
            go_roundw
            case rel => exact ⟨k + 1, by go_num, by omega, HS2.out, below_dn (HBB.out.alloc HBB.out.size _) _⟩
            case measure => simp [intOf]; omega
      · have hfin := rightE_full hlen (by rw [show l.length = k from by omega]; exact HP.out)
        have HF := Lib.hid hfin
        clear hfin
        go_wp2_with fail
        go_ret
        exact ⟨by rw [HF.out]; rfl, HBB.out⟩
  · have HF := Lib.hid (rightE_long hlen)
    go_enter Try.func64, Try.ntmps64
    go_wp2_with fail
    go_ret
    exact ⟨by rw [HF.out]; rfl, Below.refl _ _⟩
end Go.Proofs.Ytgcjfhgkkgocpaa

set_option linter.unusedVariables false
namespace Go.Proofs.Ytgcjfhgkkgocpaa
open Go.RowKit Copyhold Copyhold.Name
theorem textElem : Elem Try.prog 74 9 (.string ⟨#[]⟩) 1 16 :=
  ⟨Try.underlying74, by kernel_rfl, by kernel_rfl, by decide⟩
end Go.Proofs.Ytgcjfhgkkgocpaa
