/- slices.Equal of entries, ref06.Same, node.Same, ref07.Same. -/
import Derived.Test.YtgcjfhgkkgocpaaNodV8
set_option linter.unusedVariables false
set_option linter.unusedSimpArgs false
namespace Go.Proofs.Ytgcjfhgkkgocpaa
open Go Go.RowKit Copyhold
theorem ent_eq {x y : Ent} (h1 : x.name = y.name) (h2 : x.ino = y.ino) : x = y := by cases x; cases y; simp_all
set_option maxRecDepth 100000 in
set_option maxHeartbeats 4000000 in
theorem reqE_spec (a b : List Ent) (ha : a.length ≤ 8796093022207) (hb : b.length ≤ 8796093022207) : FSpec Try.prog 37 [.sl 2 false (a.map entA), .sl 2 false (b.map entA)] (aB (dP (a = b))) := by
  exact spec_vc (F := Try.f37) 400 (
 .r 1 <| .r 2 <| .val 7 (show (aI ((a.map entA).length : Int) : AV) = aI (a.length : Int) from by rw [List.length_map]) <| .r 2 <| .val 9 (show (aI ((b.map entA).length : Int) : AV) = aI (b.length : Int) from by rw [List.length_map]) <| .r 1 <| .br 10 ((a.length : Int) != (b.length : Int)) (fun q1 => have p1 := bneT q1; .r 1 <| .fin (x := aB false) (r := aB (dP (a = b))) [] trivial (by exact sF (fun h => by have := congrArg List.length h; omega)))
 <| fun q1 => have p1 := bneF q1; .r 1 <| let L1 : Lp (Nat) := ⟨fun a1 => ⟨[(0, .sl 2 false (a.map entA)), (1, .sl 2 false (b.map entA)), (5, aI (a1 : Int))], []⟩, fun a1 => a.length - a1, fun a1 => a1 ≤ a.length ∧ a.take a1 = b.take a1⟩
 .loop L1 0 (show 0 ≤ a.length ∧ a.take 0 = b.take 0 from ⟨Nat.zero_le _, rfl⟩) ⟨[(0, .sl 2 false (a.map entA)), (1, .sl 2 false (b.map entA)), (5, aI 0)], []⟩ ⟨Sub.refl _, Sub.refl _, Sub.of_eq (congrArg aI (by first | omega | rfl)), trivial⟩ trivial fun a1 ha1 =>
 (fun (k : Nat) (hH1 : k ≤ a.length ∧ a.take k = b.take k) => .r 3 <| .val 13 (show (aI ((a.map entA).length : Int) : AV) = aI (a.length : Int) from by rw [List.length_map]) <| .r 1 <| .br 14 (decide ((k : Int) < (a.length : Int))) (fun q2 => have p2 := decT q2; .ord [0, 1, 2, 3, 4, 5, 6, 7, 8] <| .r 2 <| .idxM a entA k (m := (k : Int)) rfl (by omega) fun x1 hx1 =>
 .r 3 <| .idxM b entA k (m := (k : Int)) rfl (by omega) fun x2 hx2 =>
 .r 1 <| .eqS <| .br 25 (!((x1.name == x2.name) && ((x1.ino == x2.ino) && (true)))) (fun q3 => have q3 := notT q3; have p3 := booF q3; .r 1 <| .fin (x := aB false) (r := aB (dP (a = b))) [] trivial (by
    refine sF (fun h => ?_)
    rw [h, hx2] at hx1
    obtain rfl := Option.some.inj hx1
    simp_all))
 <| fun q3 => have q3 := notF q3; have p3 := booT q3; .run 3 [rng .i64 ((k : Int) + 1)] ⟨rng64 (by omega) (by omega), trivial⟩ <|
 .back L1 k (k + 1) (show (k + 1) ≤ a.length ∧ a.take (k + 1) = b.take (k + 1) from ⟨by omega, by rw [take_step hx1, take_step hx2, hH1.2]; congr 2; exact ent_eq (by simp_all) (by simp_all)⟩) (show a.length - (k + 1) < a.length - k from (by omega)) ⟨[(0, .sl 2 false (a.map entA)), (1, .sl 2 false (b.map entA)), (5, aI ((k : Int) + 1))], []⟩ ⟨Sub.refl _, Sub.refl _, Sub.of_eq (congrArg aI (by first | omega | rfl)), trivial⟩ trivial)
 <| fun q2 => have p2 := decF q2; .r 1 <| .fin (x := aB true) (r := aB (dP (a = b))) [] trivial (by
    refine sT ?_
    have h := hH1.2
    rw [take_all (by omega), take_all (by omega)] at h
    exact h)) a1 ha1) Try.func37 rfl (by kernel_rfl) (by kernel_rfl)
theorem nod_eq {x y : Nod} (h1 : x.ino = y.ino) (h2 : x.kind = y.kind) (h3 : x.links = y.links) (h4 : x.text = y.text) (h5 : x.l = y.l) : x = y := by cases x; cases y; simp_all
set_option maxRecDepth 100000 in
set_option maxHeartbeats 4000000 in
theorem rnsame_spec (a b : Nod) (oka : OkN a) (okb : OkN b) : FSpec Try.prog 21 [.agg [aI a.ino, aI a.kind, aI a.links, aS a.text, .sl 2 false (a.l.map entA)], .agg [aI b.ino, aI b.kind, aI b.links, aS b.text, .sl 2 false (b.l.map entA)]] (aB (dP (a = b))) := by
  have ha := oka.2.2.2.2.1
  have hb := okb.2.2.2.2.1
  exact spec_vc (F := Try.f21) 400 (
 .new fun b1 => .new fun b2 => .r 1 <| .run 4 [b1 = b1, b2 = b2] ⟨rfl, rfl, trivial⟩ <|
 .call (reqE_spec a.l b.l (by assumption) (by assumption)) <|
 .r 1 <| .r 2 <| .br 12 (dP (a.l = b.l)) (fun q1 => have p1 := booT q1; .run 7 [b1 = b1, b2 = b2] ⟨rfl, rfl, trivial⟩ <|
 .br 19 (a.ino == b.ino) (fun q2 => have p2 := beqT q2; .run 7 [b1 = b1, b2 = b2] ⟨rfl, rfl, trivial⟩ <|
 .br 26 (a.kind == b.kind) (fun q3 => have p3 := beqT q3; .run 7 [b1 = b1, b2 = b2] ⟨rfl, rfl, trivial⟩ <|
 .br 33 (a.links == b.links) (fun q4 => have p4 := beqT q4; .run 7 [b1 = b1, b2 = b2] ⟨rfl, rfl, trivial⟩ <|
 .fin (x := aB (a.text == b.text)) (r := aB (dP (a = b))) [] trivial (by
    refine sE ?_
    constructor
    · intro h
      simp only [Bool.and_eq_true, beq_iff_eq, dP_true] at *
      refine nod_eq ?_ ?_ ?_ ?_ ?_ <;> simp_all
    · intro h
      subst h
      simp_all [dP_true]))
 <| fun q4 => have p4 := beqF q4; .r 7 <| .fin (x := aB false) (r := aB (dP (a = b))) [] trivial (by
    refine sF (fun h => ?_)
    subst h
    simp_all [dP_false]))
 <| fun q3 => have p3 := beqF q3; .r 14 <| .fin (x := aB false) (r := aB (dP (a = b))) [] trivial (by
    refine sF (fun h => ?_)
    subst h
    simp_all [dP_false]))
 <| fun q2 => have p2 := beqF q2; .r 21 <| .fin (x := aB false) (r := aB (dP (a = b))) [] trivial (by
    refine sF (fun h => ?_)
    subst h
    simp_all [dP_false]))
 <| fun q1 => have p1 := booF q1; .r 28 <| .fin (x := aB false) (r := aB (dP (a = b))) [] trivial (by
    refine sF (fun h => ?_)
    subst h
    simp_all [dP_false])) Try.func21 rfl (by kernel_rfl) (by kernel_rfl)
end Go.Proofs.Ytgcjfhgkkgocpaa
