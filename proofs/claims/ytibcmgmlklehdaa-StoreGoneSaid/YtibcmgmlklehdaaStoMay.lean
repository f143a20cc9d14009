/- ref12.May: changes that may be installed. -/
import Derived.Test.YtibcmgmlklehdaaStoIn2
set_option linter.unusedVariables false
set_option linter.unusedSimpArgs false
namespace Go.Proofs.Ytibcmgmlklehdaa
open Go Go.RowKit Copyhold
def nodG (c : Chg) : Nod := ⟨c.ino, c.n.kind, c.n.links, c.n.text, c.n.l⟩
def mayG (_ : Nat) (c : Chg) : Prop := 1 ≤ c.ino ∧ (c.gone = false → nodP (nodG c))
def mayP (cs : List Chg) : Prop := cs.length ≤ 40 ∧ AllQ mayG cs
def OkCh (c : Chg) : Prop := I64 c.ino ∧ OkN c.n
theorem nodG_ok {c : Chg} (h : OkCh c) : OkN (nodG c) := ⟨h.1, h.2.2⟩
set_option maxRecDepth 100000 in
set_option maxHeartbeats 4000000 in
theorem may_spec (cs : List Chg) (next : Int) (hl : cs.length ≤ 8796093022207) (okc : ∀ c ∈ cs, OkCh c) : FSpec Try.prog 26 [.sl 7 false (cs.map chgA), aI next] (aB (dP (mayP cs))) := by
  exact spec_vc (F := Try.f26) 400 (
 .r 1 <| .r 1 <| let L1 : Lp (Nat) := ⟨fun a1 => ⟨[(0, .sl 7 false (cs.map chgA)), (5, aI (a1 : Int))], []⟩, fun a1 => cs.length - a1, fun a1 => a1 ≤ cs.length ∧ AllTo mayG cs a1⟩
 .loop L1 0 (show 0 ≤ cs.length ∧ AllTo mayG cs 0 from ⟨Nat.zero_le _, AllTo.zero _ _⟩) ⟨[(0, .sl 7 false (cs.map chgA)), (5, aI 0)], []⟩ ⟨Sub.refl _, Sub.of_eq (congrArg aI (by first | omega | rfl)), trivial⟩ trivial fun a1 ha1 =>
 (fun (k : Nat) (hH1 : k ≤ cs.length ∧ AllTo mayG cs k) => .r 3 <| .val 10 (show (aI ((cs.map chgA).length : Int) : AV) = aI (cs.length : Int) from by rw [List.length_map]) <| .r 1 <| .br 11 (decide ((k : Int) < (cs.length : Int))) (fun q1 => have p1 := decT q1; .r 2 <| .idxM cs chgA k (m := (k : Int)) rfl (by omega) fun x1 hx1 =>
 .r 2 <| .new fun b1 => .run 1 [b1 = b1] ⟨rfl, trivial⟩ <|
 .r 2 <| .idx k (m := (k : Int)) (xs := cs.map chgA) (e := chgA x1) rfl (map_some hx1) <|
 .run 4 [b1 = b1] ⟨rfl, trivial⟩ <|
 .run 1 [b1 = b1] ⟨rfl, trivial⟩ <|
 .callS (args0 := [.agg [aI x1.ino, aI x1.n.kind, aI x1.n.links, aS x1.n.text, .sl 2 false (x1.n.l.map entA)]]) (args := [.agg [aI ((nodG x1).ino), aI ((nodG x1).kind), aI ((nodG x1).links), aS ((nodG x1).text), .sl 2 false ((nodG x1).l.map entA)]]) ⟨Sub.refl _, trivial⟩ (rnright_spec (nodG x1) (nodG_ok (okc x1 (List.mem_of_getElem? hx1)))) <|
 .r 1 <| .r 2 <| .idx k (m := (k : Int)) (xs := cs.map chgA) (e := chgA x1) rfl (map_some hx1) <|
 .r 4 <| .br 33 (decide (x1.ino < 1)) (fun q2 => have p2 := decT q2; .r 11 <| .r 1 <| .fin (x := aB false) (r := aB (dP (mayP cs))) [] trivial (by
    refine sF (fun h => ?_)
    obtain ⟨g1, g2⟩ := h.2.at hx1
    first | omega | (have := g2 (by assumption); simp_all [dP_false])))
 <| fun q2 => have p2 := decF q2; .r 2 <| .idx k (m := (k : Int)) (xs := cs.map chgA) (e := chgA x1) rfl (map_some hx1) <|
 .r 4 <| .br 40 (!x1.gone) (fun q3 => have q3 := notT q3; have p3 := booF q3; .r 4 <| .br 44 (!(dP (nodP (nodG x1)))) (fun q4 => have q4 := notT q4; have p4 := booF q4; .r 1 <| .fin (x := aB false) (r := aB (dP (mayP cs))) [] trivial (by
    refine sF (fun h => ?_)
    obtain ⟨g1, g2⟩ := h.2.at hx1
    first | omega | (have := g2 (by assumption); simp_all [dP_false])))
 <| fun q4 => have q4 := notF q4; have p4 := booT q4; .run 3 [rng .i64 ((k : Int) + 1)] ⟨rng64 (by omega) (by omega), trivial⟩ <|
 .back L1 k (k + 1) (show (k + 1) ≤ cs.length ∧ AllTo mayG cs (k + 1) from ⟨by omega, hH1.2.step hx1 ⟨by omega, fun hg => by simp_all [dP_true]⟩⟩) (show cs.length - (k + 1) < cs.length - k from (by omega)) ⟨[(0, .sl 7 false (cs.map chgA)), (5, aI ((k : Int) + 1))], []⟩ ⟨Sub.refl _, Sub.of_eq (congrArg aI (by first | omega | rfl)), trivial⟩ trivial)
 <| fun q3 => have q3 := notF q3; have p3 := booT q3; .r 4 <| .run 3 [rng .i64 ((k : Int) + 1)] ⟨rng64 (by omega) (by omega), trivial⟩ <|
 .back L1 k (k + 1) (show (k + 1) ≤ cs.length ∧ AllTo mayG cs (k + 1) from ⟨by omega, hH1.2.step hx1 ⟨by omega, fun hg => by simp_all [dP_true]⟩⟩) (show cs.length - (k + 1) < cs.length - k from (by omega)) ⟨[(0, .sl 7 false (cs.map chgA)), (5, aI ((k : Int) + 1))], []⟩ ⟨Sub.refl _, Sub.of_eq (congrArg aI (by first | omega | rfl)), trivial⟩ trivial)
 <| fun q1 => have p1 := decF q1; .r 2 <| .val 46 (show (aI ((cs.map chgA).length : Int) : AV) = aI (cs.length : Int) from by rw [List.length_map]) <| .r 2 <| .fin (x := aB (decide ((cs.length : Int) ≤ 40))) (r := aB (dP (mayP cs))) [] trivial (by refine sE ⟨fun h => ⟨by have := of_decide_eq_true h; omega, hH1.2.full (by omega)⟩, fun h => decide_eq_true (by have := h.1; omega)⟩)) a1 ha1) Try.func26 rfl (by kernel_rfl) (by kernel_rfl)
end Go.Proofs.Ytibcmgmlklehdaa
