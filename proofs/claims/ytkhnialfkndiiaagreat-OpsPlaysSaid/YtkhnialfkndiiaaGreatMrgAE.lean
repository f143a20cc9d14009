import Derived.Test.YtkhnialfkndiiaaGreatChgA11
import Derived.Test.YtkhnialfkndiiaaGreatMrgI
import Derived.Test.YtkhnialfkndiiaaGreatMrgAD
import Derived.Test.YtkhnialfkndiiaaGreatMrgW
import Derived.Test.YtkhnialfkndiiaaGreatMrgAB
import Derived.Test.YtkhnialfkndiiaaGreatMrgAA
import Derived.Test.YtkhnialfkndiiaaGreatMrgAC
set_option maxRecDepth 100000
set_option maxHeartbeats 8000000
set_option linter.unusedVariables false
set_option linter.unusedSimpArgs false
namespace Go.Proofs.YtkhnialfkndiiaaGreat
open Go Go.RowKit Copyhold
theorem oapply_spec (f : Fsy) (cs : List Chg) (next : Int) (okf : OkF f) (hr : RiseN f.l) (hl : f.l.length + cs.length ≤ 80000) (hc : ∀ c ∈ cs, ApOk c) (hn : I64 next) : FSpec Tryz.prog 30 [.agg (fsyA f), .sl 7 false (cs.map chgA), aI next] (.agg (fsyA (applyD f cs next))) := by
 exact spec_vc (F := Tryz.f30) 400 (
 .new fun b1 => .new fun b2 => .r 2 <| .val 10 (show (aI ((cs.map chgA).length : Int) : AV) = aI (cs.length : Int) from by rw [List.length_map]) <| .r 1 <| let L1 : Lp (Nat) := ⟨fun a1 => ⟨[(2, aI next), (3, .ptr 3 b1 0), (6, .ptr 6 b2 0), (9, .sl 7 false (cs.map chgA)), (10, aI (cs.length : Int)), (11, aI (a1 : Int))], [(3, .box b1 24 [.sl 5 false ((apK f cs a1).l.map nodA), aI ((apK f cs a1).next)]), (6, .box b2 24 [aN, aI 0])]⟩, fun a1 => cs.length - a1, fun a1 => a1 ≤ cs.length⟩
 .loop L1 0 (show 0 ≤ cs.length from Nat.zero_le _) ⟨[(2, aI next), (3, .ptr 3 b1 0), (6, .ptr 6 b2 0), (9, .sl 7 false (cs.map chgA)), (10, aI (cs.length : Int)), (11, aI 0)], [(3, .box b1 24 (fsyA f)), (6, .box b2 24 [aN, aI 0])]⟩ ⟨sR, sR, sR, sR, sR, Sub.of_eq (congrArg aI (by first | omega | rfl)), trivial⟩ ⟨⟨_, rfl, SubB.of_eq rfl⟩, ⟨_, rfl, SubB.refl _⟩, trivial⟩ fun a1 ha1 =>
 (fun (k : Nat) (hH1 : k ≤ cs.length) => have apk := apK_keep okf hr hl hc k (by omega); have apl := apk.2.2; .r 1 <| .br 12 (decide ((k : Int) < (cs.length : Int))) (fun q1 => have p1 := decT q1; .idxM cs chgA k (m := (k : Int)) rfl (by omega) fun x1 hx1 =>
 have okcx1 := hc x1 (List.mem_of_getElem? hx1); .r 1 <| .new fun b3 => .run 1 [b3 = b3] rt1 <|
 .run 2 [b3 = b3] rt1 <|
 .br 16 (x1.gone) (fun q2 => have p2 := booT q2; .run 3 [b1 = b1, b3 = b3] rt2 <|
 .call (out_spec (apK f cs k) x1.ino (by omega) apk.2.1) <|
 .run 1 [b1 = b1] rt1 <|
 .run 2 [rng .i64 ((k : Int) + 1)] ⟨rng64 (by omega) (by omega), trivial⟩ <|
 .back L1 k (k + 1) (show (k + 1) ≤ cs.length from (by show _ ≤ _; omega)) (show cs.length - (k + 1) < cs.length - k from (by omega)) ⟨[(2, aI next), (3, .ptr 3 b1 0), (6, .ptr 6 b2 0), (9, .sl 7 false (cs.map chgA)), (10, aI (cs.length : Int)), (11, aI ((k : Int) + 1))], [(3, .box b1 24 [.sl 5 false ((outF (apK f cs k) x1.ino).l.map nodA), aI ((outF (apK f cs k) x1.ino).next)]), (6, .box b2 24 [aN, aI 0])]⟩ ⟨sR, sR, sR, sR, sR, Sub.of_eq (congrArg aI (by first | omega | rfl)), trivial⟩ ⟨⟨_, rfl, SubB.of_eq (by rw [apK_step hx1, show apD (apK f cs k) x1 = _ from if_pos q2])⟩, ⟨_, rfl, SubB.refl _⟩, trivial⟩)
 <| fun q2 => have p2 := booF q2; .run 3 [b1 = b1, b3 = b3] rt2 <|
 .call (put_spec (apK f cs k) x1.n ⟨okcx1.node.1, by have := okcx1.no; omega⟩ (by omega) apk.2.1) <|
 .run 1 [b1 = b1] rt1 <|
 .run 2 [rng .i64 ((k : Int) + 1)] ⟨rng64 (by omega) (by omega), trivial⟩ <|
 .back L1 k (k + 1) (show (k + 1) ≤ cs.length from (by show _ ≤ _; omega)) (show cs.length - (k + 1) < cs.length - k from (by omega)) ⟨[(2, aI next), (3, .ptr 3 b1 0), (6, .ptr 6 b2 0), (9, .sl 7 false (cs.map chgA)), (10, aI (cs.length : Int)), (11, aI ((k : Int) + 1))], [(3, .box b1 24 [.sl 5 false ((putF (apK f cs k) x1.n).l.map nodA), aI ((putF (apK f cs k) x1.n).next)]), (6, .box b2 24 [aN, aI 0])]⟩ ⟨sR, sR, sR, sR, sR, Sub.of_eq (congrArg aI (by first | omega | rfl)), trivial⟩ ⟨⟨_, rfl, SubB.of_eq (by rw [apK_step hx1, show apD (apK f cs k) x1 = _ from if_neg (by rw [q2]; decide)])⟩, ⟨_, rfl, SubB.refl _⟩, trivial⟩)
 <| fun q1 => have p1 := decF q1; .run 3 [b1 = b1] rt1 <|
 .op (mxR) ((apK f cs k).next, next, some 29) (fun (_ : Unit) σ => σ.put (some 29) (aI (if next > ((apK f cs k).next) then next else (apK f cs k).next))) (rule_mx) fun _ =>
 .run 2 [b1 = b1] rt1 <|
 .run 2 [b1 = b1, b2 = b2] rt2 <|
 .fin (x := .agg [.sl 5 false ((apK f cs k).l.map nodA), aI (if next > ((apK f cs k).next) then next else (apK f cs k).next)]) (r := .agg (fsyA (applyD f cs next))) [b2 = b2] rt1 (by
  unfold applyD maxD
  rw [show cs.length = k from by omega]
  exact sR)) a1 ha1) Tryz.func30 rfl (by kernel_rfl) (by kernel_rfl)
theorem rapply_spec (f : Fsy) (cs : List Chg) (next : Int) (okf : OkF f) (hr : RiseN f.l) (hl : f.l.length + cs.length ≤ 80000) (hc : ∀ c ∈ cs, ApOk c) (hn : I64 next) : FSpec Tryz.prog 31 [.agg (fsyA f), .sl 7 false (cs.map chgA), aI next] (.agg (fsyA (applyD f cs next))) := by
 exact spec_vc (F := Tryz.f31) 400 (
 .new fun b1 => .new fun b2 => .r 1 <| let L1 : Lp (Nat) := ⟨fun a1 => ⟨[(1, .sl 7 false (cs.map chgA)), (2, aI next), (3, .ptr 3 b1 0), (6, .ptr 6 b2 0), (7, aI (a1 : Int))], [(3, .box b1 24 [.sl 5 false ((apK f cs a1).l.map nodA), aI ((apK f cs a1).next)]), (6, .box b2 24 [aN, aI 0])]⟩, fun a1 => cs.length - a1, fun a1 => a1 ≤ cs.length⟩
 .loop L1 0 (show 0 ≤ cs.length from Nat.zero_le _) ⟨[(1, .sl 7 false (cs.map chgA)), (2, aI next), (3, .ptr 3 b1 0), (6, .ptr 6 b2 0), (7, aI 0)], [(3, .box b1 24 (fsyA f)), (6, .box b2 24 [aN, aI 0])]⟩ ⟨sR, sR, sR, sR, Sub.of_eq (congrArg aI (by first | omega | rfl)), trivial⟩ ⟨⟨_, rfl, SubB.of_eq rfl⟩, ⟨_, rfl, SubB.refl _⟩, trivial⟩ fun a1 ha1 =>
 (fun (k : Nat) (hH1 : k ≤ cs.length) => have apk := apK_keep okf hr hl hc k (by omega); have apl := apk.2.2; .r 3 <| .val 10 (show (aI ((cs.map chgA).length : Int) : AV) = aI (cs.length : Int) from by rw [List.length_map]) <| .r 1 <| .br 11 (decide ((k : Int) < (cs.length : Int))) (fun q1 => have p1 := decT q1; .r 2 <| .idxM cs chgA k (m := (k : Int)) rfl (by omega) fun x1 hx1 =>
 have okcx1 := hc x1 (List.mem_of_getElem? hx1); .r 2 <| .br 18 (x1.gone) (fun q2 => have p2 := booT q2; .ord [0, 1, 2, 3, 4, 5, 6, 7] <| .run 3 [b1 = b1] rt1 <|
 .idx k (m := (k : Int)) (xs := cs.map chgA) (e := chgA x1) rfl (map_some hx1) <|
 .r 2 <| .call (rout_spec (apK f cs k) x1.ino (by omega) apk.2.1) <|
 .run 1 [b1 = b1] rt1 <|
 .run 3 [rng .i64 ((k : Int) + 1)] ⟨rng64 (by omega) (by omega), trivial⟩ <|
 .back L1 k (k + 1) (show (k + 1) ≤ cs.length from (by show _ ≤ _; omega)) (show cs.length - (k + 1) < cs.length - k from (by omega)) ⟨[(1, .sl 7 false (cs.map chgA)), (2, aI next), (3, .ptr 3 b1 0), (6, .ptr 6 b2 0), (7, aI ((k : Int) + 1))], [(3, .box b1 24 [.sl 5 false ((outF (apK f cs k) x1.ino).l.map nodA), aI ((outF (apK f cs k) x1.ino).next)]), (6, .box b2 24 [aN, aI 0])]⟩ ⟨sR, sR, sR, sR, Sub.of_eq (congrArg aI (by first | omega | rfl)), trivial⟩ ⟨⟨_, rfl, SubB.of_eq (by rw [apK_step hx1, show apD (apK f cs k) x1 = _ from if_pos q2])⟩, ⟨_, rfl, SubB.refl _⟩, trivial⟩)
 <| fun q2 => have p2 := booF q2; .ord [0, 1, 2, 3, 4, 5, 6, 7] <| .run 3 [b1 = b1] rt1 <|
 .idx k (m := (k : Int)) (xs := cs.map chgA) (e := chgA x1) rfl (map_some hx1) <|
 .r 2 <| .call (rput_spec (apK f cs k) x1.n ⟨okcx1.node.1, by have := okcx1.no; omega⟩ (by omega) apk.2.1) <|
 .run 1 [b1 = b1] rt1 <|
 .run 3 [rng .i64 ((k : Int) + 1)] ⟨rng64 (by omega) (by omega), trivial⟩ <|
 .back L1 k (k + 1) (show (k + 1) ≤ cs.length from (by show _ ≤ _; omega)) (show cs.length - (k + 1) < cs.length - k from (by omega)) ⟨[(1, .sl 7 false (cs.map chgA)), (2, aI next), (3, .ptr 3 b1 0), (6, .ptr 6 b2 0), (7, aI ((k : Int) + 1))], [(3, .box b1 24 [.sl 5 false ((putF (apK f cs k) x1.n).l.map nodA), aI ((putF (apK f cs k) x1.n).next)]), (6, .box b2 24 [aN, aI 0])]⟩ ⟨sR, sR, sR, sR, Sub.of_eq (congrArg aI (by first | omega | rfl)), trivial⟩ ⟨⟨_, rfl, SubB.of_eq (by rw [apK_step hx1, show apD (apK f cs k) x1 = _ from if_neg (by rw [q2]; decide)])⟩, ⟨_, rfl, SubB.refl _⟩, trivial⟩)
 <| fun q1 => have p1 := decF q1; .run 4 [b1 = b1] rt1 <|
 .br 36 (decide (next > ((apK f cs k).next))) (fun q3 => have p3 := decT q3; .run 3 [b1 = b1] rt1 <|
 .run 2 [b1 = b1, b2 = b2] rt2 <|
 .fin (x := .agg [.sl 5 false ((apK f cs k).l.map nodA), aI next]) (r := .agg (fsyA (applyD f cs next))) [b2 = b2] rt1 (by
  unfold applyD maxD
  rw [show cs.length = k from by omega, if_pos (by omega)]
  exact sR))
 <| fun q3 => have p3 := decF q3; .run 2 [b1 = b1, b2 = b2] rt2 <|
 .fin (x := .agg [.sl 5 false ((apK f cs k).l.map nodA), aI ((apK f cs k).next)]) (r := .agg (fsyA (applyD f cs next))) [b2 = b2] rt1 (by
  unfold applyD maxD
  rw [show cs.length = k from by omega, if_neg (by omega)]
  exact sR)) a1 ha1) Tryz.func31 rfl (by kernel_rfl) (by kernel_rfl)
theorem chg_eq {x y : Chg} (h1 : x.n = y.n) (h2 : x.ino = y.ino) (h3 : x.gone = y.gone) : x = y := by cases x; cases y; simp_all
theorem turns_spec (a b : List Chg) (hl1 : a.length ≤ 1000000) (hl2 : b.length ≤ 1000000) (h1 : ∀ c ∈ a, ApOk c) (h2 : ∀ c ∈ b, ApOk c) : FSpec Tryz.prog 29 [.sl 7 false (a.map chgA), .sl 7 false (b.map chgA)] (aB (dP (a = b))) := by
 exact spec_vc (F := Tryz.f29) 400 (
 .r 1 <| .r 2 <| .val 8 (show (aI ((a.map chgA).length : Int) : AV) = aI (a.length : Int) from by rw [List.length_map]) <| .r 2 <| .val 10 (show (aI ((b.map chgA).length : Int) : AV) = aI (b.length : Int) from by rw [List.length_map]) <| .r 1 <| .br 11 ((a.length : Int) != (b.length : Int)) (fun q1 => have p1 := bneT q1; .r 1 <| .fin (x := aB false) (r := aB (dP (a = b))) [] trivial (by exact sF (fun h => by have := congrArg List.length h; omega)))
 <| fun q1 => have p1 := bneF q1; .r 1 <| let L1 : Lp (Nat) := ⟨fun a1 => ⟨[(0, .sl 7 false (a.map chgA)), (1, .sl 7 false (b.map chgA)), (5, aI (a1 : Int))], []⟩, fun a1 => a.length - a1, fun a1 => a1 ≤ a.length ∧ a.take a1 = b.take a1⟩
 .loop L1 0 (show 0 ≤ a.length ∧ a.take 0 = b.take 0 from ⟨Nat.zero_le _, rfl⟩) ⟨[(0, .sl 7 false (a.map chgA)), (1, .sl 7 false (b.map chgA)), (5, aI 0)], []⟩ ⟨sR, sR, Sub.of_eq (congrArg aI (by first | omega | rfl)), trivial⟩ trivial fun a1 ha1 =>
 (fun (k : Nat) (hH1 : k ≤ a.length ∧ a.take k = b.take k) => .r 3 <| .val 14 (show (aI ((a.map chgA).length : Int) : AV) = aI (a.length : Int) from by rw [List.length_map]) <| .r 1 <| .br 15 (decide ((k : Int) < (a.length : Int))) (fun q2 => have p2 := decT q2; .ord [0, 1, 2, 3, 4, 5, 6, 7, 8, 9, 10, 11] <| .r 2 <| .idxM a chgA k (m := (k : Int)) rfl (by omega) fun x1 hx1 =>
 have okx1 := h1 x1 (List.mem_of_getElem? hx1); .r 4 <| .idxM b chgA k (m := (k : Int)) rfl (by omega) fun x2 hx2 =>
 have okx2 := h2 x2 (List.mem_of_getElem? hx2); .r 2 <| .call (rnsame_spec x1.n x2.n okx1.node okx2.node) <|
 .r 1 <| .ord [0, 1, 2, 3, 4, 5, 6, 7, 8, 9, 10, 11, 12, 13, 14, 15, 16, 17, 18, 19, 20, 21, 22, 23, 24, 25, 26, 27] <| .r 3 <| .br 31 (!(dP (x1.n = x2.n))) (fun q3 => have q3 := notT q3; have p3 := booF q3; .r 25 <| .r 1 <| .fin (x := aB false) (r := aB (dP (a = b))) [] trivial (by
  refine sF (fun h => ?_)
  rw [h, hx2] at hx1
  obtain rfl := Option.some.inj hx1
  simp_all [dP_true, dP_false]))
 <| fun q3 => have q3 := notF q3; have p3 := booT q3; .r 2 <| .idx k (m := (k : Int)) (xs := a.map chgA) (e := chgA x1) rfl (map_some hx1) <|
 .r 4 <| .idx k (m := (k : Int)) (xs := b.map chgA) (e := chgA x2) rfl (map_some hx2) <|
 .r 5 <| .br 44 (x1.ino != x2.ino) (fun q4 => have p4 := bneT q4; .r 12 <| .r 1 <| .fin (x := aB false) (r := aB (dP (a = b))) [] trivial (by
  refine sF (fun h => ?_)
  rw [h, hx2] at hx1
  obtain rfl := Option.some.inj hx1
  simp_all [dP_true, dP_false]))
 <| fun q4 => have p4 := bneF q4; .r 2 <| .idx k (m := (k : Int)) (xs := a.map chgA) (e := chgA x1) rfl (map_some hx1) <|
 .r 4 <| .idx k (m := (k : Int)) (xs := b.map chgA) (e := chgA x2) rfl (map_some hx2) <|
 .r 4 <| .br 56 (!(x1.gone == x2.gone)) (fun q5 => have q5 := notT q5; have p5 := beqF q5; .r 1 <| .fin (x := aB false) (r := aB (dP (a = b))) [] trivial (by
  refine sF (fun h => ?_)
  rw [h, hx2] at hx1
  obtain rfl := Option.some.inj hx1
  simp_all [dP_true, dP_false]))
 <| fun q5 => have q5 := notF q5; have p5 := beqT q5; .run 3 [rng .i64 ((k : Int) + 1)] ⟨rng64 (by omega) (by omega), trivial⟩ <|
 .back L1 k (k + 1) (show (k + 1) ≤ a.length ∧ a.take (k + 1) = b.take (k + 1) from ⟨by omega, by rw [take_step hx1, take_step hx2, hH1.2]; first | (congr 2; done) | (congr 2; exact (chg_eq (by simp_all [dP_true]) (by simp_all) (by simp_all)))⟩) (show a.length - (k + 1) < a.length - k from (by omega)) ⟨[(0, .sl 7 false (a.map chgA)), (1, .sl 7 false (b.map chgA)), (5, aI ((k : Int) + 1))], []⟩ ⟨sR, sR, Sub.of_eq (congrArg aI (by first | omega | rfl)), trivial⟩ trivial)
 <| fun q2 => have p2 := decF q2; .r 1 <| .fin (x := aB true) (r := aB (dP (a = b))) [] trivial (by
  refine sT ?_
  have h := hH1.2
  rw [take_all (by omega), take_all (by omega)] at h
  exact h)) a1 ha1) Tryz.func29 rfl (by kernel_rfl) (by kernel_rfl)
end Go.Proofs.YtkhnialfkndiiaaGreat

namespace Go.Proofs.YtkhnialfkndiiaaGreat
open Go Go.RowKit Copyhold
open Copyhold.Name (Srt insE delE getE isAt)
theorem do_at {f g : Fsy} {c : Cal} {r : Rep} (okf : OkF f) (okc : OkCal c) (hp : rowsP f) (hx : f.next < 9223372036854775807) (h : doF f c = (g, r)) : FSpec Tryz.prog 14 [.agg (fsyA f), .agg (calA c)] (.tup [.agg (fsyA g), .agg (repA r)]) := by
 have := do_spec f c okf okc hp hx
 rw [h] at this
 exact this
theorem i0 : I64 0 := ⟨by decide, by decide⟩
theorem ismall {k : Int} (h : 0 ≤ k) (h2 : k ≤ 1000000) : I64 k := ⟨by omega, by omega⟩
def cA : Cal := ⟨6, 1, 0, 0, 0, [97], [], []⟩
theorem cA_ok : OkCal cA := ⟨ismall (by decide) (by decide), ismall (by decide) (by decide), i0, i0, i0, by show 1 ≤ _; omega, Nat.zero_le _, Nat.zero_le _⟩
noncomputable def fA : Fsy := addF newF 1 [97] (addN newF fileN)
theorem doA1 : doF newF cA = (fA, ⟨0, 2, 0, 0, [], []⟩) := by
 refine do_yes (x := (fA, ⟨0, 2, 0, 0, [], []⟩)) ?_ rfl
 rw [deed_6 rfl]
 show addO newF cA fileN = _
 unfold addO
 show ((if addErr newF 1 [97] fileN = 0 then _ else _), (⟨addErr newF 1 [97] fileN, _, _, _, _, _⟩ : Rep)) = _
 rw [add_new, if_pos rfl]
 rfl
theorem fA_facts : rowsP fA ∧ OkF fA ∧ fA.next = 3 ∧ (∃ d, atF fA 1 = some d ∧ d.kind = 2 ∧ d.l = [⟨[97], 2⟩]) ∧ (fA.l.length : Int) = 2 := by
 have hb := back_facts newF_rows add_new
 have ho := add_ok (n := fileN) (s := [97]) newF_ok newF_rows fileN_ok (by decide) add_new (by decide)
 refine ⟨hb.1, ho, ?_, ?_, ?_⟩
 ·obtain ⟨d, A⟩ := adds_of add_new
  have hr := rows_rise newF_rows
  have hroot : atF newF 1 = some rootN := rfl
  unfold fA addF
  rw [show (addN newF fileN).ino = 2 from rfl, enter_set hroot]
  rw [put_next2]
  ·rw [show (setL newF rootN (entL rootN.l [97] 2)).next = 2 from put_next (by decide)]; rfl
  ·rw [show (setL newF rootN (entL rootN.l [97] 2)).next = 2 from put_next (by decide)]; rfl
 ·have hroot : atF newF 1 = some rootN := rfl
  have he : entE rootN.l [97] 2 = 0 := entE_cases chk_a (by decide) rfl (by decide)
  have hl : entL rootN.l [97] 2 = [⟨[97], 2⟩] := by unfold entL; rw [if_pos he]; rfl
  have hk : rowP rootN.l := rowP_nil
  obtain ⟨s1, s2, s3, s4⟩ := setL_rows newF_rows hroot rfl (ent_row (n := 2) hk chk_a (by decide) rfl (by decide))
  refine ⟨withL rootN (entL rootN.l [97] 2), ?_, rfl, hl⟩
  unfold fA addF
  rw [show (addN newF fileN).ino = 2 from rfl, enter_set hroot, at_put (rows_rise s1), if_neg (by decide), s4, if_pos rfl]
 ·have := add_len
  rw [if_pos add_new] at this
  exact this
theorem doA2 : doF fA cA = (fA, errR 7) := by
 obtain ⟨h1, h2, h3, ⟨d, hd, hk, hl⟩, _⟩ := fA_facts
 obtain ⟨g1, g2⟩ := dir_of hd hk
 have he : addErr fA 1 [97] fileN = 7 := by
  unfold addErr
  rw [first5, if_pos g1, if_pos chk_a, g2, hl]
  rw [if_neg (by decide)]
  rfl
 have hde : deedF fA cA = addO fA cA fileN := deed_6 rfl
 have h7 : (addO fA cA fileN).2.e = 7 := he
 rw [do_no hde (by rw [h7]; decide), h7]
theorem looksA : looksU fA cA = [0, 1, 2] := by
 obtain ⟨h1, h2, h3, ⟨d, hd, hk, hl⟩, _⟩ := fA_facts
 obtain ⟨g1, g2⟩ := dir_of hd hk
 have h0 : dirE fA 0 = 6 := (dirE_6 (find_0 h1)).1
 have e : looksL fA cA = [1, 0, 2] := by
  show lk1 fA cA (lk1 fA cA [1, 0] 1) 0 = _
  have e1 : lk1 fA cA [1, 0] 1 = [1, 0, 2] := by
   unfold lk1
   rw [if_pos g1, g2, hl]
   rfl
  rw [e1]
  unfold lk1
  rw [if_neg (by rw [h0]; decide)]
 unfold looksU
 rw [if_neg (by decide), e]
 refine asc_ext (sortU_asc _) (by unfold Asc; simp) fun x => ?_
 rw [sortU_mem]
 constructor <;> (intro h; simp at h ⊢; omega)
theorem midF_few {f : Fsy} (hf : fewF f) : midF f := by
 have := hf.1
 unfold midF
 omega
theorem shown11  : FSpec Tryz.prog 11 [] (aB true) := by
 exact spec_vc (F := Tryz.f11) 400 (
 .r 1 <| .r 1 <| .new fun b1 => .run 1 [b1 = b1] rt1 <|
 let J1 : Jn (Nat × Nat) := ⟨fun j1 => ⟨[(0, aB false), (1, .ptr 1 b1 0), (2, .ptr 2 j1.1 0), (3, .ptr 3 j1.2 0)], [(1, .box b1 26 [aI 6, aI 1, aI 0, aI 0, aI 0, aS ([97]), aS ([]), aS ([])]), (2, .box j1.1 24 (fsyA fA)), (3, .box j1.2 30 [aI 0, aI 2, aI 0, aI 0, aS ([]), .sl 1 false (([] : List Txt).map txA)])]⟩, fun _ => True⟩
 .cut J1 (.pick [1] <| .run 1 [b1 = b1] rt1 <|
 .fork <| .alt (.call (rnew_spec) <|
 .fork <| .alt (.call (do_at newF_ok cA_ok newF_rows (by decide) doA1) <|
 .pick [3, 4, 5] <| .r 3 <| .fork <| .alt (.new fun b2 => .pick [7, 8, 9] <| .new fun b3 => .run 2 [b2 = b2, b3 = b3] rt2 <|
 .join J1 (b2, b3) trivial ⟨[(0, aB false), (1, .ptr 1 b1 0), (2, .ptr 2 b2 0), (3, .ptr 3 b3 0)], [(1, .box b1 26 [aI 6, aI 1, aI 0, aI 0, aI 0, aS ([97]), aS ([]), aS ([])]), (2, .box b2 24 (fsyA fA)), (3, .box b3 30 [aI 0, aI 2, aI 0, aI 0, aS ([]), .sl 1 false (([] : List Txt).map txA)])]⟩ sr4 ⟨⟨_, rfl, SubB.refl _⟩, ⟨_, rfl, SubB.refl _⟩, ⟨_, rfl, SubB.refl _⟩, trivial⟩)
 <| .new fun b4 => .pick [6, 8, 9] <| .new fun b5 => .run 2 [b5 = b5, b4 = b4] rt2 <|
 .join J1 (b5, b4) trivial ⟨[(0, aB false), (1, .ptr 1 b1 0), (2, .ptr 2 b5 0), (3, .ptr 3 b4 0)], [(1, .box b1 26 [aI 6, aI 1, aI 0, aI 0, aI 0, aS ([97]), aS ([]), aS ([])]), (2, .box b5 24 (fsyA fA)), (3, .box b4 30 [aI 0, aI 2, aI 0, aI 0, aS ([]), .sl 1 false (([] : List Txt).map txA)])]⟩ sr4 ⟨⟨_, rfl, SubB.refl _⟩, ⟨_, rfl, SubB.refl _⟩, ⟨_, rfl, SubB.refl _⟩, trivial⟩)
 <| .alt (.new fun b6 => .fork <| .alt (.call (do_at newF_ok cA_ok newF_rows (by decide) doA1) <|
 .pick [3, 4, 5, 7, 8, 9] <| .r 3 <| .new fun b7 => .run 2 [b6 = b6, b7 = b7] rt2 <|
 .join J1 (b6, b7) trivial ⟨[(0, aB false), (1, .ptr 1 b1 0), (2, .ptr 2 b6 0), (3, .ptr 3 b7 0)], [(1, .box b1 26 [aI 6, aI 1, aI 0, aI 0, aI 0, aS ([97]), aS ([]), aS ([])]), (2, .box b6 24 (fsyA fA)), (3, .box b7 30 [aI 0, aI 2, aI 0, aI 0, aS ([]), .sl 1 false (([] : List Txt).map txA)])]⟩ sr4 ⟨⟨_, rfl, SubB.refl _⟩, ⟨_, rfl, SubB.refl _⟩, ⟨_, rfl, SubB.refl _⟩, trivial⟩)
 <| .new fun b8 => .pick [2, 3, 4, 5, 8, 9] <| .call (do_at newF_ok cA_ok newF_rows (by decide) doA1) <|
 .run 5 [b6 = b6, b8 = b8] rt2 <|
 .join J1 (b6, b8) trivial ⟨[(0, aB false), (1, .ptr 1 b1 0), (2, .ptr 2 b6 0), (3, .ptr 3 b8 0)], [(1, .box b1 26 [aI 6, aI 1, aI 0, aI 0, aI 0, aS ([97]), aS ([]), aS ([])]), (2, .box b6 24 (fsyA fA)), (3, .box b8 30 [aI 0, aI 2, aI 0, aI 0, aS ([]), .sl 1 false (([] : List Txt).map txA)])]⟩ sr4 ⟨⟨_, rfl, SubB.refl _⟩, ⟨_, rfl, SubB.refl _⟩, ⟨_, rfl, SubB.refl _⟩, trivial⟩)
 <| .new fun b9 => .fork <| .alt (.call (do_at newF_ok cA_ok newF_rows (by decide) doA1) <|
 .pick [3, 4, 5, 6, 8, 9] <| .r 3 <| .new fun b10 => .run 2 [b10 = b10, b9 = b9] rt2 <|
 .join J1 (b10, b9) trivial ⟨[(0, aB false), (1, .ptr 1 b1 0), (2, .ptr 2 b10 0), (3, .ptr 3 b9 0)], [(1, .box b1 26 [aI 6, aI 1, aI 0, aI 0, aI 0, aS ([97]), aS ([]), aS ([])]), (2, .box b10 24 (fsyA fA)), (3, .box b9 30 [aI 0, aI 2, aI 0, aI 0, aS ([]), .sl 1 false (([] : List Txt).map txA)])]⟩ sr4 ⟨⟨_, rfl, SubB.refl _⟩, ⟨_, rfl, SubB.refl _⟩, ⟨_, rfl, SubB.refl _⟩, trivial⟩)
 <| .new fun b11 => .pick [2, 3, 4, 5, 8, 9] <| .call (do_at newF_ok cA_ok newF_rows (by decide) doA1) <|
 .run 5 [b11 = b11, b9 = b9] rt2 <|
 .join J1 (b11, b9) trivial ⟨[(0, aB false), (1, .ptr 1 b1 0), (2, .ptr 2 b11 0), (3, .ptr 3 b9 0)], [(1, .box b1 26 [aI 6, aI 1, aI 0, aI 0, aI 0, aS ([97]), aS ([]), aS ([])]), (2, .box b11 24 (fsyA fA)), (3, .box b9 30 [aI 0, aI 2, aI 0, aI 0, aS ([]), .sl 1 false (([] : List Txt).map txA)])]⟩ sr4 ⟨⟨_, rfl, SubB.refl _⟩, ⟨_, rfl, SubB.refl _⟩, ⟨_, rfl, SubB.refl _⟩, trivial⟩)
 <| .alt (.new fun b12 => .fork <| .alt (.call (rnew_spec) <|
 .fork <| .alt (.call (do_at newF_ok cA_ok newF_rows (by decide) doA1) <|
 .pick [3, 4, 5, 7, 8, 9] <| .r 3 <| .new fun b13 => .run 2 [b12 = b12, b13 = b13] rt2 <|
 .join J1 (b12, b13) trivial ⟨[(0, aB false), (1, .ptr 1 b1 0), (2, .ptr 2 b12 0), (3, .ptr 3 b13 0)], [(1, .box b1 26 [aI 6, aI 1, aI 0, aI 0, aI 0, aS ([97]), aS ([]), aS ([])]), (2, .box b12 24 (fsyA fA)), (3, .box b13 30 [aI 0, aI 2, aI 0, aI 0, aS ([]), .sl 1 false (([] : List Txt).map txA)])]⟩ sr4 ⟨⟨_, rfl, SubB.refl _⟩, ⟨_, rfl, SubB.refl _⟩, ⟨_, rfl, SubB.refl _⟩, trivial⟩)
 <| .new fun b14 => .pick [2, 3, 4, 5, 8, 9] <| .call (do_at newF_ok cA_ok newF_rows (by decide) doA1) <|
 .run 5 [b12 = b12, b14 = b14] rt2 <|
 .join J1 (b12, b14) trivial ⟨[(0, aB false), (1, .ptr 1 b1 0), (2, .ptr 2 b12 0), (3, .ptr 3 b14 0)], [(1, .box b1 26 [aI 6, aI 1, aI 0, aI 0, aI 0, aS ([97]), aS ([]), aS ([])]), (2, .box b12 24 (fsyA fA)), (3, .box b14 30 [aI 0, aI 2, aI 0, aI 0, aS ([]), .sl 1 false (([] : List Txt).map txA)])]⟩ sr4 ⟨⟨_, rfl, SubB.refl _⟩, ⟨_, rfl, SubB.refl _⟩, ⟨_, rfl, SubB.refl _⟩, trivial⟩)
 <| .new fun b15 => .pick [0, 2, 3, 4, 5, 8, 9] <| .call (rnew_spec) <|
 .call (do_at newF_ok cA_ok newF_rows (by decide) doA1) <|
 .run 5 [b12 = b12, b15 = b15] rt2 <|
 .join J1 (b12, b15) trivial ⟨[(0, aB false), (1, .ptr 1 b1 0), (2, .ptr 2 b12 0), (3, .ptr 3 b15 0)], [(1, .box b1 26 [aI 6, aI 1, aI 0, aI 0, aI 0, aS ([97]), aS ([]), aS ([])]), (2, .box b12 24 (fsyA fA)), (3, .box b15 30 [aI 0, aI 2, aI 0, aI 0, aS ([]), .sl 1 false (([] : List Txt).map txA)])]⟩ sr4 ⟨⟨_, rfl, SubB.refl _⟩, ⟨_, rfl, SubB.refl _⟩, ⟨_, rfl, SubB.refl _⟩, trivial⟩)
 <| .new fun b16 => .fork <| .alt (.call (rnew_spec) <|
 .fork <| .alt (.call (do_at newF_ok cA_ok newF_rows (by decide) doA1) <|
 .pick [3, 4, 5, 6, 8, 9] <| .r 3 <| .new fun b17 => .run 2 [b17 = b17, b16 = b16] rt2 <|
 .join J1 (b17, b16) trivial ⟨[(0, aB false), (1, .ptr 1 b1 0), (2, .ptr 2 b17 0), (3, .ptr 3 b16 0)], [(1, .box b1 26 [aI 6, aI 1, aI 0, aI 0, aI 0, aS ([97]), aS ([]), aS ([])]), (2, .box b17 24 (fsyA fA)), (3, .box b16 30 [aI 0, aI 2, aI 0, aI 0, aS ([]), .sl 1 false (([] : List Txt).map txA)])]⟩ sr4 ⟨⟨_, rfl, SubB.refl _⟩, ⟨_, rfl, SubB.refl _⟩, ⟨_, rfl, SubB.refl _⟩, trivial⟩)
 <| .new fun b18 => .pick [2, 3, 4, 5, 8, 9] <| .call (do_at newF_ok cA_ok newF_rows (by decide) doA1) <|
 .run 5 [b18 = b18, b16 = b16] rt2 <|
 .join J1 (b18, b16) trivial ⟨[(0, aB false), (1, .ptr 1 b1 0), (2, .ptr 2 b18 0), (3, .ptr 3 b16 0)], [(1, .box b1 26 [aI 6, aI 1, aI 0, aI 0, aI 0, aS ([97]), aS ([]), aS ([])]), (2, .box b18 24 (fsyA fA)), (3, .box b16 30 [aI 0, aI 2, aI 0, aI 0, aS ([]), .sl 1 false (([] : List Txt).map txA)])]⟩ sr4 ⟨⟨_, rfl, SubB.refl _⟩, ⟨_, rfl, SubB.refl _⟩, ⟨_, rfl, SubB.refl _⟩, trivial⟩)
 <| .new fun b19 => .pick [0, 2, 3, 4, 5, 8, 9] <| .call (rnew_spec) <|
 .call (do_at newF_ok cA_ok newF_rows (by decide) doA1) <|
 .run 5 [b19 = b19, b16 = b16] rt2 <|
 .join J1 (b19, b16) trivial ⟨[(0, aB false), (1, .ptr 1 b1 0), (2, .ptr 2 b19 0), (3, .ptr 3 b16 0)], [(1, .box b1 26 [aI 6, aI 1, aI 0, aI 0, aI 0, aS ([97]), aS ([]), aS ([])]), (2, .box b19 24 (fsyA fA)), (3, .box b16 30 [aI 0, aI 2, aI 0, aI 0, aS ([]), .sl 1 false (([] : List Txt).map txA)])]⟩ sr4 ⟨⟨_, rfl, SubB.refl _⟩, ⟨_, rfl, SubB.refl _⟩, ⟨_, rfl, SubB.refl _⟩, trivial⟩)
 <| fun j1 _ => (fun (b20 : Nat) (b21 : Nat) => .run 2 [b20 = b20, b1 = b1] rt2 <|
 .call (do_at fA_facts.2.1 cA_ok fA_facts.1 (by rw [fA_facts.2.2.1]; decide) doA2) <|
 .r 3 <| .new fun b22 => .new fun b23 => .run 2 [b22 = b22, b23 = b23] rt2 <|
 .run 4 [b21 = b21] rt1 <|
 .is 22 (show (2 == 2) = true from rfl) <| .run 5 [b21 = b21] rt1 <|
 .is 27 (show (0 == 0) = true from rfl) <| .run 5 [b23 = b23] rt1 <|
 .is 32 (show (7 == 7) = true from rfl) <| .run 3 [b20 = b20] rt1 <|
 .val 35 (show (aI ((fA.l.map nodA).length : Int) : AV) = aI (fA.l.length : Int) from by rw [List.length_map]) <| .r 3 <| .is 38 (show ((fA.l.length : Int) == 2) = true from (by rw [fA_facts.2.2.2.2]; rfl)) <| .run 2 [b20 = b20, b1 = b1] rt2 <|
 .call (looksG_spec fA cA fA_facts.2.1 cA_ok fA_facts.1) <|
 .r 1 <| .val 42 (show (aI (((looksU fA cA).map intA).length : Int) : AV) = aI ((looksU fA cA).length : Int) from by rw [List.length_map]) <| .r 3 <| .fin (x := aB (((looksU fA cA).length : Int) == 3)) (r := aB true) [] trivial (by exact Sub.of_eq (congrArg aB (by first | rfl | (rw [looksA]; rfl))))) j1.1 j1.2) Tryz.func11 rfl (by kernel_rfl) (by kernel_rfl)
theorem few11 (f : Fsy) (okf : OkF f) : FSpec Tryz.prog 12 [.agg (fsyA f)] (aB (dP (fewF f ∧ rightP f ∧ f.next < 1152921504606846976))) := by
 exact spec_vc (F := Tryz.f12) 400 (
 .new fun b1 => .r 1 <| .run 1 [b1 = b1] rt1 <|
 .call (few_spec f okf) <|
 .r 1 <| .br 5 (dP (fewF f)) (fun q1 => have p1 := booT q1; .run 1 [b1 = b1] rt1 <|
 .call (right_specM f okf (midF_few (dP_true.1 q1))) <|
 .r 2 <| .br 9 (dP (rightP f)) (fun q2 => have p2 := booT q2; .run 5 [b1 = b1] rt1 <|
 .fin (x := aB (decide (f.next < 1152921504606846976))) (r := aB (dP (fewF f ∧ rightP f ∧ f.next < 1152921504606846976))) [] trivial (by exact sE (⟨fun h => ⟨dP_true.1 q1, dP_true.1 q2, of_decide_eq_true h⟩, fun h => decide_eq_true h.2.2⟩)))
 <| fun q2 => have p2 := booF q2; .r 5 <| .fin (x := aB false) (r := aB (dP (fewF f ∧ rightP f ∧ f.next < 1152921504606846976))) [] trivial (by exact sF (fun h => dP_false.1 q2 h.2.1)))
 <| fun q1 => have p1 := booF q1; .r 9 <| .fin (x := aB false) (r := aB (dP (fewF f ∧ rightP f ∧ f.next < 1152921504606846976))) [] trivial (by exact sF (fun h => dP_false.1 q1 h.1))) Tryz.func12 rfl (by kernel_rfl) (by kernel_rfl)
end Go.Proofs.YtkhnialfkndiiaaGreat

namespace Go.Proofs.YtkhnialfkndiiaaGreat
open Go Go.RowKit Copyhold
theorem small_txt {l : List Cal} (h : smallP l) {c : Cal} (hc : c ∈ l) : c.name.length ≤ 2000 ∧ c.name2.length ≤ 2000 ∧ c.text.length ≤ 2000 := by
 have h1 := h.1
 have : txC c ≤ ((l.take l.length).map txC).sum := by rw [List.take_length]; exact sum_pos hc
 unfold smS at h1
 have e : txC c = c.name.length + c.name2.length + c.text.length := rfl
 omega
end Go.Proofs.YtkhnialfkndiiaaGreat
