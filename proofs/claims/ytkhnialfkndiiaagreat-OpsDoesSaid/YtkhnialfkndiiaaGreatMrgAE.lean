/- The document's example of calls; few. The law OpsStays over data. The law OpsDoes over data. What comes in, by its type: an abstract value that describes it. Over any program. No conditions beyond each law's own. File systems among a law's arguments: what they read as. Calls among a law's arguments. -/
import Derived.Test.YtkhnialfkndiiaaGreatMrgAD
import Derived.Test.YtkhnialfkndiiaaGreatMrgX
import Derived.Test.YtkhnialfkndiiaaGreatMrgAC
import Derived.Test.YtkhnialfkndiiaaGreatMrgAB
import Derived.Test.YtkhnialfkndiiaaGreatMrgH
import Derived.Test.YtkhnialfkndiiaaGreatMrgI
import Derived.Test.YtkhnialfkndiiaaGreatRows
set_option maxRecDepth 100000
set_option maxHeartbeats 8000000
set_option linter.unusedVariables false
set_option linter.unusedSimpArgs false
namespace Go.Proofs.YtkhnialfkndiiaaGreat
open Go Go.RowKit Copyhold
open Copyhold.Name (Srt insE delE getE isAt)
theorem do_at {f g : Fsy} {c : Cal} {r : Rep} (okf : OkF f) (okc : OkCal c) (hp : rowsP f) (hx : f.next < 9223372036854775807) (h : doF f c = (g, r)) : FSpec Tryz.prog 14 [.agg [.sl 5 false (f.l.map nodA), aI f.next], .agg [aI c.kind, aI c.ino, aI c.to, aI c.at_, aI c.many, aS c.name, aS c.name2, aS c.text]] (.tup [.agg (fsyA g), .agg (repA r)]) := by
  have := do_spec f c okf okc hp hx
  rw [h] at this
  exact this
theorem i0 : I64 0 := ⟨by decide, by decide⟩
theorem ismall {k : Int} (h : 0 ≤ k) (h2 : k ≤ 1000000) : I64 k := ⟨by omega, by omega⟩
def cA : Cal := ⟨6, 1, 0, 0, 0, [97], [], []⟩
theorem cA_ok : OkCal cA := ⟨ismall (by decide) (by decide), ismall (by decide) (by decide), i0, i0, i0, by show 1 ≤ _; omega, Nat.zero_le _, Nat.zero_le _⟩
noncomputable def fA : Fsy := addF newF 1 [97] (addN newF fileN)
theorem doA1 : doF newF cA = (fA, ⟨0, 2, 0, 0, [], []⟩) := by
  refine do_yes (x := (fA, ⟨0, 2, 0, 0, [], []⟩)) ?_ rfl
  rw [deed_6 rfl]
  show addO newF cA fileN = _
  unfold addO
  show ((if addErr newF 1 [97] fileN = 0 then _ else _), (⟨addErr newF 1 [97] fileN, _, _, _, _, _⟩ : Rep)) = _
  rw [add_new, if_pos rfl]
  rfl
theorem fA_facts : rowsP fA ∧ OkF fA ∧ fA.next = 3 ∧ (∃ d, atF fA 1 = some d ∧ d.kind = 2 ∧ d.l = [⟨[97], 2⟩]) ∧ (fA.l.length : Int) = 2 := by
  have hb := back_facts newF_rows add_new
  have ho := add_ok (n := fileN) (s := [97]) newF_ok newF_rows fileN_ok (by decide) add_new (by decide)
  refine ⟨hb.1, ho, ?_, ?_, ?_⟩
  · obtain ⟨d, A⟩ := adds_of add_new
    have hr := rows_rise newF_rows
    have hroot : atF newF 1 = some rootN := rfl
    unfold fA addF
    rw [show (addN newF fileN).ino = 2 from rfl, enter_set hroot]
    rw [put_next2]
    · rw [show (setL newF rootN (entL rootN.l [97] 2)).next = 2 from put_next (by decide)]; rfl
    · rw [show (setL newF rootN (entL rootN.l [97] 2)).next = 2 from put_next (by decide)]; rfl
  · have hroot : atF newF 1 = some rootN := rfl
    have he : entE rootN.l [97] 2 = 0 := entE_cases chk_a (by decide) rfl (by decide)
    have hl : entL rootN.l [97] 2 = [⟨[97], 2⟩] := by unfold entL; rw [if_pos he]; rfl
    have hk : rowP rootN.l := rowP_nil
    obtain ⟨s1, s2, s3, s4⟩ := setL_rows newF_rows hroot rfl (ent_row (n := 2) hk chk_a (by decide) rfl (by decide))
    refine ⟨withL rootN (entL rootN.l [97] 2), ?_, rfl, hl⟩
    unfold fA addF
    rw [show (addN newF fileN).ino = 2 from rfl, enter_set hroot, at_put (rows_rise s1), if_neg (by decide), s4, if_pos rfl]
  · have := add_len
    rw [if_pos add_new] at this
    exact this
theorem doA2 : doF fA cA = (fA, errR 7) := by
  obtain ⟨h1, h2, h3, ⟨d, hd, hk, hl⟩, _⟩ := fA_facts
  obtain ⟨g1, g2⟩ := dir_of hd hk
  have he : addErr fA 1 [97] fileN = 7 := by
    unfold addErr
    rw [first5, if_pos g1, if_pos chk_a, g2, hl]
    rw [if_neg (by decide)]
    rfl
  have hde : deedF fA cA = addO fA cA fileN := deed_6 rfl
  have h7 : (addO fA cA fileN).2.e = 7 := he
  rw [do_no hde (by rw [h7]; decide), h7]
theorem looksA : looksU fA cA = [0, 1, 2] := by
  obtain ⟨h1, h2, h3, ⟨d, hd, hk, hl⟩, _⟩ := fA_facts
  obtain ⟨g1, g2⟩ := dir_of hd hk
  have h0 : dirE fA 0 = 6 := (dirE_6 (find_0 h1)).1
  have e : looksL fA cA = [1, 0, 2] := by
    show lk1 fA cA (lk1 fA cA [1, 0] 1) 0 = _
    have e1 : lk1 fA cA [1, 0] 1 = [1, 0, 2] := by
      unfold lk1
      rw [if_pos g1, g2, hl]
      rfl
    rw [e1]
    unfold lk1
    rw [if_neg (by rw [h0]; decide)]
  unfold looksU
  rw [if_neg (by decide), e]
  refine asc_ext (sortU_asc _) (by unfold Asc; simp) fun x => ?_
  rw [sortU_mem]
  constructor <;> (intro h; simp at h ⊢; omega)
theorem midF_few {f : Fsy} (hf : fewF f) : midF f := by
  have := hf.1
  unfold midF
  omega
theorem shown11  : FSpec Tryz.prog 11 [] (aB true) := by
  exact spec_vc (F := Tryz.f11) 400 (
 .r 1 <| .r 1 <| .new fun b1 => .run 1 [b1 = b1] rt1 <|
 let J1 : Jn (Nat × Nat) := ⟨fun j1 => ⟨[(0, aB false), (1, .ptr 1 b1 0), (2, .ptr 2 j1.1 0), (3, .ptr 3 j1.2 0)], [(1, .box b1 26 [aI 6, aI 1, aI 0, aI 0, aI 0, aS ([97]), aS ([]), aS ([])]), (2, .box j1.1 24 [.sl 5 false (fA.l.map nodA), aI fA.next]), (3, .box j1.2 30 [aI 0, aI 2, aI 0, aI 0, aS ([]), .sl 1 false (([] : List Txt).map txA)])]⟩, fun _ => True⟩
 .cut J1 (.pick [1] <| .run 1 [b1 = b1] rt1 <|
 .fork <| .alt (.call (rnew_spec) <|
 .fork <| .alt (.call (do_at newF_ok cA_ok newF_rows (by decide) doA1) <|
 .pick [3, 4, 5] <| .r 3 <| .fork <| .alt (.new fun b2 => .pick [7, 8, 9] <| .new fun b3 => .run 2 [b2 = b2, b3 = b3] rt2 <|
 .join J1 (b2, b3) trivial ⟨[(0, aB false), (1, .ptr 1 b1 0), (2, .ptr 2 b2 0), (3, .ptr 3 b3 0)], [(1, .box b1 26 [aI 6, aI 1, aI 0, aI 0, aI 0, aS ([97]), aS ([]), aS ([])]), (2, .box b2 24 [.sl 5 false (fA.l.map nodA), aI fA.next]), (3, .box b3 30 [aI 0, aI 2, aI 0, aI 0, aS ([]), .sl 1 false (([] : List Txt).map txA)])]⟩ sr4 ⟨⟨_, rfl, SubB.refl _⟩, ⟨_, rfl, SubB.refl _⟩, ⟨_, rfl, SubB.refl _⟩, trivial⟩)
 <| .new fun b4 => .pick [6, 8, 9] <| .new fun b5 => .run 2 [b5 = b5, b4 = b4] rt2 <|
 .join J1 (b5, b4) trivial ⟨[(0, aB false), (1, .ptr 1 b1 0), (2, .ptr 2 b5 0), (3, .ptr 3 b4 0)], [(1, .box b1 26 [aI 6, aI 1, aI 0, aI 0, aI 0, aS ([97]), aS ([]), aS ([])]), (2, .box b5 24 [.sl 5 false (fA.l.map nodA), aI fA.next]), (3, .box b4 30 [aI 0, aI 2, aI 0, aI 0, aS ([]), .sl 1 false (([] : List Txt).map txA)])]⟩ sr4 ⟨⟨_, rfl, SubB.refl _⟩, ⟨_, rfl, SubB.refl _⟩, ⟨_, rfl, SubB.refl _⟩, trivial⟩)
 <| .alt (.new fun b6 => .fork <| .alt (.call (do_at newF_ok cA_ok newF_rows (by decide) doA1) <|
 .pick [3, 4, 5, 7, 8, 9] <| .r 3 <| .new fun b7 => .run 2 [b6 = b6, b7 = b7] rt2 <|
 .join J1 (b6, b7) trivial ⟨[(0, aB false), (1, .ptr 1 b1 0), (2, .ptr 2 b6 0), (3, .ptr 3 b7 0)], [(1, .box b1 26 [aI 6, aI 1, aI 0, aI 0, aI 0, aS ([97]), aS ([]), aS ([])]), (2, .box b6 24 [.sl 5 false (fA.l.map nodA), aI fA.next]), (3, .box b7 30 [aI 0, aI 2, aI 0, aI 0, aS ([]), .sl 1 false (([] : List Txt).map txA)])]⟩ sr4 ⟨⟨_, rfl, SubB.refl _⟩, ⟨_, rfl, SubB.refl _⟩, ⟨_, rfl, SubB.refl _⟩, trivial⟩)
 <| .new fun b8 => .pick [2, 3, 4, 5, 8, 9] <| .call (do_at newF_ok cA_ok newF_rows (by decide) doA1) <|
 .run 5 [b6 = b6, b8 = b8] rt2 <|
 .join J1 (b6, b8) trivial ⟨[(0, aB false), (1, .ptr 1 b1 0), (2, .ptr 2 b6 0), (3, .ptr 3 b8 0)], [(1, .box b1 26 [aI 6, aI 1, aI 0, aI 0, aI 0, aS ([97]), aS ([]), aS ([])]), (2, .box b6 24 [.sl 5 false (fA.l.map nodA), aI fA.next]), (3, .box b8 30 [aI 0, aI 2, aI 0, aI 0, aS ([]), .sl 1 false (([] : List Txt).map txA)])]⟩ sr4 ⟨⟨_, rfl, SubB.refl _⟩, ⟨_, rfl, SubB.refl _⟩, ⟨_, rfl, SubB.refl _⟩, trivial⟩)
 <| .new fun b9 => .fork <| .alt (.call (do_at newF_ok cA_ok newF_rows (by decide) doA1) <|
 .pick [3, 4, 5, 6, 8, 9] <| .r 3 <| .new fun b10 => .run 2 [b10 = b10, b9 = b9] rt2 <|
 .join J1 (b10, b9) trivial ⟨[(0, aB false), (1, .ptr 1 b1 0), (2, .ptr 2 b10 0), (3, .ptr 3 b9 0)], [(1, .box b1 26 [aI 6, aI 1, aI 0, aI 0, aI 0, aS ([97]), aS ([]), aS ([])]), (2, .box b10 24 [.sl 5 false (fA.l.map nodA), aI fA.next]), (3, .box b9 30 [aI 0, aI 2, aI 0, aI 0, aS ([]), .sl 1 false (([] : List Txt).map txA)])]⟩ sr4 ⟨⟨_, rfl, SubB.refl _⟩, ⟨_, rfl, SubB.refl _⟩, ⟨_, rfl, SubB.refl _⟩, trivial⟩)
 <| .new fun b11 => .pick [2, 3, 4, 5, 8, 9] <| .call (do_at newF_ok cA_ok newF_rows (by decide) doA1) <|
 .run 5 [b11 = b11, b9 = b9] rt2 <|
 .join J1 (b11, b9) trivial ⟨[(0, aB false), (1, .ptr 1 b1 0), (2, .ptr 2 b11 0), (3, .ptr 3 b9 0)], [(1, .box b1 26 [aI 6, aI 1, aI 0, aI 0, aI 0, aS ([97]), aS ([]), aS ([])]), (2, .box b11 24 [.sl 5 false (fA.l.map nodA), aI fA.next]), (3, .box b9 30 [aI 0, aI 2, aI 0, aI 0, aS ([]), .sl 1 false (([] : List Txt).map txA)])]⟩ sr4 ⟨⟨_, rfl, SubB.refl _⟩, ⟨_, rfl, SubB.refl _⟩, ⟨_, rfl, SubB.refl _⟩, trivial⟩)
 <| .alt (.new fun b12 => .fork <| .alt (.call (rnew_spec) <|
 .fork <| .alt (.call (do_at newF_ok cA_ok newF_rows (by decide) doA1) <|
 .pick [3, 4, 5, 7, 8, 9] <| .r 3 <| .new fun b13 => .run 2 [b12 = b12, b13 = b13] rt2 <|
 .join J1 (b12, b13) trivial ⟨[(0, aB false), (1, .ptr 1 b1 0), (2, .ptr 2 b12 0), (3, .ptr 3 b13 0)], [(1, .box b1 26 [aI 6, aI 1, aI 0, aI 0, aI 0, aS ([97]), aS ([]), aS ([])]), (2, .box b12 24 [.sl 5 false (fA.l.map nodA), aI fA.next]), (3, .box b13 30 [aI 0, aI 2, aI 0, aI 0, aS ([]), .sl 1 false (([] : List Txt).map txA)])]⟩ sr4 ⟨⟨_, rfl, SubB.refl _⟩, ⟨_, rfl, SubB.refl _⟩, ⟨_, rfl, SubB.refl _⟩, trivial⟩)
 <| .new fun b14 => .pick [2, 3, 4, 5, 8, 9] <| .call (do_at newF_ok cA_ok newF_rows (by decide) doA1) <|
 .run 5 [b12 = b12, b14 = b14] rt2 <|
 .join J1 (b12, b14) trivial ⟨[(0, aB false), (1, .ptr 1 b1 0), (2, .ptr 2 b12 0), (3, .ptr 3 b14 0)], [(1, .box b1 26 [aI 6, aI 1, aI 0, aI 0, aI 0, aS ([97]), aS ([]), aS ([])]), (2, .box b12 24 [.sl 5 false (fA.l.map nodA), aI fA.next]), (3, .box b14 30 [aI 0, aI 2, aI 0, aI 0, aS ([]), .sl 1 false (([] : List Txt).map txA)])]⟩ sr4 ⟨⟨_, rfl, SubB.refl _⟩, ⟨_, rfl, SubB.refl _⟩, ⟨_, rfl, SubB.refl _⟩, trivial⟩)
 <| .new fun b15 => .pick [0, 2, 3, 4, 5, 8, 9] <| .call (rnew_spec) <|
 .call (do_at newF_ok cA_ok newF_rows (by decide) doA1) <|
 .run 5 [b12 = b12, b15 = b15] rt2 <|
 .join J1 (b12, b15) trivial ⟨[(0, aB false), (1, .ptr 1 b1 0), (2, .ptr 2 b12 0), (3, .ptr 3 b15 0)], [(1, .box b1 26 [aI 6, aI 1, aI 0, aI 0, aI 0, aS ([97]), aS ([]), aS ([])]), (2, .box b12 24 [.sl 5 false (fA.l.map nodA), aI fA.next]), (3, .box b15 30 [aI 0, aI 2, aI 0, aI 0, aS ([]), .sl 1 false (([] : List Txt).map txA)])]⟩ sr4 ⟨⟨_, rfl, SubB.refl _⟩, ⟨_, rfl, SubB.refl _⟩, ⟨_, rfl, SubB.refl _⟩, trivial⟩)
 <| .new fun b16 => .fork <| .alt (.call (rnew_spec) <|
 .fork <| .alt (.call (do_at newF_ok cA_ok newF_rows (by decide) doA1) <|
 .pick [3, 4, 5, 6, 8, 9] <| .r 3 <| .new fun b17 => .run 2 [b17 = b17, b16 = b16] rt2 <|
 .join J1 (b17, b16) trivial ⟨[(0, aB false), (1, .ptr 1 b1 0), (2, .ptr 2 b17 0), (3, .ptr 3 b16 0)], [(1, .box b1 26 [aI 6, aI 1, aI 0, aI 0, aI 0, aS ([97]), aS ([]), aS ([])]), (2, .box b17 24 [.sl 5 false (fA.l.map nodA), aI fA.next]), (3, .box b16 30 [aI 0, aI 2, aI 0, aI 0, aS ([]), .sl 1 false (([] : List Txt).map txA)])]⟩ sr4 ⟨⟨_, rfl, SubB.refl _⟩, ⟨_, rfl, SubB.refl _⟩, ⟨_, rfl, SubB.refl _⟩, trivial⟩)
 <| .new fun b18 => .pick [2, 3, 4, 5, 8, 9] <| .call (do_at newF_ok cA_ok newF_rows (by decide) doA1) <|
 .run 5 [b18 = b18, b16 = b16] rt2 <|
 .join J1 (b18, b16) trivial ⟨[(0, aB false), (1, .ptr 1 b1 0), (2, .ptr 2 b18 0), (3, .ptr 3 b16 0)], [(1, .box b1 26 [aI 6, aI 1, aI 0, aI 0, aI 0, aS ([97]), aS ([]), aS ([])]), (2, .box b18 24 [.sl 5 false (fA.l.map nodA), aI fA.next]), (3, .box b16 30 [aI 0, aI 2, aI 0, aI 0, aS ([]), .sl 1 false (([] : List Txt).map txA)])]⟩ sr4 ⟨⟨_, rfl, SubB.refl _⟩, ⟨_, rfl, SubB.refl _⟩, ⟨_, rfl, SubB.refl _⟩, trivial⟩)
 <| .new fun b19 => .pick [0, 2, 3, 4, 5, 8, 9] <| .call (rnew_spec) <|
 .call (do_at newF_ok cA_ok newF_rows (by decide) doA1) <|
 .run 5 [b19 = b19, b16 = b16] rt2 <|
 .join J1 (b19, b16) trivial ⟨[(0, aB false), (1, .ptr 1 b1 0), (2, .ptr 2 b19 0), (3, .ptr 3 b16 0)], [(1, .box b1 26 [aI 6, aI 1, aI 0, aI 0, aI 0, aS ([97]), aS ([]), aS ([])]), (2, .box b19 24 [.sl 5 false (fA.l.map nodA), aI fA.next]), (3, .box b16 30 [aI 0, aI 2, aI 0, aI 0, aS ([]), .sl 1 false (([] : List Txt).map txA)])]⟩ sr4 ⟨⟨_, rfl, SubB.refl _⟩, ⟨_, rfl, SubB.refl _⟩, ⟨_, rfl, SubB.refl _⟩, trivial⟩)
 <| fun j1 _ => (fun (b20 : Nat) (b21 : Nat) => .run 2 [b20 = b20, b1 = b1] rt2 <|
 .call (do_at fA_facts.2.1 cA_ok fA_facts.1 (by rw [fA_facts.2.2.1]; decide) doA2) <|
 .r 3 <| .new fun b22 => .new fun b23 => .run 2 [b22 = b22, b23 = b23] rt2 <|
 .run 4 [b21 = b21] rt1 <|
 .is 22 (show (2 == 2) = true from rfl) <| .run 5 [b21 = b21] rt1 <|
 .is 27 (show (0 == 0) = true from rfl) <| .run 5 [b23 = b23] rt1 <|
 .is 32 (show (7 == 7) = true from rfl) <| .run 3 [b20 = b20] rt1 <|
 .val 35 (show (aI ((fA.l.map nodA).length : Int) : AV) = aI (fA.l.length : Int) from by rw [List.length_map]) <| .r 3 <| .is 38 (show ((fA.l.length : Int) == 2) = true from (by rw [fA_facts.2.2.2.2]; rfl)) <| .run 2 [b20 = b20, b1 = b1] rt2 <|
 .call (looksG_spec fA cA fA_facts.2.1 cA_ok fA_facts.1) <|
 .r 1 <| .val 42 (show (aI (((looksU fA cA).map intA).length : Int) : AV) = aI ((looksU fA cA).length : Int) from by rw [List.length_map]) <| .r 3 <| .fin (x := aB (((looksU fA cA).length : Int) == 3)) (r := aB true) [] trivial (by exact Sub.of_eq (congrArg aB (by first | rfl | (rw [looksA]; rfl))))) j1.1 j1.2) Tryz.func11 rfl (by kernel_rfl) (by kernel_rfl)
theorem few11 (f : Fsy) (okf : OkF f) : FSpec Tryz.prog 12 [.agg [.sl 5 false (f.l.map nodA), aI f.next]] (aB (dP (fewF f ∧ rightP f ∧ f.next < 1152921504606846976))) := by
  exact spec_vc (F := Tryz.f12) 400 (
 .new fun b1 => .r 1 <| .run 1 [b1 = b1] rt1 <|
 .call (few_spec f okf) <|
 .r 1 <| .br 5 (dP (fewF f)) (fun q1 => have p1 := booT q1; .run 1 [b1 = b1] rt1 <|
 .call (right_specM f okf (midF_few (dP_true.1 q1))) <|
 .r 2 <| .br 9 (dP (rightP f)) (fun q2 => have p2 := booT q2; .run 5 [b1 = b1] rt1 <|
 .fin (x := aB (decide (f.next < 1152921504606846976))) (r := aB (dP (fewF f ∧ rightP f ∧ f.next < 1152921504606846976))) [] trivial (by exact sE (⟨fun h => ⟨dP_true.1 q1, dP_true.1 q2, of_decide_eq_true h⟩, fun h => decide_eq_true h.2.2⟩)))
 <| fun q2 => have p2 := booF q2; .r 5 <| .fin (x := aB false) (r := aB (dP (fewF f ∧ rightP f ∧ f.next < 1152921504606846976))) [] trivial (by exact sF (fun h => dP_false.1 q2 h.2.1)))
 <| fun q1 => have p1 := booF q1; .r 9 <| .fin (x := aB false) (r := aB (dP (fewF f ∧ rightP f ∧ f.next < 1152921504606846976))) [] trivial (by exact sF (fun h => dP_false.1 q1 h.1))) Tryz.func12 rfl (by kernel_rfl) (by kernel_rfl)
end Go.Proofs.YtkhnialfkndiiaaGreat

set_option linter.unusedVariables false
set_option linter.unusedSimpArgs false
namespace Go.Proofs.YtkhnialfkndiiaaGreat
open Go Go.RowKit Copyhold
theorem do_names_le {f : Fsy} {c : Cal} (hp : rowsP f) : (doF f c).2.names.length ≤ 1000000 := Nat.le_trans (do_names hp) (by decide)
theorem looksU_len (f : Fsy) (c : Cal) : (looksU f c).length ≤ 6 := by
  unfold looksU
  split
  · simp
  · exact Nat.le_trans (sortU_len _) (looks_len f c).2
theorem small_txt {l : List Cal} (h : smallP l) {c : Cal} (hc : c ∈ l) : c.name.length ≤ 2000 ∧ c.name2.length ≤ 2000 ∧ c.text.length ≤ 2000 := by
  have h1 := h.1
  have : txC c ≤ ((l.take l.length).map txC).sum := by rw [List.take_length]; exact sum_pos hc
  unfold smS at h1
  have e : txC c = c.name.length + c.name2.length + c.text.length := rfl
  omega
theorem eqSG_spec (a b : List Txt) (h1 : a.length ≤ 1000000) (h2 : b.length ≤ 8796093022207) : FSpec Tryz.prog 55 [.sl 1 false (a.map txA), .sl 1 false (b.map txA)] (aB (dP (a = b))) := by
  exact spec_vc (F := Tryz.f55) 400 (
 .r 1 <| .r 2 <| .val 7 (show (aI ((a.map txA).length : Int) : AV) = aI (a.length : Int) from by rw [List.length_map]) <| .r 2 <| .val 9 (show (aI ((b.map txA).length : Int) : AV) = aI (b.length : Int) from by rw [List.length_map]) <| .r 1 <| .br 10 ((a.length : Int) != (b.length : Int)) (fun q1 => have p1 := bneT q1; .r 1 <| .fin (x := aB false) (r := aB (dP (a = b))) [] trivial (by exact sF (fun h => by have := congrArg List.length h; omega)))
 <| fun q1 => have p1 := bneF q1; .r 2 <| .val 12 (show (aI ((a.map txA).length : Int) : AV) = aI (a.length : Int) from by rw [List.length_map]) <| .r 1 <| let L1 : Lp (Nat) := ⟨fun a1 => ⟨[(0, .sl 1 false (a.map txA)), (1, .sl 1 false (b.map txA)), (12, aI (a.length : Int)), (13, aI (a1 : Int))], []⟩, fun a1 => a.length - a1, fun a1 => a1 ≤ a.length ∧ a.take a1 = b.take a1⟩
 .loop L1 0 (show 0 ≤ a.length ∧ a.take 0 = b.take 0 from ⟨Nat.zero_le _, rfl⟩) ⟨[(0, .sl 1 false (a.map txA)), (1, .sl 1 false (b.map txA)), (12, aI (a.length : Int)), (13, aI 0)], []⟩ ⟨Sub.refl _, Sub.refl _, Sub.refl _, Sub.of_eq (congrArg aI (by first | omega | rfl)), trivial⟩ trivial fun a1 ha1 =>
 (fun (k : Nat) (hH1 : k ≤ a.length ∧ a.take k = b.take k) => .r 1 <| .br 14 (decide ((k : Int) < (a.length : Int))) (fun q2 => have p2 := decT q2; .r 2 <| .ord [0, 1, 2, 3, 4, 5, 6, 7, 8] <| .r 2 <| .idxM a txA k (m := (k : Int)) rfl (by omega) fun x1 hx1 =>
 .r 3 <| .idxM b txA k (m := (k : Int)) rfl (by omega) fun x2 hx2 =>
 .r 2 <| .br 24 (!(x1 == x2)) (fun q3 => have q3 := notT q3; have p3 := beqF q3; .r 1 <| .fin (x := aB false) (r := aB (dP (a = b))) [] trivial (by
    refine sF (fun h => ?_)
    rw [h, hx2] at hx1
    obtain rfl := Option.some.inj hx1
    simp_all [dP_true, dP_false]))
 <| fun q3 => have q3 := notF q3; have p3 := beqT q3; .run 2 [rng .i64 ((k : Int) + 1)] ⟨rng64 (by omega) (by omega), trivial⟩ <|
 .back L1 k (k + 1) (show (k + 1) ≤ a.length ∧ a.take (k + 1) = b.take (k + 1) from ⟨by omega, by rw [take_step hx1, take_step hx2, hH1.2]; first | (congr 2; done) | (congr 2; exact (by simp_all))⟩) (show a.length - (k + 1) < a.length - k from (by omega)) ⟨[(0, .sl 1 false (a.map txA)), (1, .sl 1 false (b.map txA)), (12, aI (a.length : Int)), (13, aI ((k : Int) + 1))], []⟩ ⟨Sub.refl _, Sub.refl _, Sub.refl _, Sub.of_eq (congrArg aI (by first | omega | rfl)), trivial⟩ trivial)
 <| fun q2 => have p2 := decF q2; .r 1 <| .fin (x := aB true) (r := aB (dP (a = b))) [] trivial (by
    refine sT ?_
    have h := hH1.2
    rw [take_all (by omega), take_all (by omega)] at h
    exact h)) a1 ha1) Tryz.func55 rfl (by kernel_rfl) (by kernel_rfl)
theorem osameG_spec (a b : Rep) (h1 : a.names.length ≤ 1000000) (h2 : b.names.length ≤ 8796093022207) : FSpec Tryz.prog 21 [.agg [aI a.e, aI a.a, aI a.b, aI a.n, aS a.text, .sl 1 false (a.names.map txA)], .agg [aI b.e, aI b.a, aI b.b, aI b.n, aS b.text, .sl 1 false (b.names.map txA)]] (aB (dP (a = b))) := by
  exact spec_vc (F := Tryz.f21) 400 (
 .new fun b1 => .new fun b2 => .r 1 <| .run 6 [b1 = b1, b2 = b2] rt2 <|
 .br 10 (a.e == b.e) (fun q1 => have p1 := beqT q1; .run 7 [b1 = b1, b2 = b2] rt2 <|
 .br 17 (a.a == b.a) (fun q2 => have p2 := beqT q2; .run 7 [b1 = b1, b2 = b2] rt2 <|
 .br 24 (a.b == b.b) (fun q3 => have p3 := beqT q3; .run 7 [b1 = b1, b2 = b2] rt2 <|
 .br 31 (a.n == b.n) (fun q4 => have p4 := beqT q4; .run 7 [b1 = b1, b2 = b2] rt2 <|
 .br 38 (a.text == b.text) (fun q5 => have p5 := beqT q5; .run 4 [b1 = b1, b2 = b2] rt2 <|
 .call (eqSG_spec a.names b.names h1 h2) <|
 .r 2 <| .fin (x := aB (dP (a.names = b.names))) (r := aB (dP (a = b))) [] trivial (by
    refine sE ?_
    constructor
    · intro h
      simp only [Bool.and_eq_true, beq_iff_eq, dP_true] at *
      refine rep_eq ?_ ?_ ?_ ?_ ?_ ?_ <;> simp_all
    · intro h
      subst h
      simp_all [dP_true]))
 <| fun q5 => have p5 := beqF q5; .r 7 <| .fin (x := aB false) (r := aB (dP (a = b))) [] trivial (by
    refine sF (fun h => ?_)
    subst h
    simp_all [dP_false]))
 <| fun q4 => have p4 := beqF q4; .r 14 <| .fin (x := aB false) (r := aB (dP (a = b))) [] trivial (by
    refine sF (fun h => ?_)
    subst h
    simp_all [dP_false]))
 <| fun q3 => have p3 := beqF q3; .r 21 <| .fin (x := aB false) (r := aB (dP (a = b))) [] trivial (by
    refine sF (fun h => ?_)
    subst h
    simp_all [dP_false]))
 <| fun q2 => have p2 := beqF q2; .r 28 <| .fin (x := aB false) (r := aB (dP (a = b))) [] trivial (by
    refine sF (fun h => ?_)
    subst h
    simp_all [dP_false]))
 <| fun q1 => have p1 := beqF q1; .r 35 <| .fin (x := aB false) (r := aB (dP (a = b))) [] trivial (by
    refine sF (fun h => ?_)
    subst h
    simp_all [dP_false])) Tryz.func21 rfl (by kernel_rfl) (by kernel_rfl)
theorem rstrsG_spec (a b : List Txt) (h1 : a.length ≤ 1000000) (h2 : b.length ≤ 8796093022207) : FSpec Tryz.prog 49 [.sl 1 false (a.map txA), .sl 1 false (b.map txA)] (aB (dP (a = b))) := by
  exact spec_vc (F := Tryz.f49) 400 (
 .r 1 <| .r 2 <| .val 7 (show (aI ((a.map txA).length : Int) : AV) = aI (a.length : Int) from by rw [List.length_map]) <| .r 2 <| .val 9 (show (aI ((b.map txA).length : Int) : AV) = aI (b.length : Int) from by rw [List.length_map]) <| .r 1 <| .br 10 ((a.length : Int) != (b.length : Int)) (fun q1 => have p1 := bneT q1; .r 1 <| .fin (x := aB false) (r := aB (dP (a = b))) [] trivial (by exact sF (fun h => by have := congrArg List.length h; omega)))
 <| fun q1 => have p1 := bneF q1; .r 1 <| let L1 : Lp (Nat) := ⟨fun a1 => ⟨[(0, .sl 1 false (a.map txA)), (1, .sl 1 false (b.map txA)), (5, aI (a1 : Int))], []⟩, fun a1 => a.length - a1, fun a1 => a1 ≤ a.length ∧ a.take a1 = b.take a1⟩
 .loop L1 0 (show 0 ≤ a.length ∧ a.take 0 = b.take 0 from ⟨Nat.zero_le _, rfl⟩) ⟨[(0, .sl 1 false (a.map txA)), (1, .sl 1 false (b.map txA)), (5, aI 0)], []⟩ ⟨Sub.refl _, Sub.refl _, Sub.of_eq (congrArg aI (by first | omega | rfl)), trivial⟩ trivial fun a1 ha1 =>
 (fun (k : Nat) (hH1 : k ≤ a.length ∧ a.take k = b.take k) => .r 3 <| .val 13 (show (aI ((a.map txA).length : Int) : AV) = aI (a.length : Int) from by rw [List.length_map]) <| .r 1 <| .br 14 (decide ((k : Int) < (a.length : Int))) (fun q2 => have p2 := decT q2; .ord [0, 1, 2, 3, 4, 5, 6, 7, 8] <| .r 2 <| .idxM a txA k (m := (k : Int)) rfl (by omega) fun x1 hx1 =>
 .r 3 <| .idxM b txA k (m := (k : Int)) rfl (by omega) fun x2 hx2 =>
 .r 2 <| .br 25 (!(x1 == x2)) (fun q3 => have q3 := notT q3; have p3 := beqF q3; .r 1 <| .fin (x := aB false) (r := aB (dP (a = b))) [] trivial (by
    refine sF (fun h => ?_)
    rw [h, hx2] at hx1
    obtain rfl := Option.some.inj hx1
    simp_all [dP_true, dP_false]))
 <| fun q3 => have q3 := notF q3; have p3 := beqT q3; .run 3 [rng .i64 ((k : Int) + 1)] ⟨rng64 (by omega) (by omega), trivial⟩ <|
 .back L1 k (k + 1) (show (k + 1) ≤ a.length ∧ a.take (k + 1) = b.take (k + 1) from ⟨by omega, by rw [take_step hx1, take_step hx2, hH1.2]; first | (congr 2; done) | (congr 2; exact (by simp_all))⟩) (show a.length - (k + 1) < a.length - k from (by omega)) ⟨[(0, .sl 1 false (a.map txA)), (1, .sl 1 false (b.map txA)), (5, aI ((k : Int) + 1))], []⟩ ⟨Sub.refl _, Sub.refl _, Sub.of_eq (congrArg aI (by first | omega | rfl)), trivial⟩ trivial)
 <| fun q2 => have p2 := decF q2; .r 1 <| .fin (x := aB true) (r := aB (dP (a = b))) [] trivial (by
    refine sT ?_
    have h := hH1.2
    rw [take_all (by omega), take_all (by omega)] at h
    exact h)) a1 ha1) Tryz.func49 rfl (by kernel_rfl) (by kernel_rfl)
theorem rsameG_spec (a b : Rep) (h1 : a.names.length ≤ 1000000) (h2 : b.names.length ≤ 8796093022207) : FSpec Tryz.prog 17 [.agg [aI a.e, aI a.a, aI a.b, aI a.n, aS a.text, .sl 1 false (a.names.map txA)], .agg [aI b.e, aI b.a, aI b.b, aI b.n, aS b.text, .sl 1 false (b.names.map txA)]] (aB (dP (a = b))) := by
  exact spec_vc (F := Tryz.f17) 400 (
 .new fun b1 => .new fun b2 => .r 1 <| .run 4 [b1 = b1, b2 = b2] rt2 <|
 .call (rstrsG_spec a.names b.names h1 h2) <|
 .r 1 <| .r 2 <| .br 12 (dP (a.names = b.names)) (fun q1 => have p1 := booT q1; .run 7 [b1 = b1, b2 = b2] rt2 <|
 .br 19 (a.e == b.e) (fun q2 => have p2 := beqT q2; .run 7 [b1 = b1, b2 = b2] rt2 <|
 .br 26 (a.a == b.a) (fun q3 => have p3 := beqT q3; .run 7 [b1 = b1, b2 = b2] rt2 <|
 .br 33 (a.b == b.b) (fun q4 => have p4 := beqT q4; .run 7 [b1 = b1, b2 = b2] rt2 <|
 .br 40 (a.n == b.n) (fun q5 => have p5 := beqT q5; .run 7 [b1 = b1, b2 = b2] rt2 <|
 .fin (x := aB (a.text == b.text)) (r := aB (dP (a = b))) [] trivial (by
    refine sE ?_
    constructor
    · intro h
      simp only [Bool.and_eq_true, beq_iff_eq, dP_true] at *
      refine rep_eq ?_ ?_ ?_ ?_ ?_ ?_ <;> simp_all
    · intro h
      subst h
      simp_all [dP_true]))
 <| fun q5 => have p5 := beqF q5; .r 7 <| .fin (x := aB false) (r := aB (dP (a = b))) [] trivial (by
    refine sF (fun h => ?_)
    subst h
    simp_all [dP_false]))
 <| fun q4 => have p4 := beqF q4; .r 14 <| .fin (x := aB false) (r := aB (dP (a = b))) [] trivial (by
    refine sF (fun h => ?_)
    subst h
    simp_all [dP_false]))
 <| fun q3 => have p3 := beqF q3; .r 21 <| .fin (x := aB false) (r := aB (dP (a = b))) [] trivial (by
    refine sF (fun h => ?_)
    subst h
    simp_all [dP_false]))
 <| fun q2 => have p2 := beqF q2; .r 28 <| .fin (x := aB false) (r := aB (dP (a = b))) [] trivial (by
    refine sF (fun h => ?_)
    subst h
    simp_all [dP_false]))
 <| fun q1 => have p1 := booF q1; .r 35 <| .fin (x := aB false) (r := aB (dP (a = b))) [] trivial (by
    refine sF (fun h => ?_)
    subst h
    simp_all [dP_false])) Tryz.func17 rfl (by kernel_rfl) (by kernel_rfl)
theorem opsDoes_data (f : Fsy) (c : Cal) (r : Rep) (okf : OkF f) (okc0 : OkC0 c) (hr : r.names.length ≤ 8796093022207) : FSpec Tryz.prog 3 [.agg [.sl 5 false (f.l.map nodA), aI f.next], .agg [aI c.kind, aI c.ino, aI c.to, aI c.at_, aI c.many, aS c.name, aS c.name2, aS c.text], .agg [aI r.e, aI r.a, aI r.b, aI r.n, aS r.text, .sl 1 false (r.names.map txA)]] (aB true) := by
  exact spec_vc (F := Tryz.f3) 400 (
 .new fun b1 => .new fun b2 => .new fun b3 => .r 1 <| .call (shown11) <|
 .r 1 <| .run 1 [b1 = b1] rt1 <|
 .call (few11 f okf) <|
 .r 1 <| .r 3 <| .br 19 (!(dP (fewF f ∧ rightP f ∧ f.next < 1152921504606846976))) (fun q1 => have q1 := notT q1; have p1 := booF q1; .r 5 <| .r 2 <| .fin (x := aB true) (r := aB true) [] trivial (by exact Sub.of_eq (by first | rfl | (refine congrArg aB ?_; simp; done))))
 <| fun q1 => have q1 := notF q1; have p1 := booT q1; have hfr := dP_true.1 q1; have hp := hfr.2.1.1; have hx := hfr.2.2; have T := rightP_tree hfr.1 hfr.2.1; have hmid := midF_of hfr.1 (Kept.self okf T); .run 2 [b2 = b2] rt1 <|
 .callS (args0 := [.sl 8 true ([[aI c.kind, aI c.ino, aI c.to, aI c.at_, aI c.many, aS c.name, aS c.name2, aS c.text]])]) (args := [.sl 8 false ([c].map calA)]) ⟨Sub.loose _ _ _, trivial⟩ (small_spec [c] (by show 1 ≤ _; omega) (fun x hx => by rw [List.mem_singleton.1 hx]; exact okc0)) <|
 .r 2 <| .br 24 (!(dP (smallP [c]))) (fun q2 => have q2 := notT q2; have p2 := booF q2; .r 2 <| .fin (x := aB true) (r := aB true) [] trivial (by exact Sub.of_eq (by first | rfl | (refine congrArg aB ?_; simp; done))))
 <| fun q2 => have q2 := notF q2; have p2 := booT q2; have okc := small_ok (dP_true.1 q2) (List.mem_singleton.2 rfl) okc0; have kd := kept_do okf okc T (by omega); have htx := (small_txt (dP_true.1 q2) (List.mem_singleton.2 rfl)).2.2; .run 2 [b1 = b1, b2 = b2] rt2 <|
 .call (do_spec f c okf okc hp (by omega)) <|
 .r 3 <| .new fun b4 => .new fun b5 => .run 2 [b4 = b4, b5 = b5] rt2 <|
 .run 2 [b1 = b1, b2 = b2] rt2 <|
 .call (rdo_spec f c okf okc hp (by omega) T hmid (by omega)) <|
 .r 3 <| .new fun b6 => .new fun b7 => .run 2 [b6 = b6, b7 = b7] rt2 <|
 .ord [0, 1, 2, 3, 4, 5, 6, 7, 8, 9, 10, 12, 13, 11, 14, 15, 16, 17] <| .run 2 [b4 = b4, b6 = b6] rt2 <|
 .call (fsame_spec (doF f c).1 (doF f c).1 kd.ok kd.ok) <|
 .r 1 <| .is 41 (show (dP ((doF f c).1 = (doF f c).1)) = true from (dP_true.2 rfl)) <| .run 2 [b5 = b5, b7 = b7] rt2 <|
 .call (rsameG_spec (doF f c).2 (doF f c).2 (do_names_le hp) (Nat.le_trans (do_names_le hp) (by decide))) <|
 .r 2 <| .is 46 (show (dP ((doF f c).2 = (doF f c).2)) = true from (dP_true.2 rfl)) <| .run 4 [b1 = b1, b2 = b2, b1 = b1, b2 = b2] rt4 <|
 .call (looksG_spec f c okf okc hp) <|
 .call (rlooks_spec f c okf okc hp) <|
 .call (ints_spec (looksU f c) (rlooksF f c) (by have := looksU_len f c; omega) (by rw [← rlooks_eq hp]; have := looksU_len f c; omega)) <|
 .r 2 <| .ord [0, 1, 2, 3, 4, 5, 6, 8, 9, 7, 10, 11, 12, 13] <| .r 5 <| .is 59 (show (dP (looksU f c = rlooksF f c)) = true from (dP_true.2 (rlooks_eq hp))) <| .run 4 [b5 = b5, b3 = b3, b5 = b5, b3 = b3] rt4 <|
 .call (osameG_spec (doF f c).2 r (do_names_le hp) hr) <|
 .call (rsameG_spec (doF f c).2 r (do_names_le hp) hr) <|
 .r 3 <| .fin (x := aB ((dP ((doF f c).2 = r)) == (dP ((doF f c).2 = r)))) (r := aB true) [] trivial (by exact Sub.of_eq (by first | rfl | (refine congrArg aB ?_; simp; done)))) Tryz.func3 rfl (by kernel_rfl) (by kernel_rfl)
end Go.Proofs.YtkhnialfkndiiaaGreat

set_option linter.unusedVariables false
set_option linter.unusedSimpArgs false
namespace Copyhold
open Go Go.RowKit Go.ChangeShapes Go.WideShapes Go.ChangeAt Go.Deep
structure Opn {α : Type} (P : Program) (W : World) (t : TypeId) (en : α → List AV) (ok : α → Prop) : Prop where
  run : ∀ (H : Type) (enc : TypeId × Value → H) (fuel : Nat) (cs : List Value) (x : DataW H × List MemPlace),
    DataW.trod enc P W 0 (fun _ => true) true fuel t cs = some x → (∀ p ∈ x.2, p.block < W.heap.size) → (∀ n ∈ DataW.weights P t x.1, n ≤ 140737488351232) →
    ∃ a, CellsR (· < W.heap.size) W (en a) cs ∧ (∀ u ∈ cs, u.oneCell' = true) ∧ ok a
section
variable {P : Program} {W : World} {t : TypeId}
theorem Opn.map {α β : Type} {en : α → List AV} {ok : α → Prop} {en' : β → List AV} {ok' : β → Prop} (h : Opn P W t en ok) (f : α → β) (he : ∀ a, en' (f a) = en a) (ho : ∀ a, ok a → ok' (f a)) : Opn P W t en' ok' := Opn.mk fun H enc fuel cs x h1 h2 h3 => by
  obtain ⟨a, g1, g2, g3⟩ := h.run H enc fuel cs x h1 h2 h3
  exact ⟨f a, by rw [he]; exact g1, g2, ho a g3⟩
theorem cells_one {D : Nat → Prop} {w : World} {a : AV} {v : Value} (h : Ra D w a v) : CellsR D w [a] [v] := ⟨rfl, fun j x u hx hu => by
  match j, hx, hu with
  | 0, hx, hu => simp at hx hu; subst hx hu; exact h
  | j + 1, hx, _ => simp at hx⟩
theorem wf_i64 {z : Int} (w : (Lit.int .i64 z).wf = true) : -9223372036854775808 ≤ z ∧ z ≤ 9223372036854775807 := by
  simpa [Lit.wf, IntKind.min, IntKind.max, IntKind.signed, IntKind.bits] using w
theorem opn_int (hu : P.underlying t = some (.int .i64)) : Opn P W t (fun n : Int => [aI n]) (fun n => -9223372036854775808 ≤ n ∧ n ≤ 9223372036854775807) := Opn.mk fun H enc fuel cs x h1 h2 h3 => by
  obtain ⟨n, rfl, rfl, hw⟩ := DataW.trod_int hu h1
  exact ⟨n, cells_one (.val _), fun u hu => by obtain rfl := List.mem_singleton.1 hu; rfl, wf_i64 hw⟩
theorem opn_string (hu : P.underlying t = some .string) : Opn P W t (fun n : List UInt8 => [aS n]) (fun n => n.length ≤ 140737488351232) := Opn.mk fun H enc fuel cs x h1 h2 h3 => by
  obtain ⟨s, rfl, rfl, _⟩ := DataW.trod_string hu h1
  exact ⟨s.data.toList, cells_one (.val _), fun u hu => by obtain rfl := List.mem_singleton.1 hu; rfl, h3 _ (by simp [DataW.weights])⟩
theorem opn_slice {α : Type} {en : α → List AV} {ok : α → Prop} {e : TypeId} {k : Nat} (h : Opn P W e en ok) (a0 : α) (hu : P.underlying t = some (.slice e)) (hc : P.cellsOf e = k) (hk : 0 < k) (hb : 16 ≤ P.bytesOf e) :
    Opn P W t (fun l : List α => [.sl k false (l.map en)]) (fun l => l.length ≤ 8796093022207 ∧ ∀ a ∈ l, ok a) := Opn.mk fun H enc fuel cs x h1 h2 h3 => by
  obtain ⟨v, rs, rfl, hr, hd⟩ := open_slice_of (k := k) (R := fun a cs => CellsR (· < W.heap.size) W (en a) cs ∧ (∀ u ∈ cs, u.oneCell' = true) ∧ ok a) hu hc hk a0 (fun n cs' y hy hl hcl hww => h.run H enc n cs' y hy hl hww) h1 h2 h3
  have hsz := rows_sized hu hd h3
  have := Nat.le_trans (Nat.mul_le_mul_left rs.length hb) hsz
  have hra : Ra (· < W.heap.size) W (.sl k false (rs.map en)) v := ra_of_slOf hr (· < W.heap.size) (fun _ h => h) (fun a _ cs _ hR => ⟨hR.2.1, hR.1⟩)
  obtain ⟨A, c, rfl⟩ := hr.shape
  refine ⟨rs, cells_one hra, fun u hu => by obtain rfl := List.mem_singleton.1 hu; rfl, by omega, fun a ha => ?_⟩
  obtain ⟨css, g1, g2, g3⟩ := hr
  obtain ⟨i, hi, rfl⟩ := List.mem_iff_getElem.1 ha
  exact (g3 i _ _ (List.getElem?_eq_getElem (by omega)) (List.getElem?_eq_getElem hi)).2.2.2
structure OpnFs {γ : Type} (P : Program) (W : World) (N : Nat) (fs : List Field) (off : Nat) (en : γ → List AV) (ok : γ → Prop) : Prop where
  run : ∀ (H : Type) (enc : TypeId × Value → H) (m : Nat) (cs : List Value) (xs : List (DataW H × List MemPlace)), cs.length = N → xs.length = fs.length →
    (∀ (i : Nat) (f : Field), fs[i]? = some f → DataW.trod enc P W 0 (fun _ => true) true m f.type ((cs.drop f.offset).take (P.cellsOf f.type)) = xs[i]?) →
    (∀ x ∈ xs, ∀ p ∈ x.2, p.block < W.heap.size) → (∀ n ∈ DataW.weightsEach P (fs.map (·.type)) (xs.map (·.1)), n ≤ 140737488351232) →
    ∃ g, CellsR (· < W.heap.size) W (en g) (cs.drop off) ∧ (∀ u ∈ cs.drop off, u.oneCell' = true) ∧ ok g
theorem opnF_nil (N : Nat) : OpnFs P W N [] N (fun _ : Unit => []) (fun _ => True) := OpnFs.mk fun H enc m cs xs h1 h2 h3 h4 h5 => by
  have : cs.drop N = [] := List.drop_eq_nil_of_le (by omega)
  rw [this]
  exact ⟨(), ⟨rfl, fun j a u ha => by simp at ha⟩, fun u hu => by simp at hu, trivial⟩
theorem cells_append {D : Nat → Prop} {w : World} {xs ys : List AV} {cs ds : List Value} (h : CellsR D w xs cs) (k : CellsR D w ys ds) : CellsR D w (xs ++ ys) (cs ++ ds) := by
  refine ⟨by simp [h.1, k.1], fun j a u ha hu => ?_⟩
  by_cases hj : j < xs.length
  · rw [List.getElem?_append_left hj] at ha
    rw [List.getElem?_append_left (by rw [h.1]; exact hj)] at hu
    exact h.2 j a u ha hu
  · rw [List.getElem?_append_right (by omega)] at ha
    rw [List.getElem?_append_right (by rw [h.1]; omega), h.1] at hu
    exact k.2 _ a u ha hu
theorem opnF_cons {α γ : Type} {N off k : Nat} {f : Field} {fs : List Field} {en : α → List AV} {ok : α → Prop} {en2 : γ → List AV} {ok2 : γ → Prop} (h : Opn P W f.type en ok) (ho : f.offset = off) (hk : P.cellsOf f.type = k)
    (hr : OpnFs P W N fs (off + k) en2 ok2) : OpnFs P W N (f :: fs) off (fun g : α × γ => en g.1 ++ en2 g.2) (fun g => ok g.1 ∧ ok2 g.2) := OpnFs.mk fun H enc m cs xs h1 h2 h3 h4 h5 => by
  obtain ⟨x0, xr, rfl⟩ : ∃ a r, xs = a :: r := by
    cases xs with
    | nil => simp at h2
    | cons a r => exact ⟨a, r, rfl⟩
  have g0 := h3 0 f rfl
  rw [ho, hk] at g0
  simp only [List.map_cons, DataW.weightsEach] at h5
  obtain ⟨a, ha, ha2, ha3⟩ := h.run H enc m _ x0 (by simpa using g0) (h4 x0 (by simp)) (fun n hn => h5 n (by simp [hn]))
  obtain ⟨g, hg, hg2, hg3⟩ := hr.run H enc m cs xr h1 (by simpa using h2) (fun i f' hf => by have := h3 (i + 1) f' (by simpa using hf); simpa using this) (fun x hx => h4 x (by simp [hx])) (fun n hn => h5 n (by simp [hn]))
  have e : cs.drop off = (cs.drop off).take k ++ cs.drop (off + k) := by
    rw [← List.drop_drop, List.take_append_drop]
  refine ⟨(a, g), ?_, ?_, ha3, hg3⟩
  · rw [e]; exact cells_append ha hg
  · intro u hu
    rw [e] at hu
    rcases List.mem_append.1 hu with h | h
    · exact ha2 u h
    · exact hg2 u h
theorem opn_struct {γ : Type} {N : Nat} {fs : Array Field} {en : γ → List AV} {ok : γ → Prop} (hu : P.underlying t = some (.struct fs)) (hc : P.cellsOf t = N) (h : OpnFs P W N fs.toList 0 en ok) : Opn P W t en ok := Opn.mk fun H enc fuel cs x h1 h2 h3 => by
  obtain ⟨xs, m, _, rfl, hl, hlen, hfl⟩ := DataW.trod_struct hu h1
  obtain ⟨g, g1, g2, g3⟩ := h.run H enc m cs xs (by rw [hl, hc]) (by simpa using hlen) (fun i f hf => hfl i f (by simpa using hf)) (fun x hx p hp => h2 p (by simp only [List.mem_flatMap]; exact ⟨x, hx, hp⟩))
    (fun n hn => h3 n (by simp only [DataW.weights, hu]; exact hn))
  exact ⟨g, by simpa using g1, by simpa using g2, g3⟩
theorem arg_struct {α : Type} {en : α → List AV} {ok : α → Prop} {fs : Array Field} {H : Type} {enc : TypeId × Value → H} {base : Nat} {v : Value} {d : DataW H} {p : List MemPlace} (h : Opn P W t en ok) (hu : P.underlying t = some (.struct fs)) (hv : Value.okWide P W .any base t v)
    (ht : ∃ fuel, DataW.trod enc P W 0 (fun _ => true) true fuel t v.cells.toList = some (d, p)) (hlt : ∀ x ∈ p, x.block < W.heap.size) (hw : ∀ n ∈ DataW.weights P t d, n ≤ 140737488351232) : ∃ a, Ra (· < W.heap.size) W (.agg (en a)) v ∧ ok a := by
  obtain ⟨cs, rfl, _⟩ := okWide_struct hu hv
  obtain ⟨fuel, ht⟩ := ht
  obtain ⟨a, g1, g2, g3⟩ := h.run H enc fuel _ _ ht hlt hw
  refine ⟨a, .agg _ _ (by have := g1.1; simp [Value.cells] at this; omega) (fun j u hj => g2 u (by have := Array.mem_of_getElem? hj; simpa [Value.cells] using this)) (fun j x u hx hj => g1.2 j x u hx (by simpa [Value.cells] using hj)), g3⟩
def RaL (D : Nat → Prop) (w : World) : List AV → List Value → Prop
  | [], [] => True
  | x :: xs, v :: vs => Ra D w x v ∧ RaL D w xs vs
  | _, _ => False
theorem raAllL {D : Nat → Prop} {w : World} : ∀ (xs : List AV) (vs : List Value), RaL D w xs vs → RaAll D w xs vs.toArray
  | [], [], _ => ⟨rfl, fun j a u ha => by simp at ha⟩
  | x :: xs, v :: vs, h => by
    have ih := raAllL xs vs h.2
    refine ⟨by have := ih.1; simp at this ⊢; exact this, fun j a u ha hu => ?_⟩
    cases j with
    | zero => simp at ha hu; subst ha hu; exact h.1
    | succ j => exact ih.2 j a u (by simpa using ha) (by simpa using hu)
  | [], _ :: _, h => h.elim
  | _ :: _, [], h => h.elim
theorem law_callsV {f : FuncId} {args : List AV} {vs : Array Value} {w : World} (h : FSpec P f args (aB true)) (hv : RaAll (· < w.heap.size) w args vs) :
    Calls P f vs w (fun e w' => e = .returned (.bool true) ∧ Below w.heap.size w w') := by
  refine (h _ w vs (fun _ h => h) hv).mono ?_
  rintro e w' ⟨v, D', rfl, hb, _, _, hr⟩
  cases hr
  exact ⟨rfl, hb⟩
end
end Copyhold

set_option linter.unusedVariables false
set_option linter.unusedSimpArgs false
namespace Go.Proofs.YtkhnialfkndiiaaGreat
open Go Go.RowKit Copyhold
theorem opv_ent (W : World) : Opn Tryz.prog W 101 entA OkE :=
  (opn_struct (N := 2) Tryz.underlying101 (by kernel_rfl) (opnF_cons (k := 1) (opn_string Tryz.underlying9) rfl (by kernel_rfl) (opnF_cons (k := 1) (opn_int Tryz.underlying3) rfl (by kernel_rfl) (opnF_nil 2)))).map (fun g => ⟨g.1, g.2.1⟩) (fun _ => rfl) (fun a h => ⟨h.1, h.2.1⟩)
theorem opv_ents (W : World) : Opn Tryz.prog W 57 (fun l : List (Ent) => [.sl 2 false (l.map entA)]) (fun l => l.length ≤ 8796093022207 ∧ ∀ a ∈ l, OkE a) := opn_slice (opv_ent W) (⟨[], 0⟩) Tryz.underlying57 (by kernel_rfl) (by decide) (Nat.le_of_ble_eq_true (by kernel_rfl))
theorem opv_nod (W : World) : Opn Tryz.prog W 59 nodA OkN :=
  (opn_struct (N := 5) Tryz.underlying59 (by kernel_rfl) (opnF_cons (k := 1) (opn_int Tryz.underlying3) rfl (by kernel_rfl) (opnF_cons (k := 1) (opn_int Tryz.underlying3) rfl (by kernel_rfl) (opnF_cons (k := 1) (opn_int Tryz.underlying3) rfl (by kernel_rfl) (opnF_cons (k := 1) (opn_string Tryz.underlying9) rfl (by kernel_rfl) (opnF_cons (k := 1) (opv_ents W) rfl (by kernel_rfl) (opnF_nil 5))))))).map (fun g => ⟨g.1, g.2.1, g.2.2.1, g.2.2.2.1, g.2.2.2.2.1⟩) (fun _ => rfl) (fun a h => ⟨h.1, h.2.1, h.2.2.1, h.2.2.2.1, h.2.2.2.2.1.1, h.2.2.2.2.1.2⟩)
theorem opv_nods (W : World) : Opn Tryz.prog W 22 (fun l : List (Nod) => [.sl 5 false (l.map nodA)]) (fun l => l.length ≤ 8796093022207 ∧ ∀ a ∈ l, OkN a) := opn_slice (opv_nod W) (⟨0, 0, 0, [], []⟩) Tryz.underlying22 (by kernel_rfl) (by decide) (Nat.le_of_ble_eq_true (by kernel_rfl))
theorem opv_fsy (W : World) : Opn Tryz.prog W 24 fsyA OkF :=
  (opn_struct (N := 2) Tryz.underlying24 (by kernel_rfl) (opnF_cons (k := 1) (opv_nods W) rfl (by kernel_rfl) (opnF_cons (k := 1) (opn_int Tryz.underlying3) rfl (by kernel_rfl) (opnF_nil 2)))).map (fun g => ⟨g.1, g.2.1⟩) (fun _ => rfl) (fun a h => ⟨h.2.1, h.1.1, h.1.2⟩)
end Go.Proofs.YtkhnialfkndiiaaGreat

set_option linter.unusedVariables false
set_option linter.unusedSimpArgs false
namespace Go.Proofs.YtkhnialfkndiiaaGreat
open Go Go.RowKit Copyhold
theorem opv_cal (W : World) : Opn Tryz.prog W 26 calA OkC0 :=
  (opn_struct (N := 8) Tryz.underlying26 (by kernel_rfl) (opnF_cons (k := 1) (opn_int Tryz.underlying3) rfl (by kernel_rfl) (opnF_cons (k := 1) (opn_int Tryz.underlying3) rfl (by kernel_rfl) (opnF_cons (k := 1) (opn_int Tryz.underlying3) rfl (by kernel_rfl) (opnF_cons (k := 1) (opn_int Tryz.underlying3) rfl (by kernel_rfl) (opnF_cons (k := 1) (opn_int Tryz.underlying3) rfl (by kernel_rfl) (opnF_cons (k := 1) (opn_string Tryz.underlying9) rfl (by kernel_rfl) (opnF_cons (k := 1) (opn_string Tryz.underlying9) rfl (by kernel_rfl) (opnF_cons (k := 1) (opn_string Tryz.underlying9) rfl (by kernel_rfl) (opnF_nil 8)))))))))).map (fun g => ⟨g.1, g.2.1, g.2.2.1, g.2.2.2.1, g.2.2.2.2.1, g.2.2.2.2.2.1, g.2.2.2.2.2.2.1, g.2.2.2.2.2.2.2.1⟩) (fun _ => rfl) (fun a h => ⟨h.1, h.2.1, h.2.2.1, h.2.2.2.1, h.2.2.2.2.1, h.2.2.2.2.2.1, h.2.2.2.2.2.2.1, h.2.2.2.2.2.2.2.1⟩)
end Go.Proofs.YtkhnialfkndiiaaGreat
