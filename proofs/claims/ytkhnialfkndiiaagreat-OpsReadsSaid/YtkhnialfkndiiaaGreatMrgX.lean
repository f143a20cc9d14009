/- The document's example of calls; few. What is made and written is read: the mathematics; the law OpsReads over data. The law OpsReads over data. What comes in, by its type: an abstract value that describes it. Over any program. No conditions beyond each law's own. -/
import Derived.Test.YtkhnialfkndiiaaGreatMrgW
import Derived.Test.YtkhnialfkndiiaaGreatMrgT
import Derived.Test.YtkhnialfkndiiaaGreatMrgH
set_option linter.unusedVariables false
set_option linter.unusedSimpArgs false
namespace Go.Proofs.YtkhnialfkndiiaaGreat
open Go Go.RowKit Copyhold
open Copyhold.Name (Srt insE delE getE isAt)
theorem do_at {f g : Fsy} {c : Cal} {r : Rep} (okf : OkF f) (okc : OkCal c) (hp : rowsP f) (hx : f.next < 9223372036854775807) (h : doF f c = (g, r)) : FSpec Tryz.prog 14 [.agg [.sl 5 false (f.l.map nodA), aI f.next], .agg [aI c.kind, aI c.ino, aI c.to, aI c.at_, aI c.many, aS c.name, aS c.name2, aS c.text]] (.tup [.agg (fsyA g), .agg (repA r)]) := by
  have := do_spec f c okf okc hp hx
  rw [h] at this
  exact this
theorem i0 : I64 0 := ⟨by decide, by decide⟩
theorem ismall {k : Int} (h : 0 ≤ k) (h2 : k ≤ 1000000) : I64 k := ⟨by omega, by omega⟩
def cA : Cal := ⟨6, 1, 0, 0, 0, [97], [], []⟩
theorem cA_ok : OkCal cA := ⟨ismall (by decide) (by decide), ismall (by decide) (by decide), i0, i0, i0, by show 1 ≤ _; omega, Nat.zero_le _, Nat.zero_le _⟩
noncomputable def fA : Fsy := addF newF 1 [97] (addN newF fileN)
theorem doA1 : doF newF cA = (fA, ⟨0, 2, 0, 0, [], []⟩) := by
  refine do_yes (x := (fA, ⟨0, 2, 0, 0, [], []⟩)) ?_ rfl
  rw [deed_6 rfl]
  show addO newF cA fileN = _
  unfold addO
  show ((if addErr newF 1 [97] fileN = 0 then _ else _), (⟨addErr newF 1 [97] fileN, _, _, _, _, _⟩ : Rep)) = _
  rw [add_new, if_pos rfl]
  rfl
theorem fA_facts : rowsP fA ∧ OkF fA ∧ fA.next = 3 ∧ (∃ d, atF fA 1 = some d ∧ d.kind = 2 ∧ d.l = [⟨[97], 2⟩]) ∧ (fA.l.length : Int) = 2 := by
  have hb := back_facts newF_rows add_new
  have ho := add_ok (n := fileN) (s := [97]) newF_ok newF_rows fileN_ok (by decide) add_new (by decide)
  refine ⟨hb.1, ho, ?_, ?_, ?_⟩
  · obtain ⟨d, A⟩ := adds_of add_new
    have hr := rows_rise newF_rows
    have hroot : atF newF 1 = some rootN := rfl
    unfold fA addF
    rw [show (addN newF fileN).ino = 2 from rfl, enter_set hroot]
    rw [put_next2]
    · rw [show (setL newF rootN (entL rootN.l [97] 2)).next = 2 from put_next (by decide)]; rfl
    · rw [show (setL newF rootN (entL rootN.l [97] 2)).next = 2 from put_next (by decide)]; rfl
  · have hroot : atF newF 1 = some rootN := rfl
    have he : entE rootN.l [97] 2 = 0 := entE_cases chk_a (by decide) rfl (by decide)
    have hl : entL rootN.l [97] 2 = [⟨[97], 2⟩] := by unfold entL; rw [if_pos he]; rfl
    have hk : rowP rootN.l := rowP_nil
    obtain ⟨s1, s2, s3, s4⟩ := setL_rows newF_rows hroot rfl (ent_row (n := 2) hk chk_a (by decide) rfl (by decide))
    refine ⟨withL rootN (entL rootN.l [97] 2), ?_, rfl, hl⟩
    unfold fA addF
    rw [show (addN newF fileN).ino = 2 from rfl, enter_set hroot, at_put (rows_rise s1), if_neg (by decide), s4, if_pos rfl]
  · have := add_len
    rw [if_pos add_new] at this
    exact this
theorem doA2 : doF fA cA = (fA, errR 7) := by
  obtain ⟨h1, h2, h3, ⟨d, hd, hk, hl⟩, _⟩ := fA_facts
  obtain ⟨g1, g2⟩ := dir_of hd hk
  have he : addErr fA 1 [97] fileN = 7 := by
    unfold addErr
    rw [first5, if_pos g1, if_pos chk_a, g2, hl]
    rw [if_neg (by decide)]
    rfl
  have hde : deedF fA cA = addO fA cA fileN := deed_6 rfl
  have h7 : (addO fA cA fileN).2.e = 7 := he
  rw [do_no hde (by rw [h7]; decide), h7]
theorem looksA : looksF fA cA = [0, 1, 2] ∧ looksL fA cA = [1, 0, 2] := by
  obtain ⟨h1, h2, h3, ⟨d, hd, hk, hl⟩, _⟩ := fA_facts
  obtain ⟨g1, g2⟩ := dir_of hd hk
  have h0 : dirE fA 0 = 6 := (dirE_6 (find_0 h1)).1
  have e : looksL fA cA = [1, 0, 2] := by
    show lk1 fA cA (lk1 fA cA [1, 0] 1) 0 = _
    have e1 : lk1 fA cA [1, 0] 1 = [1, 0, 2] := by
      unfold lk1
      rw [if_pos g1, g2, hl]
      rfl
    rw [e1]
    unfold lk1
    rw [if_neg (by rw [h0]; decide)]
  refine ⟨?_, e⟩
  unfold looksF
  rw [if_neg (by decide), e]
  rfl
theorem adjA : AdjN (sortF (looksL fA cA)) := by
  rw [looksA.2]
  intro k x y hk hx hy
  match k, hk, hx, hy with
  | 1, _, hx, hy => cases hx; cases hy; decide
  | 2, _, hx, hy => cases hx; cases hy; decide
  | k + 3, _, hx, _ => exact absurd hx (by show ¬ ([0, 1, 2] : List Int)[k + 3]? = some x; simp)
set_option maxRecDepth 100000 in
set_option maxHeartbeats 4000000 in
theorem shown11  : FSpec Tryz.prog 11 [] (aB true) := by
  exact spec_vc (F := Tryz.f11) 400 (
 .r 1 <| .r 1 <| .new fun b1 => .run 1 [b1 = b1] ⟨rfl, trivial⟩ <|
 let J1 : Jn (Nat × Nat) := ⟨fun j1 => ⟨[(0, aB false), (1, .ptr 1 b1 0), (2, .ptr 2 j1.1 0), (3, .ptr 3 j1.2 0)], [(1, .box b1 26 [aI 6, aI 1, aI 0, aI 0, aI 0, aS ([97]), aS ([]), aS ([])]), (2, .box j1.1 24 [.sl 5 false (fA.l.map nodA), aI fA.next]), (3, .box j1.2 30 [aI 0, aI 2, aI 0, aI 0, aS ([]), .sl 1 false (([] : List Txt).map txA)])]⟩, fun _ => True⟩
 .cut J1 (.pick [1] <| .run 1 [b1 = b1] ⟨rfl, trivial⟩ <|
 .fork <| .alt (.call (rnew_spec) <|
 .fork <| .alt (.call (do_at newF_ok cA_ok newF_rows (by decide) doA1) <|
 .pick [3, 4, 5] <| .r 3 <| .fork <| .alt (.new fun b2 => .pick [7, 8, 9] <| .new fun b3 => .run 2 [b2 = b2, b3 = b3] ⟨rfl, rfl, trivial⟩ <|
 .join J1 (b2, b3) trivial ⟨[(0, aB false), (1, .ptr 1 b1 0), (2, .ptr 2 b2 0), (3, .ptr 3 b3 0)], [(1, .box b1 26 [aI 6, aI 1, aI 0, aI 0, aI 0, aS ([97]), aS ([]), aS ([])]), (2, .box b2 24 [.sl 5 false (fA.l.map nodA), aI fA.next]), (3, .box b3 30 [aI 0, aI 2, aI 0, aI 0, aS ([]), .sl 1 false (([] : List Txt).map txA)])]⟩ ⟨Sub.refl _, Sub.refl _, Sub.refl _, Sub.refl _, trivial⟩ ⟨⟨_, rfl, SubB.refl _⟩, ⟨_, rfl, SubB.refl _⟩, ⟨_, rfl, SubB.refl _⟩, trivial⟩)
 <| .new fun b4 => .pick [6, 8, 9] <| .new fun b5 => .run 2 [b5 = b5, b4 = b4] ⟨rfl, rfl, trivial⟩ <|
 .join J1 (b5, b4) trivial ⟨[(0, aB false), (1, .ptr 1 b1 0), (2, .ptr 2 b5 0), (3, .ptr 3 b4 0)], [(1, .box b1 26 [aI 6, aI 1, aI 0, aI 0, aI 0, aS ([97]), aS ([]), aS ([])]), (2, .box b5 24 [.sl 5 false (fA.l.map nodA), aI fA.next]), (3, .box b4 30 [aI 0, aI 2, aI 0, aI 0, aS ([]), .sl 1 false (([] : List Txt).map txA)])]⟩ ⟨Sub.refl _, Sub.refl _, Sub.refl _, Sub.refl _, trivial⟩ ⟨⟨_, rfl, SubB.refl _⟩, ⟨_, rfl, SubB.refl _⟩, ⟨_, rfl, SubB.refl _⟩, trivial⟩)
 <| .alt (.new fun b6 => .fork <| .alt (.call (do_at newF_ok cA_ok newF_rows (by decide) doA1) <|
 .pick [3, 4, 5, 7, 8, 9] <| .r 3 <| .new fun b7 => .run 2 [b6 = b6, b7 = b7] ⟨rfl, rfl, trivial⟩ <|
 .join J1 (b6, b7) trivial ⟨[(0, aB false), (1, .ptr 1 b1 0), (2, .ptr 2 b6 0), (3, .ptr 3 b7 0)], [(1, .box b1 26 [aI 6, aI 1, aI 0, aI 0, aI 0, aS ([97]), aS ([]), aS ([])]), (2, .box b6 24 [.sl 5 false (fA.l.map nodA), aI fA.next]), (3, .box b7 30 [aI 0, aI 2, aI 0, aI 0, aS ([]), .sl 1 false (([] : List Txt).map txA)])]⟩ ⟨Sub.refl _, Sub.refl _, Sub.refl _, Sub.refl _, trivial⟩ ⟨⟨_, rfl, SubB.refl _⟩, ⟨_, rfl, SubB.refl _⟩, ⟨_, rfl, SubB.refl _⟩, trivial⟩)
 <| .new fun b8 => .pick [2, 3, 4, 5, 8, 9] <| .call (do_at newF_ok cA_ok newF_rows (by decide) doA1) <|
 .run 5 [b6 = b6, b8 = b8] ⟨rfl, rfl, trivial⟩ <|
 .join J1 (b6, b8) trivial ⟨[(0, aB false), (1, .ptr 1 b1 0), (2, .ptr 2 b6 0), (3, .ptr 3 b8 0)], [(1, .box b1 26 [aI 6, aI 1, aI 0, aI 0, aI 0, aS ([97]), aS ([]), aS ([])]), (2, .box b6 24 [.sl 5 false (fA.l.map nodA), aI fA.next]), (3, .box b8 30 [aI 0, aI 2, aI 0, aI 0, aS ([]), .sl 1 false (([] : List Txt).map txA)])]⟩ ⟨Sub.refl _, Sub.refl _, Sub.refl _, Sub.refl _, trivial⟩ ⟨⟨_, rfl, SubB.refl _⟩, ⟨_, rfl, SubB.refl _⟩, ⟨_, rfl, SubB.refl _⟩, trivial⟩)
 <| .new fun b9 => .fork <| .alt (.call (do_at newF_ok cA_ok newF_rows (by decide) doA1) <|
 .pick [3, 4, 5, 6, 8, 9] <| .r 3 <| .new fun b10 => .run 2 [b10 = b10, b9 = b9] ⟨rfl, rfl, trivial⟩ <|
 .join J1 (b10, b9) trivial ⟨[(0, aB false), (1, .ptr 1 b1 0), (2, .ptr 2 b10 0), (3, .ptr 3 b9 0)], [(1, .box b1 26 [aI 6, aI 1, aI 0, aI 0, aI 0, aS ([97]), aS ([]), aS ([])]), (2, .box b10 24 [.sl 5 false (fA.l.map nodA), aI fA.next]), (3, .box b9 30 [aI 0, aI 2, aI 0, aI 0, aS ([]), .sl 1 false (([] : List Txt).map txA)])]⟩ ⟨Sub.refl _, Sub.refl _, Sub.refl _, Sub.refl _, trivial⟩ ⟨⟨_, rfl, SubB.refl _⟩, ⟨_, rfl, SubB.refl _⟩, ⟨_, rfl, SubB.refl _⟩, trivial⟩)
 <| .new fun b11 => .pick [2, 3, 4, 5, 8, 9] <| .call (do_at newF_ok cA_ok newF_rows (by decide) doA1) <|
 .run 5 [b11 = b11, b9 = b9] ⟨rfl, rfl, trivial⟩ <|
 .join J1 (b11, b9) trivial ⟨[(0, aB false), (1, .ptr 1 b1 0), (2, .ptr 2 b11 0), (3, .ptr 3 b9 0)], [(1, .box b1 26 [aI 6, aI 1, aI 0, aI 0, aI 0, aS ([97]), aS ([]), aS ([])]), (2, .box b11 24 [.sl 5 false (fA.l.map nodA), aI fA.next]), (3, .box b9 30 [aI 0, aI 2, aI 0, aI 0, aS ([]), .sl 1 false (([] : List Txt).map txA)])]⟩ ⟨Sub.refl _, Sub.refl _, Sub.refl _, Sub.refl _, trivial⟩ ⟨⟨_, rfl, SubB.refl _⟩, ⟨_, rfl, SubB.refl _⟩, ⟨_, rfl, SubB.refl _⟩, trivial⟩)
 <| .alt (.new fun b12 => .fork <| .alt (.call (rnew_spec) <|
 .fork <| .alt (.call (do_at newF_ok cA_ok newF_rows (by decide) doA1) <|
 .pick [3, 4, 5, 7, 8, 9] <| .r 3 <| .new fun b13 => .run 2 [b12 = b12, b13 = b13] ⟨rfl, rfl, trivial⟩ <|
 .join J1 (b12, b13) trivial ⟨[(0, aB false), (1, .ptr 1 b1 0), (2, .ptr 2 b12 0), (3, .ptr 3 b13 0)], [(1, .box b1 26 [aI 6, aI 1, aI 0, aI 0, aI 0, aS ([97]), aS ([]), aS ([])]), (2, .box b12 24 [.sl 5 false (fA.l.map nodA), aI fA.next]), (3, .box b13 30 [aI 0, aI 2, aI 0, aI 0, aS ([]), .sl 1 false (([] : List Txt).map txA)])]⟩ ⟨Sub.refl _, Sub.refl _, Sub.refl _, Sub.refl _, trivial⟩ ⟨⟨_, rfl, SubB.refl _⟩, ⟨_, rfl, SubB.refl _⟩, ⟨_, rfl, SubB.refl _⟩, trivial⟩)
 <| .new fun b14 => .pick [2, 3, 4, 5, 8, 9] <| .call (do_at newF_ok cA_ok newF_rows (by decide) doA1) <|
 .run 5 [b12 = b12, b14 = b14] ⟨rfl, rfl, trivial⟩ <|
 .join J1 (b12, b14) trivial ⟨[(0, aB false), (1, .ptr 1 b1 0), (2, .ptr 2 b12 0), (3, .ptr 3 b14 0)], [(1, .box b1 26 [aI 6, aI 1, aI 0, aI 0, aI 0, aS ([97]), aS ([]), aS ([])]), (2, .box b12 24 [.sl 5 false (fA.l.map nodA), aI fA.next]), (3, .box b14 30 [aI 0, aI 2, aI 0, aI 0, aS ([]), .sl 1 false (([] : List Txt).map txA)])]⟩ ⟨Sub.refl _, Sub.refl _, Sub.refl _, Sub.refl _, trivial⟩ ⟨⟨_, rfl, SubB.refl _⟩, ⟨_, rfl, SubB.refl _⟩, ⟨_, rfl, SubB.refl _⟩, trivial⟩)
 <| .new fun b15 => .pick [0, 2, 3, 4, 5, 8, 9] <| .call (rnew_spec) <|
 .call (do_at newF_ok cA_ok newF_rows (by decide) doA1) <|
 .run 5 [b12 = b12, b15 = b15] ⟨rfl, rfl, trivial⟩ <|
 .join J1 (b12, b15) trivial ⟨[(0, aB false), (1, .ptr 1 b1 0), (2, .ptr 2 b12 0), (3, .ptr 3 b15 0)], [(1, .box b1 26 [aI 6, aI 1, aI 0, aI 0, aI 0, aS ([97]), aS ([]), aS ([])]), (2, .box b12 24 [.sl 5 false (fA.l.map nodA), aI fA.next]), (3, .box b15 30 [aI 0, aI 2, aI 0, aI 0, aS ([]), .sl 1 false (([] : List Txt).map txA)])]⟩ ⟨Sub.refl _, Sub.refl _, Sub.refl _, Sub.refl _, trivial⟩ ⟨⟨_, rfl, SubB.refl _⟩, ⟨_, rfl, SubB.refl _⟩, ⟨_, rfl, SubB.refl _⟩, trivial⟩)
 <| .new fun b16 => .fork <| .alt (.call (rnew_spec) <|
 .fork <| .alt (.call (do_at newF_ok cA_ok newF_rows (by decide) doA1) <|
 .pick [3, 4, 5, 6, 8, 9] <| .r 3 <| .new fun b17 => .run 2 [b17 = b17, b16 = b16] ⟨rfl, rfl, trivial⟩ <|
 .join J1 (b17, b16) trivial ⟨[(0, aB false), (1, .ptr 1 b1 0), (2, .ptr 2 b17 0), (3, .ptr 3 b16 0)], [(1, .box b1 26 [aI 6, aI 1, aI 0, aI 0, aI 0, aS ([97]), aS ([]), aS ([])]), (2, .box b17 24 [.sl 5 false (fA.l.map nodA), aI fA.next]), (3, .box b16 30 [aI 0, aI 2, aI 0, aI 0, aS ([]), .sl 1 false (([] : List Txt).map txA)])]⟩ ⟨Sub.refl _, Sub.refl _, Sub.refl _, Sub.refl _, trivial⟩ ⟨⟨_, rfl, SubB.refl _⟩, ⟨_, rfl, SubB.refl _⟩, ⟨_, rfl, SubB.refl _⟩, trivial⟩)
 <| .new fun b18 => .pick [2, 3, 4, 5, 8, 9] <| .call (do_at newF_ok cA_ok newF_rows (by decide) doA1) <|
 .run 5 [b18 = b18, b16 = b16] ⟨rfl, rfl, trivial⟩ <|
 .join J1 (b18, b16) trivial ⟨[(0, aB false), (1, .ptr 1 b1 0), (2, .ptr 2 b18 0), (3, .ptr 3 b16 0)], [(1, .box b1 26 [aI 6, aI 1, aI 0, aI 0, aI 0, aS ([97]), aS ([]), aS ([])]), (2, .box b18 24 [.sl 5 false (fA.l.map nodA), aI fA.next]), (3, .box b16 30 [aI 0, aI 2, aI 0, aI 0, aS ([]), .sl 1 false (([] : List Txt).map txA)])]⟩ ⟨Sub.refl _, Sub.refl _, Sub.refl _, Sub.refl _, trivial⟩ ⟨⟨_, rfl, SubB.refl _⟩, ⟨_, rfl, SubB.refl _⟩, ⟨_, rfl, SubB.refl _⟩, trivial⟩)
 <| .new fun b19 => .pick [0, 2, 3, 4, 5, 8, 9] <| .call (rnew_spec) <|
 .call (do_at newF_ok cA_ok newF_rows (by decide) doA1) <|
 .run 5 [b19 = b19, b16 = b16] ⟨rfl, rfl, trivial⟩ <|
 .join J1 (b19, b16) trivial ⟨[(0, aB false), (1, .ptr 1 b1 0), (2, .ptr 2 b19 0), (3, .ptr 3 b16 0)], [(1, .box b1 26 [aI 6, aI 1, aI 0, aI 0, aI 0, aS ([97]), aS ([]), aS ([])]), (2, .box b19 24 [.sl 5 false (fA.l.map nodA), aI fA.next]), (3, .box b16 30 [aI 0, aI 2, aI 0, aI 0, aS ([]), .sl 1 false (([] : List Txt).map txA)])]⟩ ⟨Sub.refl _, Sub.refl _, Sub.refl _, Sub.refl _, trivial⟩ ⟨⟨_, rfl, SubB.refl _⟩, ⟨_, rfl, SubB.refl _⟩, ⟨_, rfl, SubB.refl _⟩, trivial⟩)
 <| fun j1 _ => (fun (b20 : Nat) (b21 : Nat) => .run 2 [b20 = b20, b1 = b1] ⟨rfl, rfl, trivial⟩ <|
 .call (do_at fA_facts.2.1 cA_ok fA_facts.1 (by rw [fA_facts.2.2.1]; decide) doA2) <|
 .r 3 <| .new fun b22 => .new fun b23 => .run 2 [b22 = b22, b23 = b23] ⟨rfl, rfl, trivial⟩ <|
 .run 4 [b21 = b21] ⟨rfl, trivial⟩ <|
 .is 22 (show (2 == 2) = true from rfl) <| .run 5 [b21 = b21] ⟨rfl, trivial⟩ <|
 .is 27 (show (0 == 0) = true from rfl) <| .run 5 [b23 = b23] ⟨rfl, trivial⟩ <|
 .is 32 (show (7 == 7) = true from rfl) <| .run 3 [b20 = b20] ⟨rfl, trivial⟩ <|
 .val 35 (show (aI ((fA.l.map nodA).length : Int) : AV) = aI (fA.l.length : Int) from by rw [List.length_map]) <| .r 3 <| .is 38 (show ((fA.l.length : Int) == 2) = true from (by rw [fA_facts.2.2.2.2]; rfl)) <| .run 2 [b20 = b20, b1 = b1] ⟨rfl, rfl, trivial⟩ <|
 .call (looks_spec fA cA fA_facts.2.1 cA_ok fA_facts.1 (fun _ => adjA)) <|
 .r 1 <| .val 42 (show (aI (((looksF fA cA).map intA).length : Int) : AV) = aI ((looksF fA cA).length : Int) from by rw [List.length_map]) <| .r 3 <| .fin (x := aB (((looksF fA cA).length : Int) == 3)) (r := aB true) [] trivial (by exact Sub.of_eq (congrArg aB (by first | rfl | (rw [looksA.1]; rfl))))) j1.1 j1.2) Tryz.func11 rfl (by kernel_rfl) (by kernel_rfl)
set_option maxRecDepth 100000 in
set_option maxHeartbeats 4000000 in
theorem few11 (f : Fsy) (okf : OkF f) : FSpec Tryz.prog 12 [.agg [.sl 5 false (f.l.map nodA), aI f.next]] (aB (dP (fewF f ∧ rightP f ∧ f.next < 1152921504606846976))) := by
  exact spec_vc (F := Tryz.f12) 400 (
 .new fun b1 => .r 1 <| .run 1 [b1 = b1] ⟨rfl, trivial⟩ <|
 .call (few_spec f okf) <|
 .r 1 <| .br 5 (dP (fewF f)) (fun q1 => have p1 := booT q1; .run 1 [b1 = b1] ⟨rfl, trivial⟩ <|
 .call (right_spec f okf (dP_true.1 q1)) <|
 .r 2 <| .br 9 (dP (rightP f)) (fun q2 => have p2 := booT q2; .run 5 [b1 = b1] ⟨rfl, trivial⟩ <|
 .fin (x := aB (decide (f.next < 1152921504606846976))) (r := aB (dP (fewF f ∧ rightP f ∧ f.next < 1152921504606846976))) [] trivial (by exact sE (⟨fun h => ⟨dP_true.1 q1, dP_true.1 q2, of_decide_eq_true h⟩, fun h => decide_eq_true h.2.2⟩)))
 <| fun q2 => have p2 := booF q2; .r 5 <| .fin (x := aB false) (r := aB (dP (fewF f ∧ rightP f ∧ f.next < 1152921504606846976))) [] trivial (by exact sF (fun h => dP_false.1 q2 h.2.1)))
 <| fun q1 => have p1 := booF q1; .r 9 <| .fin (x := aB false) (r := aB (dP (fewF f ∧ rightP f ∧ f.next < 1152921504606846976))) [] trivial (by exact sF (fun h => dP_false.1 q1 h.1))) Tryz.func12 rfl (by kernel_rfl) (by kernel_rfl)
end Go.Proofs.YtkhnialfkndiiaaGreat

set_option linter.unusedVariables false
set_option linter.unusedSimpArgs false
namespace Go.Proofs.YtkhnialfkndiiaaGreat
open Go Go.RowKit Copyhold
open Copyhold.Name (Srt insE delE getE isAt)
theorem read_put {s t : Txt} {a : Int} (h : refusedD a t.length = 0) : readD (if t = [] then s else putD s a.toNat t) a (t.length : Int) = (t, 0) := by
  have hr := h
  unfold refusedD at hr
  split at hr
  · rename_i hc
    unfold readD
    rw [if_pos hc]
    refine Prod.ext ?_ rfl
    show List.take (t.length : Int).toNat (List.drop a.toNat _) = t
    by_cases ht : t = []
    · subst ht; simp
    · rw [if_neg ht, Int.toNat_natCast]
      unfold putD
      have hl : (List.take a.toNat (fillD s (max s.length (a.toNat + t.length)))).length = a.toNat := by
        rw [List.length_take, fillD_length]; omega
      rw [List.append_assoc, List.drop_append_of_le_length (by omega), List.drop_of_length_le (by omega), List.nil_append, List.take_append_of_le_length (Nat.le_refl _), List.take_length]
  · cases hr
def kFile : Nod := ⟨0, 1, 0, [], []⟩
def cMk (dir : Int) (s : Txt) : Cal := ⟨6, dir, 0, 0, 0, s, [], []⟩
def cRd (i a m : Int) : Cal := ⟨3, i, 0, a, m, [], [], []⟩
def cLk (dir : Int) (s : Txt) : Cal := ⟨1, dir, 0, 0, 0, s, [], []⟩
def cWr (i a : Int) (t : Txt) : Cal := ⟨4, i, 0, a, 0, [], [], t⟩
theorem do_mk {f : Fsy} {dir : Int} {s : Txt} (h : addErr f dir s kFile = 0) : doF f (cMk dir s) = (addF f dir s (addN f kFile), ⟨0, f.next, 0, 0, [], []⟩) := by
  refine do_yes (x := (addF f dir s (addN f kFile), ⟨0, f.next, 0, 0, [], []⟩)) ?_ rfl
  rw [deed_6 rfl]
  show ((if addErr f dir s kFile = 0 then _ else _), (⟨addErr f dir s kFile, _, _, _, _, _⟩ : Rep)) = _
  rw [h, if_pos rfl]
  rfl
theorem do_mk0 {f : Fsy} {dir : Int} {s : Txt} (h : ¬ addErr f dir s kFile = 0) : doF f (cMk dir s) = (f, errR (addErr f dir s kFile)) := do_no (x := addO f (cMk dir s) kFile) (deed_6 rfl) h
theorem do_mkE {f : Fsy} {dir : Int} {s : Txt} : (doF f (cMk dir s)).2.e = addErr f dir s kFile := by
  by_cases h : addErr f dir s kFile = 0
  · rw [do_mk h, h]
  · rw [do_mk0 h]; rfl
theorem do_mkA {f : Fsy} {dir : Int} {s : Txt} (h : ¬ addErr f dir s kFile = 0) : (doF f (cMk dir s)).2.a = 0 := by rw [do_mk0 h]; rfl
structure Made (f : Fsy) (dir : Int) (s : Txt) (g : Fsy) : Prop where
  mkd : doF f (cMk dir s) = (g, ⟨0, f.next, 0, 0, [], []⟩)
  ok : OkF g
  rows : rowsP g
  next : g.next < 9223372036854775807
  i64 : I64 f.next
  node : atF g f.next = some ⟨f.next, 1, 1, [], []⟩
  read : doF g (cRd f.next 0 9) = (g, ⟨0, 0, 0, 0, [], []⟩)
  look : doF g (cLk dir s) = (g, ⟨0, f.next, 0, 0, [], []⟩)
theorem made_of {f : Fsy} {dir : Int} {s : Txt} (okf : OkF f) (hp : rowsP f) (hs : s.length ≤ 1000000) (hx : f.next < 1152921504606846976) (h : addErr f dir s kFile = 0) : Made f dir s (addF f dir s (addN f kFile)) := by
  have hb := back_facts hp h
  have ho := add_ok (n := kFile) okf hp kfile_ok hs h (by omega)
  obtain ⟨b1, b2, b3, b4, b5, b6, b7⟩ := hb
  have hX : withL (addN f kFile) [] = ⟨f.next, 1, 1, [], []⟩ := rfl
  rw [hX] at b3
  have hat : atF (addF f dir s (addN f kFile)) f.next = some ⟨f.next, 1, 1, [], []⟩ := by
    unfold addF
    have h1 : RiseN (enterF f dir s (addN f kFile).ino).l := enter_rise hp _ _ _
    rw [at_put h1]
    exact if_pos rfl
  have hn : (addF f dir s (addN f kFile)).next = f.next + 1 := by
    obtain ⟨d, A⟩ := adds_of h
    have hne := (rows_at hp A.dir).2.1
    unfold addF
    rw [show (addN f kFile).ino = f.next from rfl, enter_set A.dir, put_next2]
    · rw [show (setL f d (entL d.l s f.next)).next = f.next from put_next hne]
    · rw [show (setL f d (entL d.l s f.next)).next = f.next from put_next hne]; rfl
  obtain ⟨n1, n2⟩ := at_BN hat
  refine ⟨do_mk h, ho, b1, by rw [hn]; omega, okf.1, hat, ?_, ?_⟩
  · refine do_yes (x := (_, ⟨0, 0, 0, 0, [], []⟩)) ?_ rfl
    rw [deed_3 rfl]
    have hof : ofE (addF f dir s (addN f kFile)) f.next 1 = 0 := by unfold ofE; rw [if_pos n1, if_pos (by rw [n2])]
    have e : readO (addF f dir s (addN f kFile)) (cRd f.next 0 9) = _ := if_pos hof
    rw [e]
    show (_, (⟨(readD (findN _ f.next).text 0 9).2, 0, 0, 0, (readD (findN _ f.next).text 0 9).1, []⟩ : Rep)) = _
    rw [n2] <;> rfl
  · refine do_yes (x := (_, ⟨0, f.next, 0, 0, [], []⟩)) ?_ rfl
    rw [deed_1 rfl]
    show (_, (⟨lookE _ dir s, (lookN _ dir s).ino, 0, 0, [], []⟩ : Rep)) = _
    rw [b2, b3]
structure Wrt (g : Fsy) (i a : Int) (t : Txt) (b : Fsy) (r : Rep) : Prop where
  wr : doF g (cWr i a t) = (b, r)
  ok : OkF b
  rows : rowsP b
  next : b.next < 9223372036854775807
  node : ∃ n, atF b i = some n ∧ n.kind = 1
  read : r.e = 0 → r.a = (t.length : Int) ∧ doF b (cRd i a (t.length : Int)) = (b, ⟨0, 0, 0, 0, t, []⟩)
theorem wrt_of {g : Fsy} {i a : Int} {t : Txt} (okg : OkF g) (hp : rowsP g) (hx : g.next < 9223372036854775807) (ht : t.length ≤ 1000) {n : Nod} (hn : atF g i = some n) (hk : n.kind = 1) : ∃ b r, Wrt g i a t b r := by
  obtain ⟨n1, n2⟩ := at_BN hn
  obtain ⟨r1, r2, r3⟩ := rows_at hp hn
  have hof : ofE g i 1 = 0 := by unfold ofE; rw [if_pos n1, if_pos (by rw [n2]; exact hk)]
  have e : deedF g (cWr i a t) = (putF g (withT n (writeD n.text a t).1), ⟨(writeD n.text a t).2, (t.length : Int), 0, 0, [], []⟩) := by
    rw [deed_4 rfl]
    have e : writeO g (cWr i a t) = _ := if_pos hof
    rw [e]
    show (putF g (withT (findN g i) (writeD (findN g i).text a t).1), (⟨(writeD (findN g i).text a t).2, _, 0, 0, [], []⟩ : Rep)) = _
    rw [n2] <;> rfl
  by_cases hw : refusedD a t.length = 0
  · have hwd : writeD n.text a t = (if t = [] then n.text else putD n.text a.toNat t, 0) := if_pos hw
    rw [hwd] at e
    have hz := refusedD_zero hw
    have htl : n.text.length ≤ 4096 := txt_lenN hp (at_mem hn)
    have hlen : (if t = [] then n.text else putD n.text a.toNat t).length ≤ 4096 := by
      split
      · exact htl
      · rw [putD_length]; omega
    have hN : nodP (withT n (if t = [] then n.text else putD n.text a.toNat t)) := ⟨r1.1, r1.2.1, r1.2.2.1, .inr ⟨.inl hk, hlen, (by show n.l = []; exact file_none r1 (by omega))⟩⟩
    obtain ⟨p1, p2, p3, p4⟩ := put_there (n := withT n (if t = [] then n.text else putD n.text a.toNat t)) hp hn r3 hN
    have okn := okg.2.2 n (at_mem hn)
    obtain ⟨hf, hf2⟩ := okg.1
    have h256 : g.l.length ≤ 256 := hp.1
    have hB : atF (putF g (withT n (if t = [] then n.text else putD n.text a.toNat t))) i = some (withT n (if t = [] then n.text else putD n.text a.toNat t)) := by rw [p4, if_pos rfl]
    refine ⟨_, _, do_yes e rfl, put_ok okg ⟨okn.1, okn.2.1, okn.2.2.1, by show (if t = [] then n.text else putD n.text a.toNat t).length ≤ _; omega, okn.2.2.2.2⟩ (by show n.ino < _; omega) (by omega), p1, by rw [p3]; exact hx, ⟨_, hB, hk⟩, fun _ => ⟨rfl, ?_⟩⟩
    obtain ⟨m1, m2⟩ := at_BN hB
    refine do_yes (x := (_, ⟨0, 0, 0, 0, t, []⟩)) ?_ rfl
    rw [deed_3 rfl]
    have hof2 : ofE (putF g (withT n (if t = [] then n.text else putD n.text a.toNat t))) i 1 = 0 := by unfold ofE; rw [if_pos m1, if_pos (by rw [m2]; exact hk)]
    have e2 : readO (putF g (withT n (if t = [] then n.text else putD n.text a.toNat t))) (cRd i a (t.length : Int)) = _ := if_pos hof2
    rw [e2]
    show (_, (⟨(readD (findN _ i).text a (t.length : Int)).2, 0, 0, 0, (readD (findN _ i).text a (t.length : Int)).1, []⟩ : Rep)) = _
    rw [m2]
    show (_, (⟨(readD (if t = [] then n.text else putD n.text a.toNat t) a (t.length : Int)).2, 0, 0, 0, (readD (if t = [] then n.text else putD n.text a.toNat t) a (t.length : Int)).1, []⟩ : Rep)) = _
    rw [read_put hw]
  · have hwd : writeD n.text a t = (n.text, refusedD a t.length) := if_neg hw
    rw [hwd] at e
    refine ⟨g, errR (refusedD a t.length), do_no e hw, okg, hp, hx, ⟨n, hn, hk⟩, fun h0 => absurd h0 hw⟩
structure Rds where
  f : Fsy
  dir : Int
  s : Txt
  at_ : Int
  t : Txt
def rdsA (a : Rds) : List AV := [.sl 5 false (a.f.l.map nodA), aI a.f.next, aI a.dir, aS a.s, aI a.at_, aS a.t]
def OkRds (a : Rds) : Prop := OkF a.f ∧ I64 a.dir ∧ I64 a.at_
theorem okMk {dir : Int} {s : Txt} (h : I64 dir) (hs : s.length ≤ 1000000) : OkCal (cMk dir s) := ⟨(show I64 6 from ismall (by decide) (by decide)), h, i0, i0, i0, hs, Nat.zero_le _, Nat.zero_le _⟩
theorem okLk {dir : Int} {s : Txt} (h : I64 dir) (hs : s.length ≤ 1000000) : OkCal (cLk dir s) := ⟨(show I64 1 from ismall (by decide) (by decide)), h, i0, i0, i0, hs, Nat.zero_le _, Nat.zero_le _⟩
theorem okRd {i a m : Int} (h : I64 i) (h2 : I64 a) (h3 : I64 m) : OkCal (cRd i a m) := ⟨(show I64 3 from ismall (by decide) (by decide)), h, i0, h2, h3, Nat.zero_le _, Nat.zero_le _, Nat.zero_le _⟩
theorem okWr {i a : Int} {t : Txt} (h : I64 i) (h2 : I64 a) (h3 : t.length ≤ 1000000) : OkCal (cWr i a t) := ⟨(show I64 4 from ismall (by decide) (by decide)), h, i0, h2, i0, Nat.zero_le _, Nat.zero_le _, h3⟩
end Go.Proofs.YtkhnialfkndiiaaGreat

set_option linter.unusedVariables false
set_option linter.unusedSimpArgs false
namespace Go.Proofs.YtkhnialfkndiiaaGreat
open Go Go.RowKit Copyhold
set_option maxRecDepth 100000 in
set_option maxHeartbeats 4000000 in
theorem opsReads_data (f : Fsy) (dir : Int) (s : Txt) (at_ : Int) (t : Txt) (okf : OkF f) (hdir : I64 dir) (hat : I64 at_) : FSpec Tryz.prog 7 [.agg [.sl 5 false (f.l.map nodA), aI f.next, aI dir, aS s, aI at_, aS t]] (aB true) := by
  exact spec_vc (F := Tryz.f7) 400 (
 .new fun b1 => .r 1 <| .run 2 [b1 = b1] ⟨rfl, trivial⟩ <|
 .new fun b2 => .run 1 [b2 = b2] ⟨rfl, trivial⟩ <|
 .run 3 [b1 = b1] ⟨rfl, trivial⟩ <|
 .run 3 [b1 = b1] ⟨rfl, trivial⟩ <|
 .run 3 [b1 = b1] ⟨rfl, trivial⟩ <|
 .run 3 [b1 = b1] ⟨rfl, trivial⟩ <|
 .call (shown11) <|
 .r 1 <| .run 1 [b2 = b2] ⟨rfl, trivial⟩ <|
 .call (few11 f okf) <|
 .r 1 <| .r 3 <| .br 37 (!(dP (fewF f ∧ rightP f ∧ f.next < 1152921504606846976))) (fun q1 => have q1 := notT q1; have p1 := booF q1; .r 9 <| .r 2 <| .fin (x := aB true) (r := aB true) [] trivial (by exact Sub.of_eq (by first | rfl | (refine congrArg aB ?_; first | (rw [do_mkA he0]; rfl) | (exact dP_true.2 (by rw [hbn.2]; exact hrw.1)) | (simp; done)))))
 <| fun q1 => have q1 := notF q1; have p1 := booT q1; have hfr := dP_true.1 q1; have hp := hfr.2.1.1; have hx := hfr.2.2; .r 5 <| .br 42 (decide (((s).length : Int) > 500)) (fun q2 => have p2 := decT q2; .r 4 <| .r 2 <| .fin (x := aB true) (r := aB true) [] trivial (by exact Sub.of_eq (by first | rfl | (refine congrArg aB ?_; first | (rw [do_mkA he0]; rfl) | (exact dP_true.2 (by rw [hbn.2]; exact hrw.1)) | (simp; done)))))
 <| fun q2 => have p2 := decF q2; .r 4 <| .br 46 (decide (((t).length : Int) > 1000)) (fun q3 => have p3 := decT q3; .r 2 <| .fin (x := aB true) (r := aB true) [] trivial (by exact Sub.of_eq (by first | rfl | (refine congrArg aB ?_; first | (rw [do_mkA he0]; rfl) | (exact dP_true.2 (by rw [hbn.2]; exact hrw.1)) | (simp; done)))))
 <| fun q3 => have p3 := decF q3; .run 4 [b2 = b2] ⟨rfl, trivial⟩ <|
 .call (do_spec f (cMk dir s) okf (okMk hdir (by omega)) hp (by omega)) <|
 .r 3 <| .new fun b3 => .new fun b4 => .run 2 [b3 = b3, b4 = b4] ⟨rfl, rfl, trivial⟩ <|
 .run 3 [b4 = b4] ⟨rfl, trivial⟩ <|
 .br 58 (((doF f (cMk dir s)).2.e) != 0) (fun q4 => have p4 := bneT q4; have he0 : ¬ addErr f dir s kFile = 0 := (fun h => bneT q4 (do_mkE.trans h)); .run 7 [b4 = b4] ⟨rfl, trivial⟩ <|
 .fin (x := aB (((doF f (cMk dir s)).2.a) == 0)) (r := aB true) [] trivial (by exact Sub.of_eq (by first | rfl | (refine congrArg aB ?_; first | (rw [do_mkA he0]; rfl) | (exact dP_true.2 (by rw [hbn.2]; exact hrw.1)) | (simp; done)))))
 <| fun q4 => have p4 := bneF q4; have he0 : addErr f dir s kFile = 0 := (do_mkE.symm.trans (bneF q4)); have hm := made_of okf hp (by omega) hx he0; .ex (wrt_of (a := at_) (t := t) hm.ok hm.rows hm.next (by omega) hm.node rfl) fun b hb =>
 .ex (hb) fun r hw =>
 .ex (hw.node) fun n2 hn2 =>
 have hbn := at_BN hn2.1; have hrw := rows_at hw.rows hn2.1; .run 4 [b3 = b3, b4 = b4] ⟨rfl, rfl, trivial⟩ <|
 .callS (args0 := [.agg [.sl 5 false ((doF f (cMk dir s)).1.l.map nodA), aI ((doF f (cMk dir s)).1.next)], .agg [aI 3, aI ((doF f (cMk dir s)).2.a), aI 0, aI 0, aI 9, aS ([]), aS ([]), aS ([])]]) (args := [.agg [.sl 5 false ((addF f dir s (addN f kFile)).l.map nodA), aI ((addF f dir s (addN f kFile)).next)], .agg [aI ((cRd f.next 0 9).kind), aI ((cRd f.next 0 9).ino), aI ((cRd f.next 0 9).to), aI ((cRd f.next 0 9).at_), aI ((cRd f.next 0 9).many), aS ((cRd f.next 0 9).name), aS ((cRd f.next 0 9).name2), aS ((cRd f.next 0 9).text)]]) ⟨by rw [hm.mkd]; exact Sub.refl _, by rw [hm.mkd]; exact Sub.refl _, trivial⟩ (do_at hm.ok (okRd hm.i64 i0 (ismall (by decide) (by decide))) hm.rows hm.next hm.read) <|
 .r 3 <| .new fun b5 => .new fun b6 => .run 2 [b5 = b5, b6 = b6] ⟨rfl, rfl, trivial⟩ <|
 .run 4 [b3 = b3] ⟨rfl, trivial⟩ <|
 .callS (args0 := [.agg [.sl 5 false ((doF f (cMk dir s)).1.l.map nodA), aI ((doF f (cMk dir s)).1.next)], .agg [aI 1, aI dir, aI 0, aI 0, aI 0, aS s, aS ([]), aS ([])]]) (args := [.agg [.sl 5 false ((addF f dir s (addN f kFile)).l.map nodA), aI ((addF f dir s (addN f kFile)).next)], .agg [aI 1, aI dir, aI 0, aI 0, aI 0, aS s, aS ([]), aS ([])]]) ⟨by rw [hm.mkd]; exact Sub.refl _, Sub.refl _, trivial⟩ (do_at hm.ok (okLk hdir (by omega)) hm.rows hm.next hm.look) <|
 .r 3 <| .new fun b7 => .new fun b8 => .run 2 [b7 = b7, b8 = b8] ⟨rfl, rfl, trivial⟩ <|
 .run 6 [b3 = b3, b4 = b4] ⟨rfl, rfl, trivial⟩ <|
 .callS (args0 := [.agg [.sl 5 false ((doF f (cMk dir s)).1.l.map nodA), aI ((doF f (cMk dir s)).1.next)], .agg [aI 4, aI ((doF f (cMk dir s)).2.a), aI 0, aI at_, aI 0, aS ([]), aS ([]), aS t]]) (args := [.agg [.sl 5 false ((addF f dir s (addN f kFile)).l.map nodA), aI ((addF f dir s (addN f kFile)).next)], .agg [aI ((cWr f.next at_ t).kind), aI ((cWr f.next at_ t).ino), aI ((cWr f.next at_ t).to), aI ((cWr f.next at_ t).at_), aI ((cWr f.next at_ t).many), aS ((cWr f.next at_ t).name), aS ((cWr f.next at_ t).name2), aS ((cWr f.next at_ t).text)]]) ⟨by rw [hm.mkd]; exact Sub.refl _, by rw [hm.mkd]; exact Sub.refl _, trivial⟩ (do_at hm.ok (okWr hm.i64 hat (by omega)) hm.rows hm.next hw.wr) <|
 .r 3 <| .new fun b9 => .new fun b10 => .run 2 [b9 = b9, b10 = b10] ⟨rfl, rfl, trivial⟩ <|
 .run 7 [b9 = b9, b4 = b4] ⟨rfl, rfl, trivial⟩ <|
 .callS (args0 := [.agg [.sl 5 false (b.l.map nodA), aI b.next], .agg [aI 3, aI ((doF f (cMk dir s)).2.a), aI 0, aI at_, aI ((t).length : Int), aS ([]), aS ([]), aS ([])]]) (args := [.agg [.sl 5 false (b.l.map nodA), aI b.next], .agg [aI ((cRd f.next at_ (t.length : Int)).kind), aI ((cRd f.next at_ (t.length : Int)).ino), aI ((cRd f.next at_ (t.length : Int)).to), aI ((cRd f.next at_ (t.length : Int)).at_), aI ((cRd f.next at_ (t.length : Int)).many), aS ((cRd f.next at_ (t.length : Int)).name), aS ((cRd f.next at_ (t.length : Int)).name2), aS ((cRd f.next at_ (t.length : Int)).text)]]) ⟨Sub.refl _, by rw [hm.mkd]; exact Sub.refl _, trivial⟩ (do_spec b (cRd f.next at_ (t.length : Int)) hw.ok (okRd hm.i64 hat ⟨by omega, by omega⟩) hw.rows hw.next) <|
 .r 3 <| .new fun b11 => .new fun b12 => .run 2 [b11 = b11, b12 = b12] ⟨rfl, rfl, trivial⟩ <|
 .run 4 [b6 = b6] ⟨rfl, trivial⟩ <|
 .is 105 (show (0 != 0) = false from rfl) <| .run 5 [b6 = b6] ⟨rfl, trivial⟩ <|
 .is 110 (show (!(([] : Txt) == ([]))) = false from rfl) <| .run 7 [b8 = b8, b4 = b4] ⟨rfl, rfl, trivial⟩ <|
 .is 117 (show (f.next != ((doF f (cMk dir s)).2.a)) = false from (by rw [hm.mkd]; simp)) <| .run 4 [b8 = b8] ⟨rfl, trivial⟩ <|
 .is 121 (show (0 != 0) = false from rfl) <| .run 3 [b9 = b9, b4 = b4] ⟨rfl, rfl, trivial⟩ <|
 .callS (args0 := [.agg [.sl 5 false (b.l.map nodA), aI b.next], aI ((doF f (cMk dir s)).2.a)]) (args := [.agg [.sl 5 false (b.l.map nodA), aI b.next], aI f.next]) ⟨Sub.refl _, by rw [hm.mkd]; exact Sub.refl _, trivial⟩ (rfind_spec b f.next hw.ok.2.1) <|
 .r 3 <| .new fun b13 => .run 2 [b13 = b13] ⟨rfl, trivial⟩ <|
 .r 5 <| .is 133 (show (findB b f.next) = true from hbn.1) <| .run 5 [b13 = b13] ⟨rfl, trivial⟩ <|
 .is 138 (show (((findN b f.next).kind) == 1) = true from (by rw [hbn.2, hn2.2]; rfl)) <| .run 4 [b10 = b10] ⟨rfl, trivial⟩ <|
 .br 142 (r.e != 0) (fun q5 => have p5 := bneT q5; .run 15 [b13 = b13] ⟨rfl, trivial⟩ <|
 .call (rnright_spec (findN b f.next) (findN_ok hw.ok _)) <|
 .r 2 <| .fin (x := aB (dP (nodP (findN b f.next)))) (r := aB true) [] trivial (by exact Sub.of_eq (by first | rfl | (refine congrArg aB ?_; first | (rw [do_mkA he0]; rfl) | (exact dP_true.2 (by rw [hbn.2]; exact hrw.1)) | (simp; done)))))
 <| fun q5 => have p5 := bneF q5; .run 5 [b12 = b12] ⟨rfl, trivial⟩ <|
 .is 147 (show (((doF b (cRd f.next at_ (t.length : Int))).2.text) == t) = true from (by rw [(hw.read (bneF q5)).2]; simp)) <| .run 9 [b10 = b10] ⟨rfl, trivial⟩ <|
 .is 156 (show (r.a == ((t).length : Int)) = true from (by rw [(hw.read (bneF q5)).1]; simp)) <| .run 1 [b13 = b13] ⟨rfl, trivial⟩ <|
 .call (rnright_spec (findN b f.next) (findN_ok hw.ok _)) <|
 .r 2 <| .fin (x := aB (dP (nodP (findN b f.next)))) (r := aB true) [] trivial (by exact Sub.of_eq (by first | rfl | (refine congrArg aB ?_; first | (rw [do_mkA he0]; rfl) | (exact dP_true.2 (by rw [hbn.2]; exact hrw.1)) | (simp; done))))) Tryz.func7 rfl (by kernel_rfl) (by kernel_rfl)
theorem opsReads_spec (a : Rds) (h : OkRds a) : FSpec Tryz.prog 7 [.agg (rdsA a)] (aB true) := opsReads_data a.f a.dir a.s a.at_ a.t h.1 h.2.1 h.2.2
end Go.Proofs.YtkhnialfkndiiaaGreat

set_option linter.unusedVariables false
set_option linter.unusedSimpArgs false
namespace Copyhold
open Go Go.RowKit Go.ChangeShapes Go.WideShapes Go.ChangeAt Go.Deep
structure Opn {α : Type} (P : Program) (W : World) (t : TypeId) (en : α → List AV) (ok : α → Prop) : Prop where
  run : ∀ (H : Type) (enc : TypeId × Value → H) (fuel : Nat) (cs : List Value) (x : DataW H × List MemPlace),
    DataW.trod enc P W 0 (fun _ => true) true fuel t cs = some x → (∀ p ∈ x.2, p.block < W.heap.size) → (∀ n ∈ DataW.weights P t x.1, n ≤ 140737488351232) →
    ∃ a, CellsR (· < W.heap.size) W (en a) cs ∧ (∀ u ∈ cs, u.oneCell' = true) ∧ ok a
section
variable {P : Program} {W : World} {t : TypeId}
theorem Opn.map {α β : Type} {en : α → List AV} {ok : α → Prop} {en' : β → List AV} {ok' : β → Prop} (h : Opn P W t en ok) (f : α → β) (he : ∀ a, en' (f a) = en a) (ho : ∀ a, ok a → ok' (f a)) : Opn P W t en' ok' := Opn.mk fun H enc fuel cs x h1 h2 h3 => by
  obtain ⟨a, g1, g2, g3⟩ := h.run H enc fuel cs x h1 h2 h3
  exact ⟨f a, by rw [he]; exact g1, g2, ho a g3⟩
theorem cells_one {D : Nat → Prop} {w : World} {a : AV} {v : Value} (h : Ra D w a v) : CellsR D w [a] [v] := ⟨rfl, fun j x u hx hu => by
  match j, hx, hu with
  | 0, hx, hu => simp at hx hu; subst hx hu; exact h
  | j + 1, hx, _ => simp at hx⟩
theorem wf_i64 {z : Int} (w : (Lit.int .i64 z).wf = true) : -9223372036854775808 ≤ z ∧ z ≤ 9223372036854775807 := by
  simpa [Lit.wf, IntKind.min, IntKind.max, IntKind.signed, IntKind.bits] using w
theorem opn_int (hu : P.underlying t = some (.int .i64)) : Opn P W t (fun n : Int => [aI n]) (fun n => -9223372036854775808 ≤ n ∧ n ≤ 9223372036854775807) := Opn.mk fun H enc fuel cs x h1 h2 h3 => by
  obtain ⟨n, rfl, rfl, hw⟩ := DataW.trod_int hu h1
  exact ⟨n, cells_one (.val _), fun u hu => by obtain rfl := List.mem_singleton.1 hu; rfl, wf_i64 hw⟩
theorem opn_string (hu : P.underlying t = some .string) : Opn P W t (fun n : List UInt8 => [aS n]) (fun n => n.length ≤ 140737488351232) := Opn.mk fun H enc fuel cs x h1 h2 h3 => by
  obtain ⟨s, rfl, rfl, _⟩ := DataW.trod_string hu h1
  exact ⟨s.data.toList, cells_one (.val _), fun u hu => by obtain rfl := List.mem_singleton.1 hu; rfl, h3 _ (by simp [DataW.weights])⟩
theorem opn_slice {α : Type} {en : α → List AV} {ok : α → Prop} {e : TypeId} {k : Nat} (h : Opn P W e en ok) (a0 : α) (hu : P.underlying t = some (.slice e)) (hc : P.cellsOf e = k) (hk : 0 < k) (hb : 16 ≤ P.bytesOf e) :
    Opn P W t (fun l : List α => [.sl k false (l.map en)]) (fun l => l.length ≤ 8796093022207 ∧ ∀ a ∈ l, ok a) := Opn.mk fun H enc fuel cs x h1 h2 h3 => by
  obtain ⟨v, rs, rfl, hr, hd⟩ := open_slice_of (k := k) (R := fun a cs => CellsR (· < W.heap.size) W (en a) cs ∧ (∀ u ∈ cs, u.oneCell' = true) ∧ ok a) hu hc hk a0 (fun n cs' y hy hl hcl hww => h.run H enc n cs' y hy hl hww) h1 h2 h3
  have hsz := rows_sized hu hd h3
  have := Nat.le_trans (Nat.mul_le_mul_left rs.length hb) hsz
  have hra : Ra (· < W.heap.size) W (.sl k false (rs.map en)) v := ra_of_slOf hr (· < W.heap.size) (fun _ h => h) (fun a _ cs _ hR => ⟨hR.2.1, hR.1⟩)
  obtain ⟨A, c, rfl⟩ := hr.shape
  refine ⟨rs, cells_one hra, fun u hu => by obtain rfl := List.mem_singleton.1 hu; rfl, by omega, fun a ha => ?_⟩
  obtain ⟨css, g1, g2, g3⟩ := hr
  obtain ⟨i, hi, rfl⟩ := List.mem_iff_getElem.1 ha
  exact (g3 i _ _ (List.getElem?_eq_getElem (by omega)) (List.getElem?_eq_getElem hi)).2.2.2
structure OpnFs {γ : Type} (P : Program) (W : World) (N : Nat) (fs : List Field) (off : Nat) (en : γ → List AV) (ok : γ → Prop) : Prop where
  run : ∀ (H : Type) (enc : TypeId × Value → H) (m : Nat) (cs : List Value) (xs : List (DataW H × List MemPlace)), cs.length = N → xs.length = fs.length →
    (∀ (i : Nat) (f : Field), fs[i]? = some f → DataW.trod enc P W 0 (fun _ => true) true m f.type ((cs.drop f.offset).take (P.cellsOf f.type)) = xs[i]?) →
    (∀ x ∈ xs, ∀ p ∈ x.2, p.block < W.heap.size) → (∀ n ∈ DataW.weightsEach P (fs.map (·.type)) (xs.map (·.1)), n ≤ 140737488351232) →
    ∃ g, CellsR (· < W.heap.size) W (en g) (cs.drop off) ∧ (∀ u ∈ cs.drop off, u.oneCell' = true) ∧ ok g
theorem opnF_nil (N : Nat) : OpnFs P W N [] N (fun _ : Unit => []) (fun _ => True) := OpnFs.mk fun H enc m cs xs h1 h2 h3 h4 h5 => by
  have : cs.drop N = [] := List.drop_eq_nil_of_le (by omega)
  rw [this]
  exact ⟨(), ⟨rfl, fun j a u ha => by simp at ha⟩, fun u hu => by simp at hu, trivial⟩
theorem cells_append {D : Nat → Prop} {w : World} {xs ys : List AV} {cs ds : List Value} (h : CellsR D w xs cs) (k : CellsR D w ys ds) : CellsR D w (xs ++ ys) (cs ++ ds) := by
  refine ⟨by simp [h.1, k.1], fun j a u ha hu => ?_⟩
  by_cases hj : j < xs.length
  · rw [List.getElem?_append_left hj] at ha
    rw [List.getElem?_append_left (by rw [h.1]; exact hj)] at hu
    exact h.2 j a u ha hu
  · rw [List.getElem?_append_right (by omega)] at ha
    rw [List.getElem?_append_right (by rw [h.1]; omega), h.1] at hu
    exact k.2 _ a u ha hu
theorem opnF_cons {α γ : Type} {N off k : Nat} {f : Field} {fs : List Field} {en : α → List AV} {ok : α → Prop} {en2 : γ → List AV} {ok2 : γ → Prop} (h : Opn P W f.type en ok) (ho : f.offset = off) (hk : P.cellsOf f.type = k)
    (hr : OpnFs P W N fs (off + k) en2 ok2) : OpnFs P W N (f :: fs) off (fun g : α × γ => en g.1 ++ en2 g.2) (fun g => ok g.1 ∧ ok2 g.2) := OpnFs.mk fun H enc m cs xs h1 h2 h3 h4 h5 => by
  obtain ⟨x0, xr, rfl⟩ : ∃ a r, xs = a :: r := by
    cases xs with
    | nil => simp at h2
    | cons a r => exact ⟨a, r, rfl⟩
  have g0 := h3 0 f rfl
  rw [ho, hk] at g0
  simp only [List.map_cons, DataW.weightsEach] at h5
  obtain ⟨a, ha, ha2, ha3⟩ := h.run H enc m _ x0 (by simpa using g0) (h4 x0 (by simp)) (fun n hn => h5 n (by simp [hn]))
  obtain ⟨g, hg, hg2, hg3⟩ := hr.run H enc m cs xr h1 (by simpa using h2) (fun i f' hf => by have := h3 (i + 1) f' (by simpa using hf); simpa using this) (fun x hx => h4 x (by simp [hx])) (fun n hn => h5 n (by simp [hn]))
  have e : cs.drop off = (cs.drop off).take k ++ cs.drop (off + k) := by
    rw [← List.drop_drop, List.take_append_drop]
  refine ⟨(a, g), ?_, ?_, ha3, hg3⟩
  · rw [e]; exact cells_append ha hg
  · intro u hu
    rw [e] at hu
    rcases List.mem_append.1 hu with h | h
    · exact ha2 u h
    · exact hg2 u h
theorem opn_struct {γ : Type} {N : Nat} {fs : Array Field} {en : γ → List AV} {ok : γ → Prop} (hu : P.underlying t = some (.struct fs)) (hc : P.cellsOf t = N) (h : OpnFs P W N fs.toList 0 en ok) : Opn P W t en ok := Opn.mk fun H enc fuel cs x h1 h2 h3 => by
  obtain ⟨xs, m, _, rfl, hl, hlen, hfl⟩ := DataW.trod_struct hu h1
  obtain ⟨g, g1, g2, g3⟩ := h.run H enc m cs xs (by rw [hl, hc]) (by simpa using hlen) (fun i f hf => hfl i f (by simpa using hf)) (fun x hx p hp => h2 p (by simp only [List.mem_flatMap]; exact ⟨x, hx, hp⟩))
    (fun n hn => h3 n (by simp only [DataW.weights, hu]; exact hn))
  exact ⟨g, by simpa using g1, by simpa using g2, g3⟩
theorem arg_struct {α : Type} {en : α → List AV} {ok : α → Prop} {fs : Array Field} {H : Type} {enc : TypeId × Value → H} {base : Nat} {v : Value} {d : DataW H} {p : List MemPlace} (h : Opn P W t en ok) (hu : P.underlying t = some (.struct fs)) (hv : Value.okWide P W .any base t v)
    (ht : ∃ fuel, DataW.trod enc P W 0 (fun _ => true) true fuel t v.cells.toList = some (d, p)) (hlt : ∀ x ∈ p, x.block < W.heap.size) (hw : ∀ n ∈ DataW.weights P t d, n ≤ 140737488351232) : ∃ a, Ra (· < W.heap.size) W (.agg (en a)) v ∧ ok a := by
  obtain ⟨cs, rfl, _⟩ := okWide_struct hu hv
  obtain ⟨fuel, ht⟩ := ht
  obtain ⟨a, g1, g2, g3⟩ := h.run H enc fuel _ _ ht hlt hw
  refine ⟨a, .agg _ _ (by have := g1.1; simp [Value.cells] at this; omega) (fun j u hj => g2 u (by have := Array.mem_of_getElem? hj; simpa [Value.cells] using this)) (fun j x u hx hj => g1.2 j x u hx (by simpa [Value.cells] using hj)), g3⟩
def RaL (D : Nat → Prop) (w : World) : List AV → List Value → Prop
  | [], [] => True
  | x :: xs, v :: vs => Ra D w x v ∧ RaL D w xs vs
  | _, _ => False
theorem raAllL {D : Nat → Prop} {w : World} : ∀ (xs : List AV) (vs : List Value), RaL D w xs vs → RaAll D w xs vs.toArray
  | [], [], _ => ⟨rfl, fun j a u ha => by simp at ha⟩
  | x :: xs, v :: vs, h => by
    have ih := raAllL xs vs h.2
    refine ⟨by have := ih.1; simp at this ⊢; exact this, fun j a u ha hu => ?_⟩
    cases j with
    | zero => simp at ha hu; subst ha hu; exact h.1
    | succ j => exact ih.2 j a u (by simpa using ha) (by simpa using hu)
  | [], _ :: _, h => h.elim
  | _ :: _, [], h => h.elim
theorem law_callsV {f : FuncId} {args : List AV} {vs : Array Value} {w : World} (h : FSpec P f args (aB true)) (hv : RaAll (· < w.heap.size) w args vs) :
    Calls P f vs w (fun e w' => e = .returned (.bool true) ∧ Below w.heap.size w w') := by
  refine (h _ w vs (fun _ h => h) hv).mono ?_
  rintro e w' ⟨v, D', rfl, hb, _, _, hr⟩
  cases hr
  exact ⟨rfl, hb⟩
end
end Copyhold
