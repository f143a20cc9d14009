/- sort.Search at a row of entries, name.place, name.Find: they answer as the document says; old memory is as it was. copyholdref06.Find, Same, Names: they answer as the document says; old memory is as it was. name.each and name.Names (a range over a function): they answer as the document says; old memory is as it was. strings.Cut at a slash, strings.HasPrefix of a slash: they answer as Go says; the world only draws. name.parts and name.Split (a range over a function): they answer as the document says; old memory is as it was. name.Split (a range over a function): it answers as the document says; old memory is as it was. copyholdref06.Check: it answers as the document says; memory is as it was. name.Right, copyholdref06.Right: they answer as the document says; old memory is as it was. copyholdref06.Same: it answers as the document says; old memory is as it was. copyholdref06.Split, and the document's example: they answer as the document says; old memory is as it was. -/
import Derived.Test.YtkepkbgebickiaaMrgJ
import Derived.Deep.QuietTactic
import Derived.BigQuiet
import Derived.Test.YtkepkbgebickiaaMrgI
import Derived.RangeFuncNested
import Derived.RangeFuncBound
import Derived.RangeFuncCalls
import Derived.RangeFuncLeaves
import Derived.RangeFuncBox
import Derived.Shelf.Abstract
import Derived.Shelf.RegionOpen
import Derived.OwnWalkIn
import Derived.TacticsInMore
import Derived.LoopNIn
import Derived.LoopIn
import Derived.IntWalk
set_option linter.unusedVariables false
namespace Go.Proofs.Ytkepkbgebickiaa
open Go.RowKit Copyhold Copyhold.Name
def geAt (l : List Name.Ent) (s : List UInt8) (i : Nat) : Bool := !decide ((l.getD i ([], 0)).1 < s)
theorem geAt_lt {l : List Name.Ent} {s : List UInt8} (h : Srt l) (i : Nat) (hi : i < l.length) : geAt l s i = decide (pos l s ≤ i) := by
  induction l generalizing i with
  | nil => simp at hi
  | cons a l ih =>
    by_cases ha : a.1 < s
    · rw [pos_lt ha]
      cases i with
      | zero => simp [geAt, ha]
      | succ i =>
        have := ih h.tail i (by simpa using hi)
        unfold geAt at this ⊢
        rw [List.getD_cons_succ, this]
        simp
    · rw [pos_ge h ha]
      cases i with
      | zero => simp [geAt, ha]
      | succ i =>
        have hx : ¬ ((a :: l).getD (i + 1) ([], 0)).1 < s := by
          rw [List.getD_cons_succ, gete l i (by simpa using hi)]
          exact fun hxs => ha (ltT (h.head _ (List.getElem_mem _)) hxs)
        unfold geAt
        rw [decide_eq_false hx]
        simp
set_option maxHeartbeats 1000000 in
theorem place_turn (l : List Name.Ent) (s : List UInt8) (A : Option Addr) (c i ba bs : Nat) (w : World) (hl : Ents w (.slice A l.length c) l) (hi : i < l.length) (hn : l.length ≤ 1000000)
    (ha : w.cell? ⟨ba, 0, none⟩ = some (.slice A l.length c)) (hs : w.cell? ⟨bs, 0, none⟩ = some (.string ⟨s.toArray⟩)) :
    Calls Try.prog 68 #[.int .i64 (i : Int), .pointer (some ⟨ba, 0, none⟩), .pointer (some ⟨bs, 0, none⟩)] w fun e w' => e = .returned (.bool (geAt l s i)) ∧ ∃ n, w' = w.drewN n := by
  obtain ⟨b, off, rfl, hb, hc, hc1, hc2⟩ := hl.at i hi
  have hg : l[i] = l.getD i ([], 0) := (gete l i hi).symm
  rw [hg] at hc1 hc2
  unfold geAt
  generalize l.getD i ([], 0) = x at *
  clear hg hl
  have hi1 : (i : Int) < (l.length : Int) := by omega
  have hi0 : (0 : Int) ≤ (i : Int) := by omega
  go_enter Try.func68, Try.ntmps68
  go_wp2_with fail
  go_quiet (fail)
  go_wp2_with fail
  go_ret
  exact ⟨by rw [← less_eq]; rfl, _, rfl⟩
set_option maxHeartbeats 2000000 in
theorem sort_Search (l : List Name.Ent) (s : List UInt8) (A : Option Addr) (c ba bs : Nat) (w : World) (hl : Ents w (.slice A l.length c) l) (hn : l.length ≤ 1000000) (hsrt : Srt l)
    (ha : w.cell? ⟨ba, 0, none⟩ = some (.slice A l.length c)) (hs : w.cell? ⟨bs, 0, none⟩ = some (.string ⟨s.toArray⟩)) :
    Calls Try.prog 67 #[.int .i64 (l.length : Int), .func (.func 68) #[] #[.pointer (some ⟨ba, 0, none⟩), .pointer (some ⟨bs, 0, none⟩)]] w fun e w' => e = .returned (.int .i64 (pos l s : Int)) ∧ ∃ n, w' = w.drewN n := by
  have hp := pos_le l s
  have HG := Lib.hid (geAt_lt (s := s) hsrt)
  have HT := Lib.hid (fun (i m : Nat) (hi : i < l.length) => place_turn l s A c i ba bs (w.drewN m) hl hi hn ha hs)
  clear hl hsrt ha hs
  go_enter Try.func67, Try.ntmps67
  go_wp2_with fail
  go_loopw [5, 6] (fun si sj wr => ∃ i j n : Nat, si = .int .i64 i ∧ sj = .int .i64 j ∧ i ≤ pos l s ∧ pos l s ≤ j ∧ j ≤ l.length ∧ wr = w.drewN n) (fun si sj _ => (intOf sj).toNat - (intOf si).toNat)
  case atStart => exact ⟨0, l.length, 0, rfl, rfl, Nat.zero_le _, hp, Nat.le_refl _, rfl⟩
  case round =>
    obtain ⟨i, j, n, rfl, rfl, hi, hj, hjl, rfl⟩ := hrel
    by_cases hlt : i < j
    · have hmid : ((i : Int) + j) / 2 = (((i + j) / 2 : Nat) : Int) := by omega
      obtain ⟨m, hm⟩ : ∃ m, m = (i + j) / 2 := ⟨_, rfl⟩
      have hm1 : i ≤ m := by omega
      have hm2 : m < j := by omega
      rw [← hm] at hmid
      have hC := HT.out m n (by omega)
      rw [HG.out m (by omega)] at hC
      have HC := Lib.hid hC
      clear hC hm
      by_cases hge : pos l s ≤ m
      · have hd : decide (pos l s ≤ m) = true := by simpa using hge
        rw [hd] at HC
        clear hd
        go_wp2_with fail
        refine HC.out.mono ?_
        rintro e w1 ⟨rfl, n1, rfl⟩
        go_wp2_with fail
        go_roundw
        case rel => exact ⟨i, m, _, rfl, rfl, hi, hge, by omega, rfl⟩
        case measure => simp [intOf]; omega
      · have hd : decide (pos l s ≤ m) = false := by simpa using hge
        rw [hd] at HC
        clear hd
        go_wp2_with fail
        refine HC.out.mono ?_
        rintro e w1 ⟨rfl, n1, rfl⟩
        go_wp2_with fail
        go_roundw
        case rel => exact ⟨m + 1, j, _, by go_num, rfl, by omega, hj, hjl, rfl⟩
        case measure => simp [intOf]; omega
    · obtain rfl : i = pos l s := by omega
      go_wp2_with fail
      go_ret
      exact ⟨rfl, _, rfl⟩
set_option maxHeartbeats 2000000 in
theorem name_place (l : List Name.Ent) (s : List UInt8) (A : Option Addr) (c : Nat) (w : World) (hl : Ents w (.slice A l.length c) l) (hn : l.length ≤ 1000000) (hsrt : Srt l) :
    Calls Try.prog 54 #[.slice A l.length c, .string ⟨s.toArray⟩] w fun e w' => e = .returned (.tuple #[.int .i64 (pos l s : Int), .bool (isAt l s)]) ∧ Below w.heap.size w w' := by
  obtain ⟨W, hW⟩ : ∃ W, W = (w.alloc (.cells #[.slice A l.length c] 29)).alloc (.cells #[.string ⟨s.toArray⟩] 9) := ⟨_, rfl⟩
  have hb : Below w.heap.size w W := by rw [hW]; exact ((Below.refl _ _).alloc (Nat.le_refl _) _).alloc (by simp) _
  have c0 : W.cell? ⟨w.heap.size, 0, none⟩ = some (.slice A l.length c) := by rw [hW]; simp [go_sem]
  have c1 : W.cell? ⟨w.heap.size + 1, 0, none⟩ = some (.string ⟨s.toArray⟩) := by rw [hW]; simp [go_sem]
  have HC := Lib.hid (sort_Search l s A c w.heap.size (w.heap.size + 1) W (hl.below hb) hn hsrt c0 c1)
  have hat := at_pos hsrt s
  have hp := pos_le l s
  have HW := Lib.hid hW
  have HB := Lib.hid hb
  by_cases hlt : pos l s < l.length
  · obtain ⟨b, off, rfl, hbk, hc, hc1, hc2⟩ := (hl.below hb).at (pos l s) hlt
    rw [List.getElem?_eq_getElem hlt, Option.any_some] at hat
    have HAT := Lib.hid hat
    have hi1 : (pos l s : Int) < (l.length : Int) := by omega
    have hi0 : (0 : Int) ≤ (pos l s : Int) := by omega
    clear hl hsrt hat hW hb
    generalize l[pos l s] = x at *
    generalize isAt l s = q at *
    generalize pos l s = k at *
    go_enter Try.func54, Try.ntmps54
    go_wp2_with fail
    rw [← HW.out]
    refine HC.out.mono ?_
    rintro e w1 ⟨rfl, n1, rfl⟩
    go_wp2_with fail
    go_quiet (fail)
    go_wp2_with fail
    go_ret2
    exact ⟨by rw [← HAT.out]; rfl, below_dn (below_dn HB.out _) _⟩
  · rw [List.getElem?_eq_none (by omega), Option.any_none] at hat
    have HAT := Lib.hid hat
    have hpl : pos l s = l.length := by omega
    rw [hpl] at HC ⊢
    have hd : decide ((l.length : Int) < (l.length : Int)) = false := by simp
    clear hl hsrt hat hb hlt hp hpl hW
    generalize isAt l s = q at *
    go_enter Try.func54, Try.ntmps54
    go_wp2_with fail
    rw [← HW.out]
    refine HC.out.mono ?_
    rintro e w1 ⟨rfl, n1, rfl⟩
    go_wp2_with fail
    go_quiet (fail)
    go_wp2_with fail
    go_ret2
    exact ⟨by rw [← HAT.out]; rfl, below_dn (below_dn HB.out _) _⟩
def findR (l : List Name.Ent) (s : List UInt8) : Value := .tuple #[.int .i64 ((getE l s).getD 0), .bool (isAt l s)]
set_option maxHeartbeats 2000000 in
theorem name_Find (l : List Name.Ent) (s : List UInt8) (A : Option Addr) (c : Nat) (w : World) (hl : Ents w (.slice A l.length c) l) (hn : l.length ≤ 1000000) (hsrt : Srt l) :
    Calls Try.prog 27 #[.slice A l.length c, .string ⟨s.toArray⟩] w fun e w' => e = .returned (findR l s) ∧ Below w.heap.size w w' := by
  have HC := Lib.hid (name_place l s A c w hl hn hsrt)
  unfold findR
  cases hi : isAt l s with
  | true =>
    obtain ⟨x, hx1, hx2, hx3⟩ := get_pos hsrt hi
    obtain ⟨hlt, hxe⟩ := List.getElem?_eq_some_iff.1 hx1
    obtain ⟨b, off, rfl, hbk, hc, hc1, hc2⟩ := hl.at (pos l s) hlt
    rw [hxe] at hc2
    rw [hx3, Option.getD_some]
    rw [hi] at HC
    have HC2 := Lib.hid hc2
    have hi1 : (pos l s : Int) < (l.length : Int) := by omega
    have hi0 : (0 : Int) ≤ (pos l s : Int) := by omega
    clear hl hsrt hc1 hc2 hx1 hx2 hx3 hxe hi
    generalize pos l s = k at *
    go_enter Try.func27, Try.ntmps27
    go_wp2_with fail
    refine HC.out.mono ?_
    rintro e w1 ⟨rfl, hb1⟩
    have hc2 := cell_keep hb1 HC2.out
    have HB1 := Lib.hid hb1
    clear hb1
    go_wp2_with fail
    go_ret2
    exact ⟨rfl, HB1.out⟩
  | false =>
    rw [get_none hi, Option.getD_none]
    rw [hi] at HC
    clear hl hsrt hi
    go_enter Try.func27, Try.ntmps27
    go_wp2_with fail
    refine HC.out.mono ?_
    rintro e w1 ⟨rfl, hb1⟩
    have HB1 := Lib.hid hb1
    clear hb1
    go_wp2_with fail
    go_ret2
    exact ⟨rfl, HB1.out⟩
end Go.Proofs.Ytkepkbgebickiaa

set_option linter.unusedVariables false
namespace Go.Proofs.Ytkepkbgebickiaa
open Go.RowKit Copyhold Copyhold.Name
end Go.Proofs.Ytkepkbgebickiaa

set_option linter.unusedVariables false
namespace Go.Proofs.Ytkepkbgebickiaa
open Go.RowKit Go.Shelf Copyhold Copyhold.Name
attribute [local go_sem] Oper.semAt_some
theorem infoText : (Try.prog.info? 9).map (fun i => (i.zero, i.size, i.bytes)) = some (some (.string ⟨#[]⟩), 1, 16) := by kernel_rfl
end Go.Proofs.Ytkepkbgebickiaa

set_option linter.unusedVariables false
namespace Go.Proofs.Ytkepkbgebickiaa
open Go.RowKit Copyhold Copyhold.Name
attribute [local go_sem] piece
theorem cut_index (s : List UInt8) : (Lib.indexByte s 47 = -1 ∧ cutAt s = (s, [], false)) ∨ (∃ k : Nat, k < s.length ∧ Lib.indexByte s 47 = k ∧ cutAt s = (s.take k, s.drop (k + 1), true)) := by
  induction s with
  | nil => exact .inl ⟨rfl, rfl⟩
  | cons c l ih =>
    rw [Lib.indexByte, cutAt]
    by_cases h : c = 47
    · subst h
      refine .inr ⟨0, by simp, by simp, by simp⟩
    · have h1 : (c == 47) = false := by simpa using h
      rw [h1, if_neg h]
      rcases ih with ⟨h2, h3⟩ | ⟨k, h0, h2, h3⟩
      · rw [h2, h3]
        exact .inl ⟨by simp, rfl⟩
      · rw [h2, h3]
        have h4 : (((k : Nat) : Int) == -1) = false := by rw [beq_eq_false_iff_ne]; omega
        refine .inr ⟨k + 1, by simpa using h0, ?_, by simp⟩
        rw [h4]
        simp
def cutR (s : List UInt8) : Value := .tuple #[.string ⟨(cutAt s).1.toArray⟩, .string ⟨(cutAt s).2.1.toArray⟩, .bool (cutAt s).2.2]
set_option maxHeartbeats 1000000 in
theorem slite_Cut (s : List UInt8) (w : World) (hs : s.length ≤ 140737488351232) : Calls Try.prog 79 #[.string ⟨s.toArray⟩, .string ⟨#[47]⟩] w fun e w' => e = .returned (cutR s) ∧ ∃ n, w' = w.drewN n := by
  have HI := Lib.hid (slite_Index s 47 w)
  rcases cut_index s with ⟨h1, h2⟩ | ⟨k, h0, h1, h2⟩
  · have HR : Hid (cutR s = .tuple #[.string ⟨s.toArray⟩, .string ⟨#[]⟩, .bool false]) := Lib.hid (by rw [cutR, h2])
    rw [h1] at HI
    clear h1 h2
    go_enter Try.func79, Try.ntmps79
    go_wp2_with fail
    refine HI.out.mono ?_
    rintro e w1 ⟨rfl, rfl⟩
    go_wp2_with fail
    go_ret3
    exact ⟨by rw [HR.out]; rfl, 0, rfl⟩
  · have HR : Hid (cutR s = .tuple #[.string ⟨(s.take k).toArray⟩, .string ⟨(s.drop (k + 1)).toArray⟩, .bool true]) := Lib.hid (by rw [cutR, h2])
    rw [h1] at HI
    clear h1 h2
    have hk0 : (0 : Int) ≤ (k : Int) := by omega
    have hk1 : (k : Int) < (s.length : Int) := by omega
    have hwr : IntKind.i64.wrap ((k : Int) + 1) = (k : Int) + 1 := IntWalk.i64_in _ (by omega)
    have hp0 : (0 : Int) ≤ (k : Int) + 1 := by omega
    have htn : ((k : Int) + 1).toNat = k + 1 := by omega
    have HW := Lib.hid (And.intro hwr htn)
    clear hwr htn
    go_enter Try.func79, Try.ntmps79
    go_wp2_with fail
    refine HI.out.mono ?_
    rintro e w1 ⟨rfl, rfl⟩
    go_wp2_with fail
    obtain ⟨hwr, htn⟩ := HW.out
    go_quiet (fail)
    clear hwr htn
    go_wp2_with fail
    go_ret3
    refine ⟨?_, _, rfl⟩
    rw [HR.out]
    rfl
set_option maxHeartbeats 1000000 in
theorem strings_Cut (s : List UInt8) (w : World) (hs : s.length ≤ 140737488351232) : Calls Try.prog 72 #[.string ⟨s.toArray⟩, .string ⟨#[47]⟩] w fun e w' => e = .returned (cutR s) ∧ ∃ n, w' = w.drewN n := by
  have HC := Lib.hid (slite_Cut s w hs)
  unfold cutR at *
  generalize (⟨(cutAt s).1.toArray⟩ : ByteArray) = x at *
  generalize (⟨(cutAt s).2.1.toArray⟩ : ByteArray) = y at *
  generalize (cutAt s).2.2 = z at *
  go_enter Try.func72, Try.ntmps72
  go_wp2_with fail
  refine HC.out.mono ?_
  rintro e w1 ⟨rfl, n, rfl⟩
  go_wp2_with fail
  go_ret3
  exact ⟨rfl, _, rfl⟩
def slashed (s : List UInt8) : Bool := s.head? == some 47
set_option maxHeartbeats 1000000 in
theorem slite_HasPrefix (s : List UInt8) (w : World) (hs : s.length ≤ 140737488351232) : Calls Try.prog 70 #[.string ⟨s.toArray⟩, .string ⟨#[47]⟩] w fun e w' => e = .returned (.bool (slashed s)) ∧ w = w' := by
  cases s with
  | nil =>
    go_enter Try.func70, Try.ntmps70
    go_wp2_with fail
    go_ret
    exact ⟨rfl, rfl⟩
  | cons a l =>
    have hl : (a :: l).length = l.length + 1 := rfl
    have h2 : (1 : Int) ≤ (l.length : Int) + 1 := by omega
    have hsl : slashed (a :: l) = (a == 47) := by simp [slashed]
    rw [hsl]
    clear hsl hl
    go_enter Try.func70, Try.ntmps70
    go_wp2_with fail
    go_ret
    exact ⟨rfl, rfl⟩
theorem strings_HasPrefix (s : List UInt8) (w : World) (hs : s.length ≤ 140737488351232) : Calls Try.prog 56 #[.string ⟨s.toArray⟩, .string ⟨#[47]⟩] w fun e w' => e = .returned (.bool (slashed s)) ∧ w = w' := by
  have HC := Lib.hid (slite_HasPrefix s w hs)
  generalize slashed s = q at *
  go_enter Try.func56, Try.ntmps56
  go_wp2_with fail
  refine HC.out.mono ?_
  rintro e w1 ⟨rfl, rfl⟩
  go_wp2_with fail
  go_ret
  exact ⟨rfl, rfl⟩
end Go.Proofs.Ytkepkbgebickiaa

set_option linter.unusedVariables false
namespace Go.Proofs.Ytkepkbgebickiaa
open Go.RowKit Go.Shelf Copyhold Copyhold.Name
attribute [local go_sem] Oper.semAt_some
abbrev TxtP : Type := { x : List UInt8 // x.length ≤ 140737488351232 }
theorem abides_drewN {β : Type} {B : Nat} {J : β → World → Prop} (h : AbidesFrom B J) {s : β} {W : World} (n : Nat) (hs : J s W) : J s (W.drewN n) :=
  h s W _ none hs ⟨rfl, rfl, rfl, Nat.le_refl _, fun _ _ _ => rfl⟩ (fun r e => by cases e)
def leftOf (rest : List UInt8) (more : Bool) : List (List UInt8) := if more then namesP rest else []
set_option maxRecDepth 100000 in
set_option maxHeartbeats 4000000 in
theorem parts1_in (n : Nat) (hn : 1 ≤ n) (l Bs n₀ : Nat) (p : List UInt8) (hp : p.length ≤ 140737488351232) (J Jx : List TxtP → World → Prop)
    (hY : ∀ pre x W, J pre W → pre.length < p.length + 1 → YieldAt Fence.wide (n - 1) Try.prog l #[.string ⟨x.1.toArray⟩] W fun e W' =>
      (e = .returned (.bool true) ∧ J (pre ++ [x]) W' ∧ Below n₀ W W') ∨ (e = .returned (.bool false) ∧ Jx (pre ++ [x]) W'))
    (hJd : ∀ pre W m, J pre W → J pre (W.drewN m))
    (W : World) (hBs : W.cell? ⟨Bs, 0, none⟩ = some (.string ⟨p.toArray⟩)) (h0 : J [] W) :
    CallsIn Fence.wide n Try.prog 71 #[.func (.yield l) #[] #[], .pointer (some ⟨Bs, 0, none⟩)] W fun e W' => (∃ v, e = .returned v) ∧
      ((∃ ys : List TxtP, ys.map (·.1) = namesP p ∧ J ys W') ∨ (∃ pre : List TxtP, pre.map (·.1) <+: namesP p ∧ Jx pre W')) := by
  refine callsIn_of_wp Try.func71 rfl trivial ?_ rfl
  simp only [Try.ntmps71, List.size_toArray, List.length_cons, List.length_nil, Nat.reduceAdd, Nat.reduceSub, Array.replicate_succ, Array.replicate_zero, List.push_toArray, List.append_toArray, List.nil_append, List.cons_append]
  gi_wp2
  gi_loopw [3, 4] (fun sr sm wr => ∃ (pre : List TxtP) (rest : List UInt8) (more : Bool), sr = .string ⟨rest.toArray⟩ ∧ sm = .bool more ∧ rest.length ≤ p.length ∧ pre.map (·.1) ++ leftOf rest more = namesP p ∧ J pre wr)
    (fun sr sm _ => match sm, sr with | .bool true, .string s => s.size + 1 | _, _ => 0)
  case atStart => exact ⟨[], p, true, rfl, rfl, Nat.le_refl _, by simp [leftOf], h0⟩
  case round =>
    obtain ⟨pre, rest, more, rfl, rfl, hrl, hnm, hJs⟩ := hrel
    cases more
    · have hfin : pre.map (·.1) = namesP p := by simpa [leftOf] using hnm
      have HF := Lib.hid hfin
      clear hnm hfin
      gi_wp2
      go_end0
      exact ⟨⟨_, rfl⟩, .inl ⟨_, HF.out, hJs⟩⟩
    · have hst := names_step rest
      have hcl := cutAt_len rest
      have hsp := cutAt_spec rest
      have HCUT := Lib.hid (strings_Cut rest wr (by omega))
      unfold cutR at HCUT
      have hln := len_names p
      have HNM : Hid (pre.map (·.1) ++ namesP rest = namesP p) := Lib.hid (by simpa [leftOf] using hnm)
      have hJd' := fun m => hJd _ _ m hJs
      have HJD := Lib.hid hJd'
      generalize (cutAt rest).1 = a at *
      generalize (cutAt rest).2.1 = b at *
      generalize (cutAt rest).2.2 = t at *
      have HST := Lib.hid hst
      have HCL := Lib.hid hcl
      have hal : a.length ≤ 140737488351232 := by have := hcl.1; omega
      have hbl : b.length ≤ rest.length := by
        cases t
        · have := hsp.2; simp at this; rw [this.2]; simp
        · have := hcl.2 rfl; omega
      clear hst hcl hsp hnm hJd' hJs
      by_cases ha : counts a = true
      · have hapos : pre.length < p.length + 1 := by
          have h1 := congrArg List.length HNM.out
          rw [HST.out, if_pos ha] at h1
          simp at h1
          omega
        have e1 : (a == []) = false := by
          cases a with
          | nil => simp [counts] at ha
          | cons x y => rfl
        have e2 : (a == [46]) = false := by
          rw [beq_eq_false_iff_ne]
          rintro rfl
          simp [counts] at ha
        have HA : Hid (pre.map (·.1) ++ [a] ++ leftOf b t = namesP p) := Lib.hid (by rw [← HNM.out, HST.out, if_pos ha, leftOf, List.append_assoc])
        clear ha
        gi_wp2_with (refine ⟨trivial, ?_⟩; gi_at_call 72; refine (callsIn_wide.2 HCUT.out).mono ?_; rintro e w1 ⟨rfl, m, rfl⟩; obtain ⟨fn, tmps, assign, body, hy, hR⟩ := hY _ ⟨a, hal⟩ _ (HJD.out m) hapos; have HR := Lib.hid hR; clear hR)
        refine HR.out.mono ?_
        rintro e W3 (⟨rfl, hJ3, hk3⟩ | ⟨rfl, hJx3⟩)
        · gi_wp2
          go_roundw
          case rel => exact ⟨pre ++ [⟨a, hal⟩], b, t, rfl, rfl, by omega, by simpa using HA.out, hJ3⟩
          case measure =>
            have := HCL.out.2
            cases t
            · simp
            · have := this rfl
              simp [ByteArray.size]
              omega
        · gi_wp2
          refine bodyPost_ret (results_none rfl _ _ _) rfl ?_
          refine ⟨⟨_, rfl⟩, .inr ⟨pre ++ [⟨a, hal⟩], ?_, hJx3⟩⟩
          exact ⟨leftOf b t, by simpa using HA.out⟩
      · have hca : counts a = false := by simpa using ha
        have HA : Hid (pre.map (·.1) ++ leftOf b t = namesP p) := Lib.hid (by rw [← HNM.out, HST.out, if_neg ha, leftOf, List.nil_append])
        have hor : a = [] ∨ a = [46] := by
          simp only [counts, Bool.and_eq_false_iff, Bool.not_eq_false', beq_iff_eq] at hca
          exact hca
        clear ha hca
        rcases hor with rfl | rfl
        all_goals
          gi_wp2_with (refine ⟨trivial, ?_⟩; gi_at_call 72; refine (callsIn_wide.2 HCUT.out).mono ?_; rintro e w1 ⟨rfl, m, rfl⟩)
          refine ⟨fun _ h => (by cases h), ?_⟩
          gi_wp2
          go_roundw
          case rel => exact ⟨pre, b, t, rfl, rfl, by omega, HA.out, HJD.out m⟩
          case measure =>
            have := HCL.out.2
            cases t
            · simp
            · have := this rfl
              simp [ByteArray.size]
              omega
theorem parts_in (n : Nat) (p : List UInt8) (w : World) :
    CallsIn Fence.wide n Try.prog 57 #[.string ⟨p.toArray⟩] w fun e w' => e = .returned (.func (.func 71) #[] #[.pointer (some ⟨w.heap.size, 0, none⟩)]) ∧ w' = w.alloc (.cells #[.string ⟨p.toArray⟩] 9) := by
  refine callsIn_of_wp Try.func57 rfl trivial ?_ rfl
  simp only [Try.ntmps57, List.size_toArray, List.length_cons, List.length_nil, Nat.reduceAdd, Nat.reduceSub, Array.replicate_succ, Array.replicate_zero, List.push_toArray, List.append_toArray, List.nil_append, List.cons_append]
  gi_wp2
  go_ret
  exact ⟨rfl, rfl⟩
theorem parts_stops (n : Nat) (hn : 1 ≤ n) (Bs n₀ : Nat) (p : List UInt8) (hp : p.length ≤ 140737488351232) (w : World) (hBs : Bs < w.heap.size)
    (hc : w.cell? ⟨Bs, 0, none⟩ = some (.string ⟨p.toArray⟩)) :
    SeqStopsK Fence.wide n Try.prog 71 #[.pointer (some ⟨Bs, 0, none⟩)] (fun x : TxtP => #[Value.string ⟨x.1.toArray⟩]) (Below n₀) (fun ys => ys.map (·.1) = namesP p) (fun pre => pre.map (·.1) <+: namesP p) (p.length + 1) w := fun l J Jx W hW hJ _ hY h0 =>
  parts1_in n hn l Bs n₀ p hp J Jx hY (fun pre W m h => abides_drewN hJ m h) W ((hW.cell (p := ⟨Bs, 0, none⟩) hBs).trans hc) h0
end Go.Proofs.Ytkepkbgebickiaa

set_option linter.unusedVariables false
namespace Go.Proofs.Ytkepkbgebickiaa
open Go.RowKit Go.Shelf Copyhold Copyhold.Name
attribute [local go_sem] Oper.semAt_some
def RetSp (w : World) (r : List (List UInt8) × Int) (e : Ending) (w' : World) : Prop := ∃ v, e = .returned (.tuple #[v, .int .i64 r.2]) ∧ (Row w' v (r.1.map strV) ∧ At (w.heap.size ≤ ·) v) ∧ Below w.heap.size w w'
set_option maxRecDepth 100000 in
set_option maxHeartbeats 4000000 in
theorem Split_in (n : Nat) (hn : 3 ≤ n) (p : List UInt8) (hp : p.length ≤ 1000000) (w : World) :
    CallsIn Fence.wide n Try.prog 33 #[.string ⟨p.toArray⟩] w (RetSp w (splitD p)) := by
  have h1 : 1 ≤ n := by omega
  have h13 : 1 ≤ n - 1 - 1 := by omega
  obtain ⟨i0, hi, hz0, hz1, hz2⟩ := info_parts infoText
  have HPRE := Lib.hid (strings_HasPrefix p ((w.alloc (.cells #[.slice none 0 0] 68)).alloc (.cells #[.int .i64 0] 32)) (by omega))
  refine callsIn_of_wp_marks Try.func33 rfl trivial ?_ rfl
  simp only [Try.ntmps33, List.size_toArray, List.length_cons, List.length_nil, Nat.reduceAdd, Nat.reduceSub, Array.replicate_succ, Array.replicate_zero, List.push_toArray, List.append_toArray, List.nil_append, List.cons_append]
  cases hsl : slashed p
  · have hsd : splitD p = ([], 10) := by
      have : p.head? ≠ some 47 := by
        intro h
        rw [slashed, h] at hsl
        cases hsl
      rw [splitD, if_neg this]
    have HSD := Lib.hid hsd
    rw [hsl] at HPRE
    clear hsd hsl
    gi_wp2_with (refine ⟨trivial, ?_⟩; gi_at_call 56; refine (callsIn_wide.2 HPRE.out).mono ?_; rintro e w1 ⟨rfl, rfl⟩)
    refine ⟨.tuple #[.slice none 0 0, .int .i64 10], ?_, ⟨_, by rw [HSD.out], ⟨by rw [HSD.out]; exact .inl ⟨none, 0, rfl, rfl⟩, by exact trivial⟩, ((Below.refl _ w).alloc (Nat.le_refl _) _).alloc (by simp) _⟩⟩
    simp [results, Try.f33, go_sem]
  · have hsd : splitD p = if (namesP p).all okN then (namesP p, 0) else ([], 10) := by
      have : p.head? = some 47 := by simpa [slashed] using hsl
      rw [splitD, if_pos this]
    have HSD := Lib.hid hsd
    rw [hsl] at HPRE
    clear hsd hsl
    gi_wp2_with (first | (refine ⟨trivial, ?_⟩; gi_at_call 56; refine (callsIn_wide.2 HPRE.out).mono ?_; rintro e w1 ⟨rfl, rfl⟩) | (refine ⟨trivial, ?_⟩; gi_at_call 57; refine (parts_in (n - 1) p _).mono ?_; rintro e w' ⟨rfl, rfl⟩))
    have bR0 := Boxed.new w 68 (.slice none 0 0)
    have bR1 := Boxed.new (w.alloc (.cells #[.slice none 0 0] 68)) 32 (.int .i64 0)
    have bO := Boxed.new ((w.alloc (.cells #[.slice none 0 0] 68)).alloc (.cells #[.int .i64 0] 32)) 68 (.slice none 0 0)
    have bP := Boxed.new (((w.alloc (.cells #[.slice none 0 0] 68)).alloc (.cells #[.int .i64 0] 32)).alloc (.cells #[.slice none 0 0] 68)) 9 (.string ⟨p.toArray⟩)
    simp only [World.size_alloc] at bR1 bO bP
    have hB0 : Below w.heap.size w ((((w.alloc (.cells #[.slice none 0 0] 68)).alloc (.cells #[.int .i64 0] 32)).alloc (.cells #[.slice none 0 0] 68)).alloc (.cells #[.string ⟨p.toArray⟩] 9)) :=
      ((((Below.refl _ w).alloc (Nat.le_refl _) _).alloc (by simp) _).alloc (by simp; omega) _).alloc (by simp; omega) _
    refine wpIn_rangeFunc_ownG rfl h1 (gf := 71) (lb := #[.pointer (some ⟨w.heap.size + 1 + 1 + 1, 0, none⟩)]) rfl trivial (enters_of Try.func71 (by kernel_rfl) rfl)
      (parts_stops (n - 1) (by omega) (w.heap.size + 1 + 1 + 1) w.heap.size p (by omega) _ (by simp) bP.cell) belowK_t (belowK_b (by simp; omega)) (Below.refl _ _) (fun _ => rfl)
      (fun (pre : List TxtP) W => ((∃ v, Boxed W (w.heap.size + 1 + 1) 68 v ∧ W.ownsRow w.heap.size 9 1 v pre.length (pre.map fun x => strV x.1) ∧ (∀ x ∈ pre, okN x.1 = true)) ∧ Boxed W w.heap.size 68 (.slice none 0 0) ∧ Boxed W (w.heap.size + 1) 32 (.int .i64 0)) ∧ Below w.heap.size w W)
      (fun c (pre : List TxtP) W => (c = .ret ∧ (∃ x ∈ pre, okN x.1 = false) ∧ Boxed W w.heap.size 68 (.slice none 0 0) ∧ Boxed W (w.heap.size + 1) 32 (.int .i64 10)) ∧ Below w.heap.size w W)
      (OwnFrom.and (Own.from (fun s X Y row hs hg hr => ⟨holdsRow_own w.heap.size (w.heap.size + 1 + 1) 68 9 1 (fun (pre : List TxtP) => pre.length) (fun pre => pre.map fun x => strV x.1) (fun pre v => ∀ x ∈ pre, okN x.1 = true) s X Y row hs.1 hg hr, boxed_own w.heap.size 68 (fun (_ : List TxtP) => .slice none 0 0) s X Y row hs.2.1 hg hr, boxed_own (w.heap.size + 1) 32 (fun (_ : List TxtP) => .int .i64 0) s X Y row hs.2.2 hg hr⟩) _) (ownFrom_below (Nat.le_refl _) (by simp; omega)))
      (fun c => OwnFrom.and (Own.from (fun s X Y row hs hg hr => ⟨hs.1, hs.2.1, boxed_own w.heap.size 68 (fun (_ : List TxtP) => .slice none 0 0) s X Y row hs.2.2.1 hg hr, boxed_own (w.heap.size + 1) 32 (fun (_ : List TxtP) => .int .i64 10) s X Y row hs.2.2.2 hg hr⟩) _) (ownFrom_below (Nat.le_refl _) (by simp; omega)))
      ⟨⟨⟨_, bO.alloc _, World.ownsRow_nil _ _ _ _, by simp⟩, ((bR0.alloc _).alloc _).alloc _, (bR1.alloc _).alloc _⟩, hB0⟩
      (fun (x : TxtP) => { tmps := #[.string ⟨p.toArray⟩, undef, .pointer (some ⟨w.heap.size, 0, none⟩), .pointer (some ⟨w.heap.size + 1, 0, none⟩), .pointer (some ⟨w.heap.size + 1 + 1, 0, none⟩), .string ⟨x.1.toArray⟩, undef, .string ⟨p.toArray⟩, .bool true, .bool false, .string ⟨p.toArray⟩, .func (.func 71) #[] #[.pointer (some ⟨w.heap.size + 1 + 1 + 1, 0, none⟩)], .string ⟨x.1.toArray⟩, undef, undef, undef, undef, undef, undef, undef, undef, undef, undef], defers := [] }) ?assign ?body ?done ?stop
    case assign =>
      intro l x W K hK
      gi_wp2
      exact hK
    case body =>
      rintro l pre x W ⟨⟨⟨v, hv, hrow, hall⟩, hr0, hr1⟩, hB⟩ hlt
      have HC := Lib.hid (name_Check x.1 W x.2)
      have hc := hv.cell
      have c0 := hr0.cell
      have f0 := hr0.frozen
      have c1 := hr1.cell
      have f1 := hr1.frozen
      cases hx : okN x.1
      · rw [checkD, hx] at HC
        gi_wp2_with (refine ⟨trivial, ?_⟩; gi_at_call 29; refine (CallsIn.inRound l (callsIn_wide.2 HC.out)).mono ?_; rintro e w1 ⟨rfl, rfl⟩)
        have hk : KeepsOthers W ((W.setCell ⟨w.heap.size, 0, none⟩ (.slice none 0 0)).setCell ⟨w.heap.size + 1, 0, none⟩ (.int .i64 10)) := (KeepsOthers.setCell _ _ _).trans (KeepsOthers.setCell _ _ _)
        have hbb : Below w.heap.size w ((W.setCell ⟨w.heap.size, 0, none⟩ (.slice none 0 0)).setCell ⟨w.heap.size + 1, 0, none⟩ (.int .i64 10)) := (hB.setCell (p := ⟨w.heap.size, 0, none⟩) (Nat.le_refl _) _).setCell (p := ⟨w.heap.size + 1, 0, none⟩) (by simp) _
        exact ⟨hk.from _, ⟨rfl, ⟨x, by simp, hx⟩, (hr0.set _).other (by omega) _, (hr1.other (by omega) _).set _⟩, hbb⟩
      · rw [checkD, hx] at HC
        gi_wp2_with (first | (refine ⟨trivial, ?_⟩; gi_at_call 29; refine (CallsIn.inRound l (callsIn_wide.2 HC.out)).mono ?_; rintro e w1 ⟨rfl, rfl⟩) | (gi_at_builtin; refine wpListIn_append_own _ rfl _ _ 68 rfl w.heap.size 9 i0 (.string ⟨#[]⟩) 1 16 Try.underlying68 hi hz0 hz1 hz2 rfl (by decide) _ _ _ rfl (hrow.alloc _) ⟨W.heap.size, 0, none⟩ 1 1 [.string ⟨x.1.toArray⟩] rfl rfl (cell_one_new _ _ _) (by simp [Value.oneCell']) (by unfold maxLen; omega) (by omega) (by have := hB.size; simp; omega) ?_; intro v' w1' hown' hgrow _; obtain ⟨g', cap', rfl⟩ := ownsRow_succ hown'; have hr0' := (hr0.alloc (.cells #[.string ⟨x.1.toArray⟩] 9)).kept hgrow (hr0.not_row (by decide) hrow); have hr1' := (hr1.alloc (.cells #[.string ⟨x.1.toArray⟩] 9)).kept hgrow (hr1.not_row (by decide) hrow); obtain ⟨hv1', hv2, hr2, hk2, hb2⟩ := hv.appended (by decide) hrow hB.size (by omega) hown' hgrow; have hc1 := hv1'.cell; have hf1 := hv1'.frozen))
        exact ⟨hk2.from _, hb2, ⟨⟨_, hv2, by simpa [strV] using hr2, fun y hy => (List.mem_append.1 hy).elim (hall y) (fun h => by simp at h; rw [h]; exact hx)⟩, hr0'.other (by omega) _, hr1'.other (by omega) _⟩, hB.trans hb2⟩
    case done =>
      rintro D ys W hD hys ⟨⟨⟨v, hv, hrow, hall⟩, hr0, hr1⟩, hB⟩ hK
      have hc := hv.cell
      have c0 := hr0.cell
      have f0 := hr0.frozen
      have c1 := hr1.cell
      have f1 := hr1.frozen
      have hrw := Row.of_owns hrow
      obtain ⟨A, c, rfl⟩ := hrw.shape
      rw [List.length_map] at hrw hc hv hrow
      obtain ⟨W2, hW2⟩ : ∃ W2, W2 = (W.setCell ⟨w.heap.size, 0, none⟩ (.slice A ys.length c)).setCell ⟨w.heap.size + 1, 0, none⟩ (.int .i64 0) := ⟨_, rfl⟩
      have hK' : W2.heap[D]? = some (.deferred (some [])) := by rw [hW2]; exact ((KeepsOthers.setCell W ⟨w.heap.size, 0, none⟩ (.slice A ys.length c)).trans (KeepsOthers.setCell _ _ _)).same D _ hK rfl
      have hb2 : Below w.heap.size w W2 := by rw [hW2]; exact (hB.setCell (p := ⟨w.heap.size, 0, none⟩) (Nat.le_refl _) _).setCell (p := ⟨w.heap.size + 1, 0, none⟩) (by simp) _
      have b0 : Boxed W2 w.heap.size 68 (.slice A ys.length c) := by rw [hW2]; exact (hr0.set _).other (by omega) _
      have b1 : Boxed W2 (w.heap.size + 1) 32 (.int .i64 0) := by rw [hW2]; exact (hr1.other (by omega) _).set _
      have hro2 : W2.ownsRow w.heap.size 9 1 (.slice A ys.length c) ys.length (ys.map fun x => strV x.1) := by
        rw [hW2]
        have hn0 : some w.heap.size ≠ (Value.slice A ys.length c).ownBlock := hr0.not_row (by decide) hrow
        have hn1 : some (w.heap.size + 1) ≠ (Value.slice A ys.length c).ownBlock := hr1.not_row (by decide) hrow
        refine (hrow.kept (grownBy_setCell' W w.heap.size _) (.inr hn0.symm)).kept (grownBy_setCell' _ (w.heap.size + 1) _) (.inr hn1.symm)
      have hro3 := ownsRow_putObj hro2 (Obj.deferred none) hK' rfl
      have hc0 := cell_kept b0.cell (grownBy_putObj' _ D (.deferred none)) (fun r e => by cases e; exact ⟨_, hK', rfl⟩)
      have hc1 := cell_kept b1.cell (grownBy_putObj' _ D (.deferred none)) (fun r e => by cases e; exact ⟨_, hK', rfl⟩)
      have hgood : splitD p = (namesP p, 0) := by
        rw [HSD.out, if_pos]
        rw [← hys, List.all_eq_true]
        intro y hy
        obtain ⟨x, hx, rfl⟩ := List.mem_map.1 hy
        exact hall x hx
      have hfin : RetSp w (splitD p) (.returned (.tuple #[.slice A ys.length c, .int .i64 0])) (W2.putObj D (.deferred none)) := by
        rw [hgood]
        refine ⟨_, rfl, ⟨?_, At.of_owns hro3⟩, hb2.trans (belowK_b (w := w) (Nat.le_refl _) W2 D _ _ (by simp at hD; omega) hK' rfl rfl)⟩
        have := Row.of_owns hro3
        rw [← hys, List.map_map]
        exact this
      have HFIN := Lib.hid hfin
      have HK' := Lib.hid hK'
      have HC01 := Lib.hid (And.intro hc0 hc1)
      clear hfin hK' hc0 hc1 hro3 hro2 b0 b1 hb2 hgood hrw hrow hall hv hr0 hr1 hB
      gi_wp2
      rw [← hW2]
      refine ⟨by simp, .inl ⟨_, _, rfl, run_takeDeferred HK'.out, ?_⟩⟩
      refine ⟨.tuple #[.slice A ys.length c, .int .i64 0], ?_, HFIN.out⟩
      obtain ⟨hc0, hc1⟩ := HC01.out
      simp [results, Try.f33, go_sem, hc0, hc1]
    case stop =>
      rintro D c pre W hD hpre ⟨⟨rfl, ⟨x, hxm, hx⟩, hr0, hr1⟩, hB⟩ hK
      gi_wp2
      refine ⟨by simp, .inl ⟨_, _, rfl, run_takeDeferred hK, ?_⟩⟩
      have hc0 := cell_kept hr0.cell (grownBy_putObj' _ D (.deferred none)) (fun r e => by cases e; exact ⟨_, hK, rfl⟩)
      have hc1 := cell_kept hr1.cell (grownBy_putObj' _ D (.deferred none)) (fun r e => by cases e; exact ⟨_, hK, rfl⟩)
      have hbad : splitD p = ([], 10) := by
        rw [HSD.out, if_neg]
        rw [List.all_eq_true]
        intro h
        have := h x.1 (hpre.subset (List.mem_map.2 ⟨x, hxm, rfl⟩))
        rw [hx] at this
        cases this
      refine ⟨.tuple #[.slice none 0 0, .int .i64 10], ?_, ⟨_, by rw [hbad], ⟨by rw [hbad]; exact .inl ⟨none, 0, rfl, rfl⟩, by exact trivial⟩, hB.trans (belowK_b (w := w) (Nat.le_refl _) W D _ _ (by simp at hD; omega) hK rfl rfl)⟩⟩
      simp [results, Try.f33, go_sem, hc0, hc1]
theorem name_Split (p : List UInt8) (hp : p.length ≤ 1000000) (w : World) : Calls Try.prog 33 #[.string ⟨p.toArray⟩] w (RetSp w (splitD p)) :=
  callsIn_wide.1 (Split_in 3 (Nat.le_refl _) p hp w)
end Go.Proofs.Ytkepkbgebickiaa

set_option linter.unusedVariables false
namespace Go.Proofs.Ytkepkbgebickiaa
open Go.RowKit Copyhold Copyhold.Name
end Go.Proofs.Ytkepkbgebickiaa

set_option linter.unusedVariables false
namespace Go.Proofs.Ytkepkbgebickiaa
open Go.RowKit Copyhold Copyhold.Name
end Go.Proofs.Ytkepkbgebickiaa

set_option linter.unusedVariables false
namespace Go.Proofs.Ytkepkbgebickiaa
open Go.RowKit Copyhold Copyhold.Name
end Go.Proofs.Ytkepkbgebickiaa

set_option linter.unusedVariables false
namespace Go.Proofs.Ytkepkbgebickiaa
open Go.RowKit Copyhold Copyhold.Name
attribute [local go_sem] piece
end Go.Proofs.Ytkepkbgebickiaa
