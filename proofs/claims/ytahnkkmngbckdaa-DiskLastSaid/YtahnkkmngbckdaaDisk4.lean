/- disk.writes (a range over a function), at the three rules that are handed in: what it hands on; old memory is as it was. -/
import Derived.Test.YtahnkkmngbckdaaDisk3
import Derived.RangeFuncNested
import Derived.RangeFuncBound
import Derived.RangeFuncCalls
import Derived.RangeFuncLeaves
import Derived.RangeFuncBox
import Derived.Shelf.Abstract
import Derived.Shelf.RegionOpen
import Derived.OwnWalkIn
import Derived.TacticsInMore
import Derived.LoopNIn
import Derived.LoopIn
set_option linter.unusedVariables false
namespace Copyhold.Disk
open Go Go.RowKit
/-- blocks of a kind stay as they are -/
def KeepD (S : Nat → Prop) (W W' : World) : Prop := W.heap.size ≤ W'.heap.size ∧ ∀ k, S k → k < W.heap.size → W'.heap[k]? = W.heap[k]?
theorem KeepD.refl (S : Nat → Prop) (W : World) : KeepD S W W := ⟨Nat.le_refl _, fun _ _ _ => rfl⟩
theorem KeepD.trans {S : Nat → Prop} {A B C : World} (h : KeepD S A B) (k : KeepD S B C) : KeepD S A C := ⟨Nat.le_trans h.1 k.1, fun j hj hl => (k.2 j hj (Nat.lt_of_lt_of_le hl h.1)).trans (h.2 j hj hl)⟩
theorem KeepD.alloc {S : Nat → Prop} {W W' : World} (h : KeepD S W W') (o : Obj) : KeepD S W (W'.alloc o) := h.trans ⟨by simp, fun k _ hk => Below.heap_alloc W' o k hk⟩
theorem KeepD.of_below {S : Nat → Prop} {B : Nat} {W W' : World} (h : Below B W W') (hs : ∀ k, S k → k < B) : KeepD S W W' := ⟨h.size, fun k hk _ => h.block k (hs k hk)⟩
theorem KeepD.putObj {S : Nat → Prop} {B : Nat} (hs : ∀ k, S k → k < B) (W : World) (l : Nat) (o : Obj) (hl : B ≤ l) : KeepD S W (W.putObj l o) := ⟨by simp, fun k hk _ => World.putObj_heap_other (fun e => by have := hs k hk; omega)⟩
theorem _root_.Copyhold.TBox.keepD {S : Nat → Prop} {W W' : World} {B : Nat} {T : TypeId} {cs : Array Value} (h : TBox W B T cs) (k : KeepD S W W') (hS : S B) : TBox W' B T cs := (k.2 B hS h.lt).trans h
theorem Puts.keepD {S : Nat → Prop} {W W' : World} {v : Value} {l : List PutW} (h : Puts W v l) (hat : At S v) (k : KeepD S W W') : Puts W' v l := Sl.frame h hat k.2 k.1
theorem Row.keepD {S : Nat → Prop} {W W' : World} {v : Value} {xs : List Value} (h : Row W v xs) (hat : At S v) (k : KeepD S W W') : Row W' v xs := Row.frame h hat k.2 k.1
/-- a write that is there -/
abbrev PutS (n : Nat) : Type := { x : PutW // (0 ≤ x.1 ∧ x.1 < n) ∧ x.2.length ≤ 140737488351232 }
end Copyhold.Disk
namespace Go.Proofs.Ytahnkkmngbckdaa
open Go.RowKit Go.Shelf Copyhold Copyhold.Disk
attribute [local go_sem] Oper.semAt_some

theorem abides_alloc {β : Type} {B : Nat} {J : β → World → Prop} (h : AbidesFrom B J) {s : β} {W : World} (o : Obj) (hs : J s W) : J s (W.alloc o) :=
  h s W _ none hs (World.grownBy_alloc W o none) (fun r e => by cases e)

/-- what a rule answers -/
def LetK (F : FuncId) (caps : Array Value) (S : Nat → Prop) (W : World) (p : Nat → PutW → Bool) : Prop :=
  ∀ (i : Nat) (x : PutW) (W' : World), KeepD S W W' → i ≤ 5864062014634 → x.2.length ≤ 140737488351232 → Calls Try.prog F (#[.int .i64 (i : Int), .agg #[.int .i64 x.1, .string ⟨x.2.toArray⟩]] ++ caps) W' fun e W2 => e = .returned (.bool (p i x)) ∧ W2 = W'.alloc (.cells #[.int .i64 x.1, .string ⟨x.2.toArray⟩] 56)

theorem let_read (q : Nat) (a0 : Int) (S : Nat → Prop) (W : World) (hq : TBox W q 3 #[.int .i64 a0]) (sq : S q) : LetK 34 #[.pointer (some ⟨q, 0, none⟩)] S W (fun _ x => x.1 == a0) := by
  intro i x W' hk hi hx
  have t := hq.keepD hk sq
  have c : W'.cell? ⟨q, 0, none⟩ = some (.int .i64 a0) := t.cell 0
  have lt := t.lt
  obtain ⟨at', s⟩ := x
  show Calls Try.prog 34 #[.int .i64 (i : Int), .agg #[.int .i64 at', .string ⟨s.toArray⟩], .pointer (some ⟨q, 0, none⟩)] W' _
  clear t hq
  go_enter Try.func34, Try.ntmps34
  go_wp2_with fail
  go_ret
  exact ⟨rfl, rfl⟩

theorem let_all (S : Nat → Prop) (W : World) : LetK 37 #[] S W (fun _ _ => true) := by
  intro i x W' hk hi hx
  obtain ⟨at', s⟩ := x
  show Calls Try.prog 37 #[.int .i64 (i : Int), .agg #[.int .i64 at', .string ⟨s.toArray⟩]] W' _
  go_enter Try.func37, Try.ntmps37
  go_wp2_with fail
  go_ret
  exact ⟨rfl, rfl⟩

theorem let_keep (q : Nat) (A : Option Addr) (c : Nat) (keep : List Bool) (S : Nat → Prop) (W : World) (hq : TBox W q 43 #[.slice A keep.length c]) (sq : S q) (hr : Row W (.slice A keep.length c) (keep.map Value.bool)) (hat : At S (.slice A keep.length c)) (hl : keep.length ≤ 140737488351232) :
    LetK 38 #[.pointer (some ⟨q, 0, none⟩)] S W (keepP keep) := by
  intro i x W' hk hi hx
  have t := hq.keepD hk sq
  have hr' := Row.keepD hr hat hk
  have lt := t.lt
  obtain ⟨at', s⟩ := x
  show Calls Try.prog 38 #[.int .i64 (i : Int), .agg #[.int .i64 at', .string ⟨s.toArray⟩], .pointer (some ⟨q, 0, none⟩)] W' _
  by_cases hi : i < keep.length
  · obtain ⟨b, off, rfl, hbk, _, hcs⟩ := hr'.at i (x := .bool keep[i]) (by simp [hi])
    have hc : W'.cell? ⟨b, off + i, none⟩ = some (.bool keep[i]) := hcs i _ (by simp [hi])
    have c : W'.cell? ⟨q, 0, none⟩ = some (.slice (some ⟨b, off, none⟩) keep.length c) := t.cell 0
    have hp : keepP keep i (at', s) = keep[i] := by simp [keepP, List.getD, hi]
    have HP := Lib.hid hp
    clear t hq hr hr' hcs hp hat
    generalize keep[i] = kb at *
    go_enter Try.func38, Try.ntmps38
    go_wp2_with fail
    go_ret
    exact ⟨by rw [HP.out]; rfl, rfl⟩
  · have c : W'.cell? ⟨q, 0, none⟩ = some (.slice A keep.length c) := t.cell 0
    have hp : keepP keep i (at', s) = false := by simp [keepP, List.getD, show keep[i]? = none from List.getElem?_eq_none (by omega)]
    have HP := Lib.hid hp
    clear t hq hr hr' hp hat
    go_enter Try.func38, Try.ntmps38
    go_wp2_with fail
    go_ret
    exact ⟨by rw [HP.out]; rfl, rfl⟩

theorem writes_in (n : Nat) (A B : Option Addr) (m k c eb : Nat) (off : Bool) (fv : Value) (hfv : ∃ F caps, fv = .func (.func F) #[] caps) (w : World) :
    CallsIn Fence.wide n Try.prog 33 #[.agg #[.slice A m c, .slice B k eb, .bool off], fv] w fun e w' => e = .returned (.func (.func 40) #[] #[.pointer (some ⟨w.heap.size, 0, none⟩), .pointer (some ⟨w.heap.size + 1, 0, none⟩)]) ∧
      w' = (w.alloc (.cells #[.slice A m c, .slice B k eb, .bool off] 25)).alloc (.cells #[fv] 67) := by
  obtain ⟨F, caps, rfl⟩ := hfv
  refine callsIn_of_wp Try.func33 rfl trivial ?_ rfl
  simp only [Try.ntmps33, List.size_toArray, List.length_cons, List.length_nil, Nat.reduceAdd, Nat.reduceSub, Array.replicate_succ, Array.replicate_zero, List.push_toArray, List.append_toArray, List.nil_append, List.cons_append]
  gi_wp2
  go_ret
  exact ⟨rfl, rfl⟩


set_option maxRecDepth 100000 in
set_option maxHeartbeats 4000000 in
theorem writes1_read (n : Nat) (hn : 1 ≤ n) (S : Nat → Prop) (l bd bl : Nat) (A B : Option Addr) (c eb : Nat) (kn : Nat) (ws : List PutW) (off : Bool) (q : Nat) (p : Nat → PutW → Bool) (hkn : kn ≤ 8796093022208) (hok : OkPuts ws) (hm : ws.length ≤ 5864062014634) (J Jx : List (PutS kn) → World → Prop)
    (hY : ∀ pre (x : PutS kn) W, J pre W → pre.length < ws.length → YieldAt Fence.wide (n - 1) Try.prog l #[.int .i64 x.1.1, .string ⟨x.1.2.toArray⟩] W fun e W' =>
      (e = .returned (.bool true) ∧ J (pre ++ [x]) W' ∧ KeepD S W W') ∨ (e = .returned (.bool false) ∧ Jx (pre ++ [x]) W'))
    (hJa : ∀ pre W o, J pre W → J pre (W.alloc o))
    (W : World) (hbd : TBox W bd 25 #[.slice A kn c, .slice B ws.length eb, .bool off]) (sd : S bd) (hbl : TBox W bl 67 #[.func (.func 34) #[] #[.pointer (some ⟨q, 0, none⟩)]]) (sl : S bl)
    (hp : Puts W (.slice B ws.length eb) ws) (hat : At S (.slice B ws.length eb)) (hlet : LetK 34 #[.pointer (some ⟨q, 0, none⟩)] S W p) (h0 : J [] W) :
    CallsIn Fence.wide n Try.prog 40 #[.func (.yield l) #[] #[], .pointer (some ⟨bd, 0, none⟩), .pointer (some ⟨bl, 0, none⟩)] W fun e W' => (∃ v, e = .returned v) ∧
      ((∃ ys : List (PutS kn), ys.map (·.1) = lets kn p 0 ws ∧ J ys W') ∨ (∃ pre : List (PutS kn), True ∧ Jx pre W')) := by
  have HBD := Lib.hid hbd
  have HBL := Lib.hid hbl
  have HP := Lib.hid hp
  have HAT := Lib.hid hat
  have HLET := Lib.hid hlet
  have HSD := Lib.hid sd
  have HSL := Lib.hid sl
  have HOK := Lib.hid hok
  have HJA := Lib.hid hJa
  have i0 : W.cell? ⟨bd, 1, none⟩ = some (.slice B ws.length eb) := hbd.cell 1
  clear hbd hbl hp hat hlet sd sl hok hJa
  refine callsIn_of_wp Try.func40 rfl trivial ?_ rfl
  simp only [Try.ntmps40, List.size_toArray, List.length_cons, List.length_nil, Nat.reduceAdd, Nat.reduceSub, Array.replicate_succ, Array.replicate_zero, List.push_toArray, List.append_toArray, List.nil_append, List.cons_append]
  gi_wp2
  gi_loopw [9] (fun i wr => ∃ (k : Nat) (pre : List (PutS kn)), k ≤ ws.length ∧ i = .int .i64 k ∧ pre.map (·.1) = lets kn p 0 (ws.take k) ∧ J pre wr ∧ KeepD S W wr)
    (fun i _ => ws.length - (intOf i).toNat)
  case atStart => exact ⟨0, [], Nat.zero_le _, rfl, rfl, h0, KeepD.refl _ _⟩
  case round =>
    obtain ⟨k, pre, hk, rfl, hpre, hJs, hkd⟩ := hrel
    have HJS := Lib.hid hJs
    have HKD := Lib.hid hkd
    have HPRE := Lib.hid hpre
    clear hJs hkd hpre i0
    by_cases hlt : k < ws.length
    · have HY := Lib.hid hY
      have hp' := Puts.keepD HP.out HAT.out HKD.out
      obtain ⟨b, off', rfl, hbk, _, e0, e1⟩ := hp'.at k hlt
      have tb := HBD.out.keepD HKD.out HSD.out
      have tl := HBL.out.keepD HKD.out HSL.out
      have d0 : wr.cell? ⟨bd, 0, none⟩ = some (.slice A kn c) := tb.cell 0
      have d1 : wr.cell? ⟨bd, 1, none⟩ = some (.slice (some ⟨b, off', none⟩) ws.length eb) := tb.cell 1
      have d2 : wr.cell? ⟨bd, 2, none⟩ = some (.bool off) := tb.cell 2
      have l0 : wr.cell? ⟨bl, 0, none⟩ = some (.func (.func 34) #[] #[.pointer (some ⟨q, 0, none⟩)]) := tl.cell 0
      have dl := tb.lt
      have ll := tl.lt
      obtain ⟨hx, hx1, hx2⟩ := HOK.out ws[k] (List.getElem_mem hlt)
      have hst := lets_step kn p ws k hlt
      have HST := Lib.hid hst
      have hplen : pre.length < ws.length := by
        have h1 := congrArg List.length HPRE.out
        have h2 := lets_len kn p (ws.take k) 0
        simp at h1 h2
        omega
      have HTHR : Hid (∀ W, Calls Try.prog 31 #[.agg #[.slice A kn c, .slice (some ⟨b, off', none⟩) ws.length eb, .bool off], .int .i64 ws[k].1] W fun e w' => e = .returned (.bool (thereB kn ws[k].1)) ∧ w' = W.alloc (.cells #[.slice A kn c, .slice (some ⟨b, off', none⟩) ws.length eb, .bool off] 25)) :=
        Lib.hid (fun W => disk_there A (some ⟨b, off', none⟩) kn ws.length c eb off ws[k].1 W hkn)
      have HLT := Lib.hid (fun W' hk' => HLET.out k ws[k] W' hk' (by omega) hx)
      clear hp' tb tl hst hY
      generalize hxx : ws[k] = x at *
      obtain ⟨i, s⟩ := x
      simp only at e0 e1 hx hx1 hx2 HTHR HST HLT
      cases ht : thereB kn i with
      | false =>
        rw [ht] at HTHR HST
        have HSE : Hid (lets kn p 0 (ws.take (k + 1)) = lets kn p 0 (ws.take k)) := Lib.hid (by rw [HST.out]; simp)
        clear HST HLT ht
        gi_wp2_with (refine ⟨trivial, ?_⟩; gi_at_call 31; refine (callsIn_wide.2 (HTHR.out _)).mono ?_; rintro e w1 ⟨rfl, rfl⟩)
        refine ⟨fun _ h => (by cases h), ?_⟩
        gi_wp2
        go_roundw
        case rel => exact ⟨k + 1, pre, by omega, by go_num, by rw [HPRE.out, HSE.out], HJA.out _ _ _ (HJA.out _ _ _ HJS.out), (HKD.out.alloc _).alloc _⟩
        case measure => simp [intOf]; omega
      | true =>
        have HTB := Lib.hid ht
        rw [ht] at HTHR HST
        cases hpk : p k (i, s) with
        | false =>
          rw [hpk] at HLT HST
          have HSE : Hid (lets kn p 0 (ws.take (k + 1)) = lets kn p 0 (ws.take k)) := Lib.hid (by rw [HST.out]; simp)
          clear HST hpk ht
          gi_wp2_with (first | (refine ⟨trivial, ?_⟩; gi_at_call 31; refine (callsIn_wide.2 (HTHR.out _)).mono ?_; rintro e w1 ⟨rfl, rfl⟩) | (refine ⟨trivial, ?_⟩; gi_at_call 34; refine (callsIn_wide.2 (HLT.out _ ((HKD.out.alloc _).alloc _))).mono ?_; rintro e w2 ⟨rfl, rfl⟩))
          refine ⟨fun _ h => (by cases h), ?_⟩
          gi_wp2
          go_roundw
          case rel => exact ⟨k + 1, pre, by omega, by go_num, by rw [HPRE.out, HSE.out], HJA.out _ _ _ (HJA.out _ _ _ (HJA.out _ _ _ HJS.out)), ((HKD.out.alloc _).alloc _).alloc _⟩
          case measure => simp [intOf]; omega
        | true =>
          rw [hpk] at HLT HST
          have hxs : (0 ≤ i ∧ i < kn) ∧ s.length ≤ 140737488351232 := ⟨(thereB_iff _ _).1 ht, hx⟩
          have HSE : Hid (lets kn p 0 (ws.take (k + 1)) = lets kn p 0 (ws.take k) ++ [(i, s)]) := Lib.hid (by rw [HST.out]; simp)
          obtain ⟨fn, tmps, assign, body, hy, hR⟩ := HY.out pre ⟨(i, s), hxs⟩ (((wr.alloc (.cells #[.int .i64 i, .string ⟨s.toArray⟩] 56)).alloc (.cells #[.slice A kn c, .slice (some ⟨b, off', none⟩) ws.length eb, .bool off] 25)).alloc (.cells #[.int .i64 i, .string ⟨s.toArray⟩] 56)) (HJA.out _ _ _ (HJA.out _ _ _ (HJA.out _ _ _ HJS.out))) hplen
          dsimp only at hy
          have HR := Lib.hid hR
          clear HST hpk ht hR
          gi_wp2_with (first | (refine ⟨trivial, ?_⟩; gi_at_call 31; refine (callsIn_wide.2 (HTHR.out _)).mono ?_; rintro e w1 ⟨rfl, rfl⟩) | (refine ⟨trivial, ?_⟩; gi_at_call 34; refine (callsIn_wide.2 (HLT.out _ ((HKD.out.alloc _).alloc _))).mono ?_; rintro e w2 ⟨rfl, rfl⟩))
          refine HR.out.mono ?_
          rintro e W3 (⟨rfl, hJ3, hk3⟩ | ⟨rfl, hJx3⟩)
          · gi_wp2
            go_roundw
            case rel => exact ⟨k + 1, pre ++ [⟨(i, s), hxs⟩], by omega, by go_num, by rw [List.map_append, HPRE.out, HSE.out]; rfl, hJ3, (((HKD.out.alloc _).alloc _).alloc _).trans hk3⟩
            case measure => simp [intOf]; omega
          · gi_wp2
            refine bodyPost_ret (results_none rfl _ _ _) rfl ?_
            exact ⟨⟨_, rfl⟩, .inr ⟨_, trivial, hJx3⟩⟩
    · obtain rfl : k = ws.length := by omega
      have hfin : pre.map (·.1) = lets kn p 0 ws := by rw [HPRE.out, List.take_length]
      have HF := Lib.hid hfin
      clear hfin
      have hJs := HJS.out
      gi_wp2
      go_end0
      exact ⟨⟨_, rfl⟩, .inl ⟨pre, HF.out, HJS.out⟩⟩

theorem stops_read (n : Nat) (hn : 1 ≤ n) (S : Nat → Prop) (bd bl : Nat) (A B : Option Addr) (c eb : Nat) (kn : Nat) (ws : List PutW) (off : Bool) (q : Nat) (p : Nat → PutW → Bool) (hkn : kn ≤ 8796093022208) (hok : OkPuts ws) (hm : ws.length ≤ 5864062014634)
    (w : World) (hbd : TBox w bd 25 #[.slice A kn c, .slice B ws.length eb, .bool off]) (sd : S bd) (hbl : TBox w bl 67 #[.func (.func 34) #[] #[.pointer (some ⟨q, 0, none⟩)]]) (sl : S bl)
    (hp : Puts w (.slice B ws.length eb) ws) (hat : At S (.slice B ws.length eb)) (hlet : ∀ W, KeepD S w W → LetK 34 #[.pointer (some ⟨q, 0, none⟩)] S W p) :
    SeqStopsK Fence.wide n Try.prog 40 #[.pointer (some ⟨bd, 0, none⟩), .pointer (some ⟨bl, 0, none⟩)] (fun x : PutS kn => #[Value.int .i64 x.1.1, .string ⟨x.1.2.toArray⟩]) (KeepD S) (fun ys => ys.map (·.1) = lets kn p 0 ws) (fun _ => True) ws.length w := fun l J Jx W hW hJ _ hY h0 =>
  writes1_read n hn S l bd bl A B c eb kn ws off q p hkn hok hm J Jx hY (fun pre W o h => abides_alloc hJ o h) W (TBox.below hbd hW) sd (TBox.below hbl hW) sl (hp.below hW) hat (hlet W ⟨hW.size, fun k _ hk => hW.block k hk⟩) h0

set_option maxRecDepth 100000 in
set_option maxHeartbeats 4000000 in
theorem writes1_keep (n : Nat) (hn : 1 ≤ n) (S : Nat → Prop) (l bd bl : Nat) (A B : Option Addr) (c eb : Nat) (kn : Nat) (ws : List PutW) (off : Bool) (q : Nat) (p : Nat → PutW → Bool) (hkn : kn ≤ 8796093022208) (hok : OkPuts ws) (hm : ws.length ≤ 5864062014634) (J Jx : List (PutS kn) → World → Prop)
    (hY : ∀ pre (x : PutS kn) W, J pre W → pre.length < ws.length → YieldAt Fence.wide (n - 1) Try.prog l #[.int .i64 x.1.1, .string ⟨x.1.2.toArray⟩] W fun e W' =>
      (e = .returned (.bool true) ∧ J (pre ++ [x]) W' ∧ KeepD S W W') ∨ (e = .returned (.bool false) ∧ Jx (pre ++ [x]) W'))
    (hJa : ∀ pre W o, J pre W → J pre (W.alloc o))
    (W : World) (hbd : TBox W bd 25 #[.slice A kn c, .slice B ws.length eb, .bool off]) (sd : S bd) (hbl : TBox W bl 67 #[.func (.func 38) #[] #[.pointer (some ⟨q, 0, none⟩)]]) (sl : S bl)
    (hp : Puts W (.slice B ws.length eb) ws) (hat : At S (.slice B ws.length eb)) (hlet : LetK 38 #[.pointer (some ⟨q, 0, none⟩)] S W p) (h0 : J [] W) :
    CallsIn Fence.wide n Try.prog 40 #[.func (.yield l) #[] #[], .pointer (some ⟨bd, 0, none⟩), .pointer (some ⟨bl, 0, none⟩)] W fun e W' => (∃ v, e = .returned v) ∧
      ((∃ ys : List (PutS kn), ys.map (·.1) = lets kn p 0 ws ∧ J ys W') ∨ (∃ pre : List (PutS kn), True ∧ Jx pre W')) := by
  have HBD := Lib.hid hbd
  have HBL := Lib.hid hbl
  have HP := Lib.hid hp
  have HAT := Lib.hid hat
  have HLET := Lib.hid hlet
  have HSD := Lib.hid sd
  have HSL := Lib.hid sl
  have HOK := Lib.hid hok
  have HJA := Lib.hid hJa
  have i0 : W.cell? ⟨bd, 1, none⟩ = some (.slice B ws.length eb) := hbd.cell 1
  clear hbd hbl hp hat hlet sd sl hok hJa
  refine callsIn_of_wp Try.func40 rfl trivial ?_ rfl
  simp only [Try.ntmps40, List.size_toArray, List.length_cons, List.length_nil, Nat.reduceAdd, Nat.reduceSub, Array.replicate_succ, Array.replicate_zero, List.push_toArray, List.append_toArray, List.nil_append, List.cons_append]
  gi_wp2
  gi_loopw [9] (fun i wr => ∃ (k : Nat) (pre : List (PutS kn)), k ≤ ws.length ∧ i = .int .i64 k ∧ pre.map (·.1) = lets kn p 0 (ws.take k) ∧ J pre wr ∧ KeepD S W wr)
    (fun i _ => ws.length - (intOf i).toNat)
  case atStart => exact ⟨0, [], Nat.zero_le _, rfl, rfl, h0, KeepD.refl _ _⟩
  case round =>
    obtain ⟨k, pre, hk, rfl, hpre, hJs, hkd⟩ := hrel
    have HJS := Lib.hid hJs
    have HKD := Lib.hid hkd
    have HPRE := Lib.hid hpre
    clear hJs hkd hpre i0
    by_cases hlt : k < ws.length
    · have HY := Lib.hid hY
      have hp' := Puts.keepD HP.out HAT.out HKD.out
      obtain ⟨b, off', rfl, hbk, _, e0, e1⟩ := hp'.at k hlt
      have tb := HBD.out.keepD HKD.out HSD.out
      have tl := HBL.out.keepD HKD.out HSL.out
      have d0 : wr.cell? ⟨bd, 0, none⟩ = some (.slice A kn c) := tb.cell 0
      have d1 : wr.cell? ⟨bd, 1, none⟩ = some (.slice (some ⟨b, off', none⟩) ws.length eb) := tb.cell 1
      have d2 : wr.cell? ⟨bd, 2, none⟩ = some (.bool off) := tb.cell 2
      have l0 : wr.cell? ⟨bl, 0, none⟩ = some (.func (.func 38) #[] #[.pointer (some ⟨q, 0, none⟩)]) := tl.cell 0
      have dl := tb.lt
      have ll := tl.lt
      obtain ⟨hx, hx1, hx2⟩ := HOK.out ws[k] (List.getElem_mem hlt)
      have hst := lets_step kn p ws k hlt
      have HST := Lib.hid hst
      have hplen : pre.length < ws.length := by
        have h1 := congrArg List.length HPRE.out
        have h2 := lets_len kn p (ws.take k) 0
        simp at h1 h2
        omega
      have HTHR : Hid (∀ W, Calls Try.prog 31 #[.agg #[.slice A kn c, .slice (some ⟨b, off', none⟩) ws.length eb, .bool off], .int .i64 ws[k].1] W fun e w' => e = .returned (.bool (thereB kn ws[k].1)) ∧ w' = W.alloc (.cells #[.slice A kn c, .slice (some ⟨b, off', none⟩) ws.length eb, .bool off] 25)) :=
        Lib.hid (fun W => disk_there A (some ⟨b, off', none⟩) kn ws.length c eb off ws[k].1 W hkn)
      have HLT := Lib.hid (fun W' hk' => HLET.out k ws[k] W' hk' (by omega) hx)
      clear hp' tb tl hst hY
      generalize hxx : ws[k] = x at *
      obtain ⟨i, s⟩ := x
      simp only at e0 e1 hx hx1 hx2 HTHR HST HLT
      cases ht : thereB kn i with
      | false =>
        rw [ht] at HTHR HST
        have HSE : Hid (lets kn p 0 (ws.take (k + 1)) = lets kn p 0 (ws.take k)) := Lib.hid (by rw [HST.out]; simp)
        clear HST HLT ht
        gi_wp2_with (refine ⟨trivial, ?_⟩; gi_at_call 31; refine (callsIn_wide.2 (HTHR.out _)).mono ?_; rintro e w1 ⟨rfl, rfl⟩)
        refine ⟨fun _ h => (by cases h), ?_⟩
        gi_wp2
        go_roundw
        case rel => exact ⟨k + 1, pre, by omega, by go_num, by rw [HPRE.out, HSE.out], HJA.out _ _ _ (HJA.out _ _ _ HJS.out), (HKD.out.alloc _).alloc _⟩
        case measure => simp [intOf]; omega
      | true =>
        have HTB := Lib.hid ht
        rw [ht] at HTHR HST
        cases hpk : p k (i, s) with
        | false =>
          rw [hpk] at HLT HST
          have HSE : Hid (lets kn p 0 (ws.take (k + 1)) = lets kn p 0 (ws.take k)) := Lib.hid (by rw [HST.out]; simp)
          clear HST hpk ht
          gi_wp2_with (first | (refine ⟨trivial, ?_⟩; gi_at_call 31; refine (callsIn_wide.2 (HTHR.out _)).mono ?_; rintro e w1 ⟨rfl, rfl⟩) | (refine ⟨trivial, ?_⟩; gi_at_call 38; refine (callsIn_wide.2 (HLT.out _ ((HKD.out.alloc _).alloc _))).mono ?_; rintro e w2 ⟨rfl, rfl⟩))
          refine ⟨fun _ h => (by cases h), ?_⟩
          gi_wp2
          go_roundw
          case rel => exact ⟨k + 1, pre, by omega, by go_num, by rw [HPRE.out, HSE.out], HJA.out _ _ _ (HJA.out _ _ _ (HJA.out _ _ _ HJS.out)), ((HKD.out.alloc _).alloc _).alloc _⟩
          case measure => simp [intOf]; omega
        | true =>
          rw [hpk] at HLT HST
          have hxs : (0 ≤ i ∧ i < kn) ∧ s.length ≤ 140737488351232 := ⟨(thereB_iff _ _).1 ht, hx⟩
          have HSE : Hid (lets kn p 0 (ws.take (k + 1)) = lets kn p 0 (ws.take k) ++ [(i, s)]) := Lib.hid (by rw [HST.out]; simp)
          obtain ⟨fn, tmps, assign, body, hy, hR⟩ := HY.out pre ⟨(i, s), hxs⟩ (((wr.alloc (.cells #[.int .i64 i, .string ⟨s.toArray⟩] 56)).alloc (.cells #[.slice A kn c, .slice (some ⟨b, off', none⟩) ws.length eb, .bool off] 25)).alloc (.cells #[.int .i64 i, .string ⟨s.toArray⟩] 56)) (HJA.out _ _ _ (HJA.out _ _ _ (HJA.out _ _ _ HJS.out))) hplen
          dsimp only at hy
          have HR := Lib.hid hR
          clear HST hpk ht hR
          gi_wp2_with (first | (refine ⟨trivial, ?_⟩; gi_at_call 31; refine (callsIn_wide.2 (HTHR.out _)).mono ?_; rintro e w1 ⟨rfl, rfl⟩) | (refine ⟨trivial, ?_⟩; gi_at_call 38; refine (callsIn_wide.2 (HLT.out _ ((HKD.out.alloc _).alloc _))).mono ?_; rintro e w2 ⟨rfl, rfl⟩))
          refine HR.out.mono ?_
          rintro e W3 (⟨rfl, hJ3, hk3⟩ | ⟨rfl, hJx3⟩)
          · gi_wp2
            go_roundw
            case rel => exact ⟨k + 1, pre ++ [⟨(i, s), hxs⟩], by omega, by go_num, by rw [List.map_append, HPRE.out, HSE.out]; rfl, hJ3, (((HKD.out.alloc _).alloc _).alloc _).trans hk3⟩
            case measure => simp [intOf]; omega
          · gi_wp2
            refine bodyPost_ret (results_none rfl _ _ _) rfl ?_
            exact ⟨⟨_, rfl⟩, .inr ⟨_, trivial, hJx3⟩⟩
    · obtain rfl : k = ws.length := by omega
      have hfin : pre.map (·.1) = lets kn p 0 ws := by rw [HPRE.out, List.take_length]
      have HF := Lib.hid hfin
      clear hfin
      have hJs := HJS.out
      gi_wp2
      go_end0
      exact ⟨⟨_, rfl⟩, .inl ⟨pre, HF.out, HJS.out⟩⟩

theorem stops_keep (n : Nat) (hn : 1 ≤ n) (S : Nat → Prop) (bd bl : Nat) (A B : Option Addr) (c eb : Nat) (kn : Nat) (ws : List PutW) (off : Bool) (q : Nat) (p : Nat → PutW → Bool) (hkn : kn ≤ 8796093022208) (hok : OkPuts ws) (hm : ws.length ≤ 5864062014634)
    (w : World) (hbd : TBox w bd 25 #[.slice A kn c, .slice B ws.length eb, .bool off]) (sd : S bd) (hbl : TBox w bl 67 #[.func (.func 38) #[] #[.pointer (some ⟨q, 0, none⟩)]]) (sl : S bl)
    (hp : Puts w (.slice B ws.length eb) ws) (hat : At S (.slice B ws.length eb)) (hlet : ∀ W, KeepD S w W → LetK 38 #[.pointer (some ⟨q, 0, none⟩)] S W p) :
    SeqStopsK Fence.wide n Try.prog 40 #[.pointer (some ⟨bd, 0, none⟩), .pointer (some ⟨bl, 0, none⟩)] (fun x : PutS kn => #[Value.int .i64 x.1.1, .string ⟨x.1.2.toArray⟩]) (KeepD S) (fun ys => ys.map (·.1) = lets kn p 0 ws) (fun _ => True) ws.length w := fun l J Jx W hW hJ _ hY h0 =>
  writes1_keep n hn S l bd bl A B c eb kn ws off q p hkn hok hm J Jx hY (fun pre W o h => abides_alloc hJ o h) W (TBox.below hbd hW) sd (TBox.below hbl hW) sl (hp.below hW) hat (hlet W ⟨hW.size, fun k _ hk => hW.block k hk⟩) h0

set_option maxRecDepth 100000 in
set_option maxHeartbeats 4000000 in
theorem writes1_all (n : Nat) (hn : 1 ≤ n) (S : Nat → Prop) (l bd bl : Nat) (A B : Option Addr) (c eb : Nat) (kn : Nat) (ws : List PutW) (off : Bool) (p : Nat → PutW → Bool) (hkn : kn ≤ 8796093022208) (hok : OkPuts ws) (hm : ws.length ≤ 5864062014634) (J Jx : List (PutS kn) → World → Prop)
    (hY : ∀ pre (x : PutS kn) W, J pre W → pre.length < ws.length → YieldAt Fence.wide (n - 1) Try.prog l #[.int .i64 x.1.1, .string ⟨x.1.2.toArray⟩] W fun e W' =>
      (e = .returned (.bool true) ∧ J (pre ++ [x]) W' ∧ KeepD S W W') ∨ (e = .returned (.bool false) ∧ Jx (pre ++ [x]) W'))
    (hJa : ∀ pre W o, J pre W → J pre (W.alloc o))
    (W : World) (hbd : TBox W bd 25 #[.slice A kn c, .slice B ws.length eb, .bool off]) (sd : S bd) (hbl : TBox W bl 67 #[.func (.func 37) #[] #[]]) (sl : S bl)
    (hp : Puts W (.slice B ws.length eb) ws) (hat : At S (.slice B ws.length eb)) (hlet : LetK 37 #[] S W p) (h0 : J [] W) :
    CallsIn Fence.wide n Try.prog 40 #[.func (.yield l) #[] #[], .pointer (some ⟨bd, 0, none⟩), .pointer (some ⟨bl, 0, none⟩)] W fun e W' => (∃ v, e = .returned v) ∧
      ((∃ ys : List (PutS kn), ys.map (·.1) = lets kn p 0 ws ∧ J ys W') ∨ (∃ pre : List (PutS kn), True ∧ Jx pre W')) := by
  have HBD := Lib.hid hbd
  have HBL := Lib.hid hbl
  have HP := Lib.hid hp
  have HAT := Lib.hid hat
  have HLET := Lib.hid hlet
  have HSD := Lib.hid sd
  have HSL := Lib.hid sl
  have HOK := Lib.hid hok
  have HJA := Lib.hid hJa
  have i0 : W.cell? ⟨bd, 1, none⟩ = some (.slice B ws.length eb) := hbd.cell 1
  clear hbd hbl hp hat hlet sd sl hok hJa
  refine callsIn_of_wp Try.func40 rfl trivial ?_ rfl
  simp only [Try.ntmps40, List.size_toArray, List.length_cons, List.length_nil, Nat.reduceAdd, Nat.reduceSub, Array.replicate_succ, Array.replicate_zero, List.push_toArray, List.append_toArray, List.nil_append, List.cons_append]
  gi_wp2
  gi_loopw [9] (fun i wr => ∃ (k : Nat) (pre : List (PutS kn)), k ≤ ws.length ∧ i = .int .i64 k ∧ pre.map (·.1) = lets kn p 0 (ws.take k) ∧ J pre wr ∧ KeepD S W wr)
    (fun i _ => ws.length - (intOf i).toNat)
  case atStart => exact ⟨0, [], Nat.zero_le _, rfl, rfl, h0, KeepD.refl _ _⟩
  case round =>
    obtain ⟨k, pre, hk, rfl, hpre, hJs, hkd⟩ := hrel
    have HJS := Lib.hid hJs
    have HKD := Lib.hid hkd
    have HPRE := Lib.hid hpre
    clear hJs hkd hpre i0
    by_cases hlt : k < ws.length
    · have HY := Lib.hid hY
      have hp' := Puts.keepD HP.out HAT.out HKD.out
      obtain ⟨b, off', rfl, hbk, _, e0, e1⟩ := hp'.at k hlt
      have tb := HBD.out.keepD HKD.out HSD.out
      have tl := HBL.out.keepD HKD.out HSL.out
      have d0 : wr.cell? ⟨bd, 0, none⟩ = some (.slice A kn c) := tb.cell 0
      have d1 : wr.cell? ⟨bd, 1, none⟩ = some (.slice (some ⟨b, off', none⟩) ws.length eb) := tb.cell 1
      have d2 : wr.cell? ⟨bd, 2, none⟩ = some (.bool off) := tb.cell 2
      have l0 : wr.cell? ⟨bl, 0, none⟩ = some (.func (.func 37) #[] #[]) := tl.cell 0
      have dl := tb.lt
      have ll := tl.lt
      obtain ⟨hx, hx1, hx2⟩ := HOK.out ws[k] (List.getElem_mem hlt)
      have hst := lets_step kn p ws k hlt
      have HST := Lib.hid hst
      have hplen : pre.length < ws.length := by
        have h1 := congrArg List.length HPRE.out
        have h2 := lets_len kn p (ws.take k) 0
        simp at h1 h2
        omega
      have HTHR : Hid (∀ W, Calls Try.prog 31 #[.agg #[.slice A kn c, .slice (some ⟨b, off', none⟩) ws.length eb, .bool off], .int .i64 ws[k].1] W fun e w' => e = .returned (.bool (thereB kn ws[k].1)) ∧ w' = W.alloc (.cells #[.slice A kn c, .slice (some ⟨b, off', none⟩) ws.length eb, .bool off] 25)) :=
        Lib.hid (fun W => disk_there A (some ⟨b, off', none⟩) kn ws.length c eb off ws[k].1 W hkn)
      have HLT := Lib.hid (fun W' hk' => HLET.out k ws[k] W' hk' (by omega) hx)
      clear hp' tb tl hst hY
      generalize hxx : ws[k] = x at *
      obtain ⟨i, s⟩ := x
      simp only at e0 e1 hx hx1 hx2 HTHR HST HLT
      cases ht : thereB kn i with
      | false =>
        rw [ht] at HTHR HST
        have HSE : Hid (lets kn p 0 (ws.take (k + 1)) = lets kn p 0 (ws.take k)) := Lib.hid (by rw [HST.out]; simp)
        clear HST HLT ht
        gi_wp2_with (refine ⟨trivial, ?_⟩; gi_at_call 31; refine (callsIn_wide.2 (HTHR.out _)).mono ?_; rintro e w1 ⟨rfl, rfl⟩)
        refine ⟨fun _ h => (by cases h), ?_⟩
        gi_wp2
        go_roundw
        case rel => exact ⟨k + 1, pre, by omega, by go_num, by rw [HPRE.out, HSE.out], HJA.out _ _ _ (HJA.out _ _ _ HJS.out), (HKD.out.alloc _).alloc _⟩
        case measure => simp [intOf]; omega
      | true =>
        have HTB := Lib.hid ht
        rw [ht] at HTHR HST
        cases hpk : p k (i, s) with
        | false =>
          rw [hpk] at HLT HST
          have HSE : Hid (lets kn p 0 (ws.take (k + 1)) = lets kn p 0 (ws.take k)) := Lib.hid (by rw [HST.out]; simp)
          clear HST hpk ht
          gi_wp2_with (first | (refine ⟨trivial, ?_⟩; gi_at_call 31; refine (callsIn_wide.2 (HTHR.out _)).mono ?_; rintro e w1 ⟨rfl, rfl⟩) | (refine ⟨trivial, ?_⟩; gi_at_call 37; refine (callsIn_wide.2 (HLT.out _ ((HKD.out.alloc _).alloc _))).mono ?_; rintro e w2 ⟨rfl, rfl⟩))
          refine ⟨fun _ h => (by cases h), ?_⟩
          gi_wp2
          go_roundw
          case rel => exact ⟨k + 1, pre, by omega, by go_num, by rw [HPRE.out, HSE.out], HJA.out _ _ _ (HJA.out _ _ _ (HJA.out _ _ _ HJS.out)), ((HKD.out.alloc _).alloc _).alloc _⟩
          case measure => simp [intOf]; omega
        | true =>
          rw [hpk] at HLT HST
          have hxs : (0 ≤ i ∧ i < kn) ∧ s.length ≤ 140737488351232 := ⟨(thereB_iff _ _).1 ht, hx⟩
          have HSE : Hid (lets kn p 0 (ws.take (k + 1)) = lets kn p 0 (ws.take k) ++ [(i, s)]) := Lib.hid (by rw [HST.out]; simp)
          obtain ⟨fn, tmps, assign, body, hy, hR⟩ := HY.out pre ⟨(i, s), hxs⟩ (((wr.alloc (.cells #[.int .i64 i, .string ⟨s.toArray⟩] 56)).alloc (.cells #[.slice A kn c, .slice (some ⟨b, off', none⟩) ws.length eb, .bool off] 25)).alloc (.cells #[.int .i64 i, .string ⟨s.toArray⟩] 56)) (HJA.out _ _ _ (HJA.out _ _ _ (HJA.out _ _ _ HJS.out))) hplen
          dsimp only at hy
          have HR := Lib.hid hR
          clear HST hpk ht hR
          gi_wp2_with (first | (refine ⟨trivial, ?_⟩; gi_at_call 31; refine (callsIn_wide.2 (HTHR.out _)).mono ?_; rintro e w1 ⟨rfl, rfl⟩) | (refine ⟨trivial, ?_⟩; gi_at_call 37; refine (callsIn_wide.2 (HLT.out _ ((HKD.out.alloc _).alloc _))).mono ?_; rintro e w2 ⟨rfl, rfl⟩))
          refine HR.out.mono ?_
          rintro e W3 (⟨rfl, hJ3, hk3⟩ | ⟨rfl, hJx3⟩)
          · gi_wp2
            go_roundw
            case rel => exact ⟨k + 1, pre ++ [⟨(i, s), hxs⟩], by omega, by go_num, by rw [List.map_append, HPRE.out, HSE.out]; rfl, hJ3, (((HKD.out.alloc _).alloc _).alloc _).trans hk3⟩
            case measure => simp [intOf]; omega
          · gi_wp2
            refine bodyPost_ret (results_none rfl _ _ _) rfl ?_
            exact ⟨⟨_, rfl⟩, .inr ⟨_, trivial, hJx3⟩⟩
    · obtain rfl : k = ws.length := by omega
      have hfin : pre.map (·.1) = lets kn p 0 ws := by rw [HPRE.out, List.take_length]
      have HF := Lib.hid hfin
      clear hfin
      have hJs := HJS.out
      gi_wp2
      go_end0
      exact ⟨⟨_, rfl⟩, .inl ⟨pre, HF.out, HJS.out⟩⟩

theorem stops_all (n : Nat) (hn : 1 ≤ n) (S : Nat → Prop) (bd bl : Nat) (A B : Option Addr) (c eb : Nat) (kn : Nat) (ws : List PutW) (off : Bool) (p : Nat → PutW → Bool) (hkn : kn ≤ 8796093022208) (hok : OkPuts ws) (hm : ws.length ≤ 5864062014634)
    (w : World) (hbd : TBox w bd 25 #[.slice A kn c, .slice B ws.length eb, .bool off]) (sd : S bd) (hbl : TBox w bl 67 #[.func (.func 37) #[] #[]]) (sl : S bl)
    (hp : Puts w (.slice B ws.length eb) ws) (hat : At S (.slice B ws.length eb)) (hlet : ∀ W, KeepD S w W → LetK 37 #[] S W p) :
    SeqStopsK Fence.wide n Try.prog 40 #[.pointer (some ⟨bd, 0, none⟩), .pointer (some ⟨bl, 0, none⟩)] (fun x : PutS kn => #[Value.int .i64 x.1.1, .string ⟨x.1.2.toArray⟩]) (KeepD S) (fun ys => ys.map (·.1) = lets kn p 0 ws) (fun _ => True) ws.length w := fun l J Jx W hW hJ _ hY h0 =>
  writes1_all n hn S l bd bl A B c eb kn ws off p hkn hok hm J Jx hY (fun pre W o h => abides_alloc hJ o h) W (TBox.below hbd hW) sd (TBox.below hbl hW) sl (hp.below hW) hat (hlet W ⟨hW.size, fun k _ hk => hW.block k hk⟩) h0
end Go.Proofs.Ytahnkkmngbckdaa
