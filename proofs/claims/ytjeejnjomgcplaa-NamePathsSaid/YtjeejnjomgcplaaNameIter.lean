/- name.each and name.Names (a range over a function): they answer as the document says; old memory is as it was. -/
import Derived.Test.YtjeejnjomgcplaaNameRefs
import Derived.Test.YtjeejnjomgcplaaSlice
import Derived.RangeFuncNested
import Derived.RangeFuncBound
import Derived.RangeFuncCalls
import Derived.RangeFuncLeaves
import Derived.RangeFuncBox
import Derived.Shelf.Abstract
import Derived.Shelf.RegionOpen
import Derived.OwnWalkIn
import Derived.TacticsInMore
import Derived.LoopNIn
import Derived.LoopIn
set_option linter.unusedVariables false
namespace Go.Proofs.Ytjeejnjomgcplaa
open Go.RowKit Go.Shelf Copyhold Copyhold.Name
attribute [local go_sem] Oper.semAt_some

set_option maxRecDepth 100000 in
set_option maxHeartbeats 2000000 in
theorem each1_in (n : Nat) (hn : 1 ≤ n) (l Bs n₀ c : Nat) (A : Option Addr) (es : List Ent) (hlen : es.length ≤ 1000000) (J Jx : List (List UInt8) → World → Prop)
    (hY : ∀ pre x W, J pre W → pre.length < es.length → YieldAt Fence.wide (n - 1) Try.prog l #[.string ⟨x.toArray⟩] W fun e W' =>
      (e = .returned (.bool true) ∧ J (pre ++ [x]) W' ∧ Below n₀ W W') ∨ (e = .returned (.bool false) ∧ Jx (pre ++ [x]) W'))
    (hJa : ∀ pre W o, J pre W → J pre (W.alloc o))
    (W : World) (hn0 : n₀ ≤ W.heap.size) (hBs : W.cell? ⟨Bs, 0, none⟩ = some (.slice A es.length c)) (hE : Ents W (.slice A es.length c) es) (hat : At (· < n₀) (.slice A es.length c)) (h0 : J [] W) :
    CallsIn Fence.wide n Try.prog 39 #[.func (.yield l) #[] #[], .pointer (some ⟨Bs, 0, none⟩)] W fun e W' => (∃ v, e = .returned v) ∧
      ((∃ ys, ys = es.map (·.1) ∧ J ys W') ∨ (∃ pre, pre <+: es.map (·.1) ∧ Jx pre W')) := by
  have HE := Lib.hid hE
  have HAT := Lib.hid hat
  clear hE hat
  refine callsIn_of_wp Try.func39 rfl trivial ?_ rfl
  simp only [Try.ntmps39, List.size_toArray, List.length_cons, List.length_nil, Nat.reduceAdd, Nat.reduceSub, Array.replicate_succ, Array.replicate_zero, List.push_toArray, List.append_toArray, List.nil_append, List.cons_append]
  gi_wp2
  gi_loopw [7] (fun i wr => ∃ k : Nat, k ≤ es.length ∧ i = .int .i64 k ∧ J ((es.take k).map (·.1)) wr ∧ Below n₀ W wr ∧ W.heap.size ≤ wr.heap.size)
    (fun i _ => es.length - (intOf i).toNat)
  case atStart => exact ⟨0, Nat.zero_le _, rfl, by simpa using h0, Below.refl _ _, Nat.le_refl _⟩
  case round =>
    obtain ⟨k, hk, rfl, hJs, hnx, hsz⟩ := hrel
    by_cases hlt : k < es.length
    · have hE' : Ents wr (.slice A es.length c) es := Sl.frame HE.out HAT.out (fun b hb _ => hnx.block b hb) hsz
      obtain ⟨b, off, hA, hbk, hc, hc1, hc2⟩ := hE'.at k hlt
      subst hA
      have hst : (es.take (k + 1)).map (·.1) = (es.take k).map (·.1) ++ [es[k].1] := by
        rw [List.take_succ_eq_append_getElem hlt, List.map_append]
        rfl
      have HST := Lib.hid hst
      have hJa' := hJa _ _ (.cells #[strV es[k].1, .int .i64 es[k].2] 55) hJs
      have hll : ((es.take k).map (·.1)).length < es.length := by simp; omega
      obtain ⟨fn, tmps, assign, body, hy, hR⟩ := hY _ es[k].1 _ hJa' hll
      have HR := Lib.hid hR
      have HNX := Lib.hid hnx
      have HPP : Hid ((es.take (k + 1)).map (·.1) <+: es.map (·.1)) := Lib.hid ((List.take_prefix _ _).map _)
      clear hE' hst hJa' hll hR hnx hJs hY
      unfold strV at hy HR
      generalize es[k] = x at *
      gi_wp2
      refine HR.out.mono ?_
      rintro e W3 (⟨rfl, hJ3, hk3⟩ | ⟨rfl, hJx3⟩)
      · have hn3 : Below n₀ W W3 := (HNX.out.alloc (by omega) _).trans hk3
        have hs3 := hk3.size
        gi_wp2
        go_roundw
        case rel => exact ⟨k + 1, by omega, by go_num, by rw [HST.out]; exact hJ3, hn3, by simp at hs3; omega⟩
        case measure => simp [intOf]; omega
      · gi_wp2
        refine bodyPost_ret (results_none rfl _ _ _) rfl ?_
        exact ⟨⟨_, rfl⟩, .inr ⟨_, by rw [← HST.out]; exact HPP.out, hJx3⟩⟩
    · obtain rfl : k = es.length := by omega
      have hfin : (es.take es.length).map (·.1) = es.map (·.1) := by rw [List.take_length]
      have HF := Lib.hid hfin
      clear hfin
      gi_wp2
      go_end0
      exact ⟨⟨_, rfl⟩, .inl (by rw [← HF.out]; exact hJs)⟩

theorem abides_alloc {β : Type} {B : Nat} {J : β → World → Prop} (h : AbidesFrom B J) {s : β} {W : World} (o : Obj) (hs : J s W) : J s (W.alloc o) :=
  h s W _ none hs (World.grownBy_alloc W o none) (fun r e => by cases e)

theorem each_in (n : Nat) (A : Option Addr) (m c : Nat) (w : World) :
    CallsIn Fence.wide n Try.prog 32 #[.slice A m c] w fun e w' => e = .returned (.func (.func 39) #[] #[.pointer (some ⟨w.heap.size, 0, none⟩)]) ∧ w' = w.alloc (.cells #[.slice A m c] 22) := by
  refine callsIn_of_wp Try.func32 rfl trivial ?_ rfl
  simp only [Try.ntmps32, List.size_toArray, List.length_cons, List.length_nil, Nat.reduceAdd, Nat.reduceSub, Array.replicate_succ, Array.replicate_zero, List.push_toArray, List.append_toArray, List.nil_append, List.cons_append]
  gi_wp2
  go_ret
  exact ⟨rfl, rfl⟩

theorem each_stops (n : Nat) (hn : 1 ≤ n) (Bs n₀ c : Nat) (A : Option Addr) (es : List Ent) (hlen : es.length ≤ 1000000) (w : World) (hBs : Bs < w.heap.size) (hn₀ : n₀ ≤ w.heap.size)
    (hc : w.cell? ⟨Bs, 0, none⟩ = some (.slice A es.length c)) (hE : Ents w (.slice A es.length c) es) (hat : At (· < n₀) (.slice A es.length c)) :
    SeqStopsK Fence.wide n Try.prog 39 #[.pointer (some ⟨Bs, 0, none⟩)] (fun x : List UInt8 => #[Value.string ⟨x.toArray⟩]) (Below n₀) (fun ys => ys = es.map (·.1)) (fun pre => pre <+: es.map (·.1)) es.length w := fun l J Jx W hW hJ _ hY h0 =>
  each1_in n hn l Bs n₀ c A es hlen J Jx hY (fun pre W o h => abides_alloc hJ o h) W (Nat.le_trans hn₀ hW.size) ((hW.cell (p := ⟨Bs, 0, none⟩) hBs).trans hc) (hE.below hW) hat h0

theorem infoText : (Try.prog.info? 9).map (fun i => (i.zero, i.size, i.bytes)) = some (some (.string ⟨#[]⟩), 1, 16) := by kernel_rfl

set_option maxRecDepth 100000 in
set_option maxHeartbeats 4000000 in
theorem Names_in (n : Nat) (hn : 3 ≤ n) (A : Option Addr) (c : Nat) (es : List Ent) (hlen : es.length ≤ 1000000) (w : World) (hE : Ents w (.slice A es.length c) es) :
    CallsIn Fence.wide n Try.prog 20 #[.slice A es.length c] w fun e W' => ∃ v, e = .returned v ∧ W'.ownsRow w.heap.size 9 1 v es.length (es.map fun x => strV x.1) ∧ Below w.heap.size w W' := by
  have h1 : 1 ≤ n := by omega
  obtain ⟨i0, hi, hz0, hz1, hz2⟩ := info_parts infoText
  obtain ⟨w1, hmk, hown1, hgr1⟩ := make_room2 textElem w w.heap.size es.length (by omega) (by unfold maxLen; omega) (Nat.le_refl _)
  have hb1 := (Below.refl w.heap.size w).grown hgr1 (Nat.le_refl _) (fun g hg => by cases hg)
  refine callsIn_of_wp_marks Try.func20 rfl trivial ?_ rfl
  simp only [Try.ntmps20, List.size_toArray, List.length_cons, List.length_nil, Nat.reduceAdd, Nat.reduceSub, Array.replicate_succ, Array.replicate_zero, List.push_toArray, List.append_toArray, List.nil_append, List.cons_append]
  gi_wp2_with (refine ⟨trivial, ?_⟩; gi_at_call 32; refine (each_in (n - 1) A es.length c _).mono ?_; rintro e w' ⟨rfl, rfl⟩)
  obtain ⟨v1, hv1⟩ : ∃ v, v = Value.slice (some ⟨w.heap.size, 0, none⟩) 0 es.length := ⟨_, rfl⟩
  rw [← hv1] at hown1 ⊢
  clear hv1 hmk hgr1
  have bO := Boxed.new w1 25 v1
  have bN := Boxed.new (w1.alloc (.cells #[v1] 25)) 22 (.slice A es.length c)
  rw [World.size_alloc] at bN
  have hB0 : Below w.heap.size w ((w1.alloc (.cells #[v1] 25)).alloc (.cells #[.slice A es.length c] 22)) := (hb1.alloc hb1.size _).alloc (by have := hb1.size; simp; omega) _
  have hE0 : Ents ((w1.alloc (.cells #[v1] 25)).alloc (.cells #[.slice A es.length c] 22)) (.slice A es.length c) es := hE.below hB0
  refine wpIn_rangeFunc_ownG rfl h1 (gf := 39) (lb := #[.pointer (some ⟨w1.heap.size + 1, 0, none⟩)]) rfl trivial (enters_of Try.func39 (by kernel_rfl) rfl)
    (each_stops (n - 1) (by omega) (w1.heap.size + 1) w.heap.size c A es hlen _ (by simp) (by have := hb1.size; simp; omega) bN.cell hE0 hE.lies) belowK_t (belowK_b (by have := hb1.size; simp; omega)) (Below.refl _ _) (fun _ => rfl)
    (fun (pre : List (List UInt8)) W => (∃ v, Boxed W w1.heap.size 25 v ∧ W.ownsRow w.heap.size 9 1 v pre.length (pre.map strV) ∧ True) ∧ Below w.heap.size w W)
    (fun _ _ _ => False)
    (OwnFrom.and (Own.from (holdsRow_own w.heap.size w1.heap.size 25 9 1 (fun (pre : List (List UInt8)) => pre.length) (fun pre => pre.map strV) (fun pre v => True)) _) (ownFrom_below (Nat.le_refl _) (by have := hb1.size; simp; omega)))
    (fun _ _ _ _ _ hs _ _ => hs)
    ⟨⟨_, bO.alloc _, (hown1.alloc _).alloc _, trivial⟩, hB0⟩
    (fun (x : List UInt8) => { tmps := #[.slice A es.length c, undef, .slice none 0 0, .pointer (some ⟨w1.heap.size, 0, none⟩), .string ⟨x.toArray⟩, .slice A es.length c, .int .i64 es.length, v1, .slice A es.length c, .func (.func 39) #[] #[.pointer (some ⟨w1.heap.size + 1, 0, none⟩)], .string ⟨x.toArray⟩, undef, undef, undef, undef, undef], defers := [] }) ?assign ?body ?done ?stop
  case assign =>
    intro l x W K hK
    gi_wp2
    exact hK
  case body =>
    rintro l pre x W ⟨⟨v, hv, hrow, -⟩, hB⟩ hlt
    have hc := hv.cell
    gi_wp2_with (gi_at_builtin; refine wpListIn_append_own _ rfl _ _ 25 rfl w.heap.size 9 i0 (.string ⟨#[]⟩) 1 16 Try.underlying25 hi hz0 hz1 hz2 rfl (by decide) _ _ _ rfl (hrow.alloc _) ⟨W.heap.size, 0, none⟩ 1 1 [.string ⟨x.toArray⟩] rfl rfl (cell_one_new _ _ _) (by simp [Value.oneCell']) (by unfold maxLen; omega) (by omega) (by have := hB.size; simp; omega) ?_; intro v' w1' hown' hgrow _; obtain ⟨g', cap', rfl⟩ := ownsRow_succ hown'; obtain ⟨hv1', hv2, hr2, hk2, hb2⟩ := hv.appended (by decide) hrow hB.size hb1.size hown' hgrow; have hc1 := hv1'.cell; have hf1 := hv1'.frozen)
    exact ⟨hk2.from _, hb2, ⟨_, hv2, by simpa [strV] using hr2, trivial⟩, hB.trans hb2⟩
  case done =>
    rintro D ys W hD rfl ⟨⟨v, hv, hrow, -⟩, hB⟩ hK
    have hc := hv.cell
    gi_wp2
    refine ⟨by simp, .inl ⟨_, _, rfl, run_takeDeferred hK, ?_⟩⟩
    have hr := ownsRow_putObj hrow (Obj.deferred none) hK rfl
    rw [List.length_map, List.map_map] at hr
    exact ⟨_, results_tmp rfl _ _ _, v, rfl, hr, hB.trans (belowK_b (w := w) (Nat.le_refl _) W D _ _ (by have := hb1.size; simp at hD; omega) hK rfl rfl)⟩
  case stop =>
    rintro D c pre W _ _ h _
    exact h.elim

theorem name_Names (A : Option Addr) (c : Nat) (es : List Ent) (hlen : es.length ≤ 1000000) (w : World) (hE : Ents w (.slice A es.length c) es) :
    Calls Try.prog 20 #[.slice A es.length c] w fun e W' => ∃ v, e = .returned v ∧ Row W' v (es.map fun x => strV x.1) ∧ Below w.heap.size w W' :=
  (callsIn_wide.1 (Names_in 3 (Nat.le_refl _) A c es hlen w hE)).mono fun e W' ⟨v, h1, h2, h3⟩ => ⟨v, h1, Row.of_owns h2, h3⟩
end Go.Proofs.Ytjeejnjomgcplaa
