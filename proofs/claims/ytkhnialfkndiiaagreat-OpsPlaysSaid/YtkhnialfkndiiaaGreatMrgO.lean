import Derived.Test.YtkhnialfkndiiaaGreatMrgN
import Derived.Test.YtkhnialfkndiiaaGreatMrgI
import Derived.RangeFuncNested
import Derived.RangeFuncBound
import Derived.RangeFuncCalls
import Derived.RangeFuncLeaves
import Derived.RangeFuncBox
import Derived.Shelf.Abstract
import Derived.Shelf.RegionOpen
import Derived.OwnWalkIn
import Derived.TacticsInMore
import Derived.LoopNIn
import Derived.LoopIn
import Derived.Test.YtkhnialfkndiiaaGreatMrgL
set_option maxRecDepth 100000
set_option maxHeartbeats 8000000
set_option linter.unusedVariables false
namespace Go.Proofs.YtkhnialfkndiiaaGreat
open Go.RowKit Go.Shelf Copyhold Copyhold.Name
attribute [local go_sem] Oper.semAt_some
theorem each1_in (n : Nat) (hn : 1 ≤ n) (l Bs n₀ c : Nat) (A : Option Addr) (es : List Name.Ent) (hlen : es.length ≤ 1000000) (J Jx : List (List UInt8) → World → Prop)
  (hY : ∀ pre x W, J pre W → pre.length < es.length → YieldAt Fence.wide (n - 1) Tryz.prog l #[.string ⟨x.toArray⟩] W fun e W' =>
   (e = .returned (.bool true) ∧ J (pre ++ [x]) W' ∧ Below n₀ W W') ∨ (e = .returned (.bool false) ∧ Jx (pre ++ [x]) W'))
  (hJa : ∀ pre W o, J pre W → J pre (W.alloc o))
  (W : World) (hn0 : n₀ ≤ W.heap.size) (hBs : W.cell? ⟨Bs, 0, none⟩ = some (.slice A es.length c)) (hE : Ents W (.slice A es.length c) es) (hat : At (· < n₀) (.slice A es.length c)) (h0 : J [] W) :
  CallsIn Fence.wide n Tryz.prog 145 #[.func (.yield l) #[] #[], .pointer (some ⟨Bs, 0, none⟩)] W fun e W' => (∃ v, e = .returned v) ∧
   ((∃ ys, ys = es.map (·.1) ∧ J ys W') ∨ (∃ pre, pre <+: es.map (·.1) ∧ Jx pre W')) := by
 have HE := Lib.hid hE
 have HAT := Lib.hid hat
 clear hE hat
 refine callsIn_of_wp Tryz.func145 rfl trivial ?_ rfl
 simp only [Tryz.ntmps145, List.size_toArray, List.length_cons, List.length_nil, Nat.reduceAdd, Nat.reduceSub, Array.replicate_succ, Array.replicate_zero, List.push_toArray, List.append_toArray, List.nil_append, List.cons_append]
 gi_wp2
 gi_loopw [7] (fun i wr => ∃ k : Nat, k ≤ es.length ∧ i = .int .i64 k ∧ J ((es.take k).map (·.1)) wr ∧ Below n₀ W wr ∧ W.heap.size ≤ wr.heap.size)
  (fun i _ => es.length - (intOf i).toNat)
 case atStart => exact ⟨0, Nat.zero_le _, rfl, by simpa using h0, Below.refl _ _, Nat.le_refl _⟩
 case round =>
  obtain ⟨k, hk, rfl, hJs, hnx, hsz⟩ := hrel
  by_cases hlt : k < es.length
  ·have hE' : Ents wr (.slice A es.length c) es := Sl.frame HE.out HAT.out (fun b hb _ => hnx.block b hb) hsz
   obtain ⟨b, off, hA, hbk, hc, hc1, hc2⟩ := hE'.at k hlt
   subst hA
   have hst : (es.take (k + 1)).map (·.1) = (es.take k).map (·.1) ++ [es[k].1] := by
    rw [List.take_succ_eq_append_getElem hlt, List.map_append]
    rfl
   have HST := Lib.hid hst
   have hJa' := hJa _ _ (.cells #[strV es[k].1, .int .i64 es[k].2] 101) hJs
   have hll : ((es.take k).map (·.1)).length < es.length := by simp; omega
   obtain ⟨fn, tmps, assign, body, hy, hR⟩ := hY _ es[k].1 _ hJa' hll
   have HR := Lib.hid hR
   have HNX := Lib.hid hnx
   have HPP : Hid ((es.take (k + 1)).map (·.1) <+: es.map (·.1)) := Lib.hid ((List.take_prefix _ _).map _)
   clear hE' hst hJa' hll hR hnx hJs hY
   unfold strV at hy HR
   generalize es[k] = x at *
   gi_wp2
   refine HR.out.mono ?_
   rintro e W3 (⟨rfl, hJ3, hk3⟩ | ⟨rfl, hJx3⟩)
   ·have hn3 : Below n₀ W W3 := (HNX.out.alloc (by omega) _).trans hk3
    have hs3 := hk3.size
    gi_wp2
    go_roundw
    case rel => exact ⟨k + 1, by omega, by go_num, by rw [HST.out]; exact hJ3, hn3, by simp at hs3; omega⟩
    case measure => simp [intOf]; omega
   ·gi_wp2
    refine bodyPost_ret (results_none rfl _ _ _) rfl ?_
    exact ⟨⟨_, rfl⟩, .inr ⟨_, by rw [← HST.out]; exact HPP.out, hJx3⟩⟩
  ·obtain rfl : k = es.length := by omega
   have hfin : (es.take es.length).map (·.1) = es.map (·.1) := by rw [List.take_length]
   have HF := Lib.hid hfin
   clear hfin
   gi_wp2
   go_end0
   exact ⟨⟨_, rfl⟩, .inl (by rw [← HF.out]; exact hJs)⟩
theorem abides_alloc {β : Type} {B : Nat} {J : β → World → Prop} (h : AbidesFrom B J) {s : β} {W : World} (o : Obj) (hs : J s W) : J s (W.alloc o) :=
 h s W _ none hs (World.grownBy_alloc W o none) (fun r e => by cases e)
theorem each_in (n : Nat) (A : Option Addr) (m c : Nat) (w : World) :
  CallsIn Fence.wide n Tryz.prog 126 #[.slice A m c] w fun e w' => e = .returned (.func (.func 145) #[] #[.pointer (some ⟨w.heap.size, 0, none⟩)]) ∧ w' = w.alloc (.cells #[.slice A m c] 57) := by
 refine callsIn_of_wp Tryz.func126 rfl trivial ?_ rfl
 simp only [Tryz.ntmps126, List.size_toArray, List.length_cons, List.length_nil, Nat.reduceAdd, Nat.reduceSub, Array.replicate_succ, Array.replicate_zero, List.push_toArray, List.append_toArray, List.nil_append, List.cons_append]
 gi_wp2
 go_ret
 exact ⟨rfl, rfl⟩
theorem each_stops (n : Nat) (hn : 1 ≤ n) (Bs n₀ c : Nat) (A : Option Addr) (es : List Name.Ent) (hlen : es.length ≤ 1000000) (w : World) (hBs : Bs < w.heap.size) (hn₀ : n₀ ≤ w.heap.size)
  (hc : w.cell? ⟨Bs, 0, none⟩ = some (.slice A es.length c)) (hE : Ents w (.slice A es.length c) es) (hat : At (· < n₀) (.slice A es.length c)) :
  SeqStopsK Fence.wide n Tryz.prog 145 #[.pointer (some ⟨Bs, 0, none⟩)] (fun x : List UInt8 => #[Value.string ⟨x.toArray⟩]) (Below n₀) (fun ys => ys = es.map (·.1)) (fun pre => pre <+: es.map (·.1)) es.length w := fun l J Jx W hW hJ _ hY h0 =>
 each1_in n hn l Bs n₀ c A es hlen J Jx hY (fun pre W o h => abides_alloc hJ o h) W (Nat.le_trans hn₀ hW.size) ((hW.cell (p := ⟨Bs, 0, none⟩) hBs).trans hc) (hE.below hW) hat h0
theorem infoText : (Tryz.prog.info? 9).map (fun i => (i.zero, i.size, i.bytes)) = some (some (.string ⟨#[]⟩), 1, 16) := by kernel_rfl
theorem Names_in (n : Nat) (hn : 3 ≤ n) (A : Option Addr) (c : Nat) (es : List Name.Ent) (hlen : es.length ≤ 1000000) (w : World) (hE : Ents w (.slice A es.length c) es) :
  CallsIn Fence.wide n Tryz.prog 89 #[.slice A es.length c] w fun e W' => ∃ v, e = .returned v ∧ W'.ownsRow w.heap.size 9 1 v es.length (es.map fun x => strV x.1) ∧ Below w.heap.size w W' := by
 have h1 : 1 ≤ n := by omega
 obtain ⟨i0, hi, hz0, hz1, hz2⟩ := info_parts infoText
 obtain ⟨w1, hmk, hown1, hgr1⟩ := make_room2 textElem w w.heap.size es.length (by omega) (by unfold maxLen; omega) (Nat.le_refl _)
 have hb1 := (Below.refl w.heap.size w).grown hgr1 (Nat.le_refl _) (fun g hg => by cases hg)
 refine callsIn_of_wp_marks Tryz.func89 rfl trivial ?_ rfl
 simp only [Tryz.ntmps89, List.size_toArray, List.length_cons, List.length_nil, Nat.reduceAdd, Nat.reduceSub, Array.replicate_succ, Array.replicate_zero, List.push_toArray, List.append_toArray, List.nil_append, List.cons_append]
 gi_wp2_with (refine ⟨trivial, ?_⟩; gi_at_call 126; refine (each_in (n - 1) A es.length c _).mono ?_; rintro e w' ⟨rfl, rfl⟩)
 obtain ⟨v1, hv1⟩ : ∃ v, v = Value.slice (some ⟨w.heap.size, 0, none⟩) 0 es.length := ⟨_, rfl⟩
 rw [← hv1] at hown1 ⊢
 clear hv1 hmk hgr1
 have bO := Boxed.new w1 28 v1
 have bN := Boxed.new (w1.alloc (.cells #[v1] 28)) 57 (.slice A es.length c)
 rw [World.size_alloc] at bN
 have hB0 : Below w.heap.size w ((w1.alloc (.cells #[v1] 28)).alloc (.cells #[.slice A es.length c] 57)) := (hb1.alloc hb1.size _).alloc (by have := hb1.size; simp; omega) _
 have hE0 : Ents ((w1.alloc (.cells #[v1] 28)).alloc (.cells #[.slice A es.length c] 57)) (.slice A es.length c) es := hE.below hB0
 refine wpIn_rangeFunc_ownG rfl h1 (gf := 145) (lb := #[.pointer (some ⟨w1.heap.size + 1, 0, none⟩)]) rfl trivial (enters_of Tryz.func145 (by kernel_rfl) rfl)
  (each_stops (n - 1) (by omega) (w1.heap.size + 1) w.heap.size c A es hlen _ (by simp) (by have := hb1.size; simp; omega) bN.cell hE0 hE.lies) belowK_t (belowK_b (by have := hb1.size; simp; omega)) (Below.refl _ _) (fun _ => rfl)
  (fun (pre : List (List UInt8)) W => (∃ v, Boxed W w1.heap.size 28 v ∧ W.ownsRow w.heap.size 9 1 v pre.length (pre.map strV) ∧ True) ∧ Below w.heap.size w W)
  (fun _ _ _ => False)
  (OwnFrom.and (Own.from (holdsRow_own w.heap.size w1.heap.size 28 9 1 (fun (pre : List (List UInt8)) => pre.length) (fun pre => pre.map strV) (fun pre v => True)) _) (ownFrom_below (Nat.le_refl _) (by have := hb1.size; simp; omega)))
  (fun _ _ _ _ _ hs _ _ => hs)
  ⟨⟨_, bO.alloc _, (hown1.alloc _).alloc _, trivial⟩, hB0⟩
  (fun (x : List UInt8) => { tmps := #[.slice A es.length c, undef, .slice none 0 0, .pointer (some ⟨w1.heap.size, 0, none⟩), .string ⟨x.toArray⟩, .slice A es.length c, .int .i64 es.length, v1, .slice A es.length c, .func (.func 145) #[] #[.pointer (some ⟨w1.heap.size + 1, 0, none⟩)], .string ⟨x.toArray⟩, undef, undef, undef, undef, undef], defers := [] }) ?assign ?body ?done ?stop
 case assign =>
  intro l x W K hK
  gi_wp2
  exact hK
 case body =>
  rintro l pre x W ⟨⟨v, hv, hrow, -⟩, hB⟩ hlt
  have hc := hv.cell
  gi_wp2_with (gi_at_builtin; refine wpListIn_append_own _ rfl _ _ 28 rfl w.heap.size 9 i0 (.string ⟨#[]⟩) 1 16 Tryz.underlying28 hi hz0 hz1 hz2 rfl (by decide) _ _ _ rfl (hrow.alloc _) ⟨W.heap.size, 0, none⟩ 1 1 [.string ⟨x.toArray⟩] rfl rfl (cell_one_new _ _ _) (by simp [Value.oneCell']) (by unfold maxLen; omega) (by omega) (by have := hB.size; simp; omega) ?_; intro v' w1' hown' hgrow _; obtain ⟨g', cap', rfl⟩ := ownsRow_succ hown'; obtain ⟨hv1', hv2, hr2, hk2, hb2⟩ := hv.appended (by decide) hrow hB.size hb1.size hown' hgrow; have hc1 := hv1'.cell; have hf1 := hv1'.frozen)
  exact ⟨hk2.from _, hb2, ⟨_, hv2, by simpa [strV] using hr2, trivial⟩, hB.trans hb2⟩
 case done =>
  rintro D ys W hD rfl ⟨⟨v, hv, hrow, -⟩, hB⟩ hK
  have hc := hv.cell
  gi_wp2
  refine ⟨by simp, .inl ⟨_, _, rfl, run_takeDeferred hK, ?_⟩⟩
  have hr := ownsRow_putObj hrow (Obj.deferred none) hK rfl
  rw [List.length_map, List.map_map] at hr
  exact ⟨_, results_tmp rfl _ _ _, v, rfl, hr, hB.trans (belowK_b (w := w) (Nat.le_refl _) W D _ _ (by have := hb1.size; simp at hD; omega) hK rfl rfl)⟩
 case stop =>
  rintro D c pre W _ _ h _
  exact h.elim
end Go.Proofs.YtkhnialfkndiiaaGreat

set_option linter.unusedSimpArgs false
namespace Go.Proofs.YtkhnialfkndiiaaGreat
open Go Go.RowKit Copyhold Copyhold.Name
abbrev NEnt := Copyhold.Name.Ent
def entO (x : NEnt) : Ent := ⟨x.1, x.2⟩
def lI (l : List Ent) : List NEnt := l.map fun e => ((e.name, e.ino) : NEnt)
theorem lI_O (l : List Ent) : (lI l).map entO = l := by
 unfold lI
 rw [List.map_map]
 have : (entO ∘ fun e : Ent => ((e.name, e.ino) : NEnt)) = id := by funext e; rfl
 rw [this, List.map_id]
theorem checkP_iff {s : Txt} : okN s = true ↔ checkP s := by
 simp only [okN, checkP, Bool.and_eq_true, Bool.not_eq_true', decide_eq_true_eq, beq_eq_false_iff_ne, ne_eq]
 constructor
 ·rintro ⟨⟨⟨⟨⟨h1, h2⟩, h3⟩, h4⟩, h5⟩, h6⟩
  exact ⟨h1, h2, h3, h4, by simpa using h5, by simpa using h6⟩
 ·rintro ⟨h1, h2, h3, h4, h5, h6⟩
  exact ⟨⟨⟨⟨⟨h1, h2⟩, h3⟩, h4⟩, by simpa using h5⟩, by simpa using h6⟩
theorem rowP_iff (l : List NEnt) : rightE l = true ↔ rowP (l.map entO) := by
 simp only [rightE, rowP, Bool.and_eq_true, decide_eq_true_eq, List.all_eq_true, List.mem_range, List.length_map]
 refine and_congr_right fun _ => ⟨fun h i e he => ?_, fun h i hi => ?_⟩
 ·rw [List.getElem?_map] at he
  cases hx : l[i]? with
  | none => rw [hx] at he; cases he
  | some x =>
   rw [hx] at he
   obtain rfl := Option.some.inj he
   have := h i (lt_of_some hx)
   simp only [okAt, hx, Bool.and_eq_true, okE, decide_eq_true_eq] at this
   refine ⟨checkP_iff.1 this.1.1, this.1.2, fun d h0 hd => ?_⟩
   rw [List.getElem?_map] at hd
   cases hy : l[i - 1]? with
   | none => rw [hy] at hd; cases hd
   | some y =>
    rw [hy] at hd
    obtain rfl := Option.some.inj hd
    have hu := this.2
    simp only [upAt, hy, Bool.or_eq_true, beq_iff_eq, decide_eq_true_eq] at hu
    show Op.bytesLess y.1 x.1 = true
    rw [less_eq]
    exact decide_eq_true (hu.resolve_left (by omega))
 ·have hx := List.getElem?_eq_getElem hi
  have := h i (entO l[i]) (by rw [List.getElem?_map, hx]; rfl)
  simp only [okAt, hx, Bool.and_eq_true, okE, decide_eq_true_eq]
  refine ⟨⟨checkP_iff.2 this.1, this.2.1⟩, ?_⟩
  simp only [upAt, Bool.or_eq_true, beq_iff_eq]
  by_cases h0 : i = 0
  ·exact .inl h0
  ·have hy := List.getElem?_eq_getElem (l := l) (i := i - 1) (by omega)
   right
   rw [hy]
   have h2 := this.2.2 (entO l[i - 1]) (by omega) (by rw [List.getElem?_map, hy]; rfl)
   have h3 : Op.bytesLess l[i - 1].1 l[i].1 = true := h2
   rw [less_eq] at h3
   exact h3
theorem vals_of {D : Nat → Prop} {w : World} {vals us : List Value} (hl : us.length = vals.length) (h : ∀ (j : Nat) (a : AV) (u : Value), (vals.map AV.val)[j]? = some a → us[j]? = some u → Ra D w a u) : us = vals := by
 apply List.ext_getElem?
 intro j
 by_cases hj : j < vals.length
 ·have h1 := List.getElem?_eq_getElem hj
  have h2 := List.getElem?_eq_getElem (l := us) (i := j) (by omega)
  have := h j (.val vals[j]) us[j] (by rw [List.getElem?_map, h1]; rfl) h2
  rw [h1, h2]
  generalize us[j] = u at this
  cases this
  rfl
 ·rw [List.getElem?_eq_none (by omega), List.getElem?_eq_none (by omega)]
theorem entA_flat (l : List Ent) : (l.map entA).flatten = ((l.map fun e => ((e.name, e.ino) : NEnt)).flatMap Copyhold.Name.entC).map AV.val := by
 induction l with
 | nil => rfl
 | cons e r ih =>
  simp only [List.map_cons, List.flatten_cons, List.flatMap_cons, List.map_append, ih]
  rfl
theorem row_srt {l : List Ent} (h : rowP l) : Srt (lI l) := right_srt ((rowP_iff (lI l)).2 (by rw [lI_O]; exact h))
def getI (l : List Ent) (s : Txt) : Int := (getE (lI l) s).getD 0
def isB (l : List Ent) (s : Txt) : Bool := isAt (lI l) s
theorem get_away {l : List Ent} {s : Txt} (h : isB l s = false) : getI l s = 0 := by
 unfold getI isB at *
 unfold isAt at h
 unfold getE
 rw [List.find?_eq_none.2 fun x hx => by simpa using List.any_eq_false.1 h x hx]
 rfl
theorem ents_of_ra {D : Nat → Prop} {w : World} {t : Bool} {l : List Ent} {v : Value} (h : Ra D w (.sl 2 t (l.map entA)) v) : ∃ A c, v = .slice A (lI l).length c ∧ Ents w v (lI l) := by
 obtain ⟨us, hsl, hus, hru⟩ := sl_of_ra h
 rw [entA_flat] at hru
 have hsl0 := hsl
 obtain ⟨A, cc, rfl, hc, hl, hh⟩ := hsl0
 have hlen : ∀ l : List NEnt, (l.flatMap Copyhold.Name.entC).length = l.length * 2 := fun l => by
  induction l with
  | nil => rfl
  | cons y r ih => simp only [List.flatMap_cons, List.length_append, ih, List.length_cons]; simp [Copyhold.Name.entC]; omega
 have e := vals_of (by rw [hlen, hl]; simp) hru
 subst e
 simp only [List.length_map] at hsl ⊢
 have hn : (lI l).length = l.length := by simp [lI]
 refine ⟨A, cc, by rw [hn], ?_⟩
 show Sl w 2 _ (lI l).length _
 rw [hn]
 exact hsl
theorem tup2_ra (a b : Value) (D : Nat → Prop) (w : World) : Ra D w (.tup [.val a, .val b]) (.tuple #[a, b]) := .tup _ _ rfl fun j x v hx hv => by
 match j, hx, hv with
 | 0, hx, hv => cases hx; cases hv; exact .val _
 | 1, hx, hv => cases hx; cases hv; exact .val _
 | j + 2, hx, _ => simp at hx
theorem fspec_plain {P : Program} {f : FuncId} {args : List AV} {r : AV} {v : Value} (hr : ∀ D w, Ra D w r v) (h : ∀ D w vs, RaAll D w args vs → Calls P f vs w (fun e w' => e = .returned v ∧ Below w.heap.size w w')) : FSpec P f args r := fun D w vs hD hv =>
 (h D w vs hv).mono fun e w' ⟨h1, h2⟩ => ⟨v, D, h1, h2, fun _ h => h, fun b hb => ⟨Nat.lt_of_lt_of_le (hD b hb) h2.size, .inl hb⟩, hr D w'⟩
theorem nfind_spec (l : List Ent) (s : Txt) (hl : l.length ≤ 1000000) (hr : Srt (lI l)) : FSpec Tryz.prog 51 [.sl 2 false (l.map entA), aS s] (.tup [aI (getI l s), aB (isB l s)]) := fspec_plain (tup2_ra _ _) fun D w vs h => by
 obtain ⟨u, v, rfl, hu, hv⟩ := RaAll.two h
 cases hv
 obtain ⟨A, c, rfl, he⟩ := ents_of_ra hu
 exact name_Find (lI l) s A c w he (by simp [lI]; omega) hr
theorem rnfind_spec (l : List Ent) (s : Txt) (hl : l.length ≤ 1000000) : FSpec Tryz.prog 68 [.sl 2 false (l.map entA), aS s] (.tup [aI (getI l s), aB (isB l s)]) := fspec_plain (tup2_ra _ _) fun D w vs h => by
 obtain ⟨u, v, rfl, hu, hv⟩ := RaAll.two h
 cases hv
 obtain ⟨A, c, rfl, he⟩ := ents_of_ra hu
 exact (ref06_Find (lI l) s A c w he (by simp [lI]; omega)).mono fun e w' ⟨g1, g2⟩ => ⟨g1, g2 ▸ Below.refl _ _⟩
theorem texts_ra {D : Nat → Prop} {w : World} {l : List Txt} {v : Value} (h : Row w v (l.map strV)) (hat : At D v) : Ra D w (.sl 1 false (l.map txA)) v := by
 rcases h with ⟨a, c, rfl, he⟩ | ⟨b, off, cap, rfl, h0, hc, hb, hcell⟩
 ·have : l = [] := by simpa using he
  subst this
  exact .sl 1 false [] a c 0 0 (fun _ _ => undef) (Nat.zero_le _) (fun h => by cases h) (fun h => absurd h (by simp)) (fun i e h => by simp at h) (fun i e j x h => by simp at h) (fun i e j x h => by simp at h)
 ·have key : ∀ (i : Nat) (e : List AV) (j : Nat) (x : AV), (l.map txA)[i]? = some e → e[j]? = some x → ∃ y, l[i]? = some y ∧ j = 0 ∧ x = aS y := by
   intro i e j x he hx
   rw [List.getElem?_map] at he
   cases hli : l[i]? with
   | none => rw [hli] at he; cases he
   | some y =>
    rw [hli] at he
    obtain rfl := Option.some.inj he
    match j, hx with
    | 0, hx => obtain rfl := Option.some.inj hx; exact ⟨y, rfl, rfl, rfl⟩
    | j + 1, hx => simp [txA] at hx
  have := Ra.sl (D := D) (w := w) 1 false (l.map txA) (some ⟨b, off, none⟩) cap b off (fun i _ => strV (l.getD i [])) (by simpa using hc) (fun h => by cases h) (fun _ => ⟨rfl, hat h0, hb⟩)
   (fun i e he => by
    rw [List.getElem?_map] at he
    cases hli : l[i]? with
    | none => rw [hli] at he; cases he
    | some y => rw [hli] at he; obtain rfl := Option.some.inj he; rfl)
   (fun i e j x he hx => by
    obtain ⟨y, h1, rfl, rfl⟩ := key i e j x he hx
    simp only [List.getD, h1, Option.getD_some]
    refine ⟨?_, rfl⟩
    have := hcell i (strV y) (by rw [List.getElem?_map, h1]; rfl)
    rw [show off + (i * 1 + 0) = off + i from by omega]
    exact this)
   (fun i e j x he hx => by
    obtain ⟨y, h1, rfl, rfl⟩ := key i e j x he hx
    simp only [List.getD, h1, Option.getD_some]
    exact .val _)
  simp only [List.length_map] at this ⊢
  exact this
theorem at_both {D1 D2 D3 : Nat → Prop} {v : Value} (h1 : At D1 v) (h2 : At D2 v) (h : ∀ b, D1 b → D2 b → D3 b) : At D3 v := by
 unfold At at h1 h2 ⊢
 split
 ·exact fun h0 => h _ (h1 h0) (h2 h0)
 ·trivial
end Go.Proofs.YtkhnialfkndiiaaGreat

namespace Go.Proofs.YtkhnialfkndiiaaGreat
open Go Go.RowKit Copyhold
def firstE (l : List Int) : Int := (l.find? fun z => z != 0).getD 0
def whenE (b : Bool) (e : Int) : Int := if b then e else 0
theorem first_no {l : List Int} (h : AllQ (fun _ z => (z != 0) = false) l) : firstE l = 0 := by
 unfold firstE
 rw [List.find?_eq_none.2 fun x hx => by obtain ⟨j, hj⟩ := List.getElem?_of_mem hx; rw [h j x hj]; simp]
 rfl
theorem first_at : ∀ {l : List Int} {k : Nat} {x : Int}, AllTo (fun _ z => (z != 0) = false) l k → l[k]? = some x → (x != 0) = true → firstE l = x
 | y :: r, 0, x, _, hx, hp => by simp at hx; subst hx; simp [firstE, hp]
 | y :: r, k + 1, x, h, hx, hp => by
  have h1 := h 0 y (by omega) rfl
  have h2 := first_at (l := r) (k := k) (fun j e hj he => h (j + 1) e (by omega) (by simpa using he)) (by simpa using hx) hp
  unfold firstE at h2 ⊢
  rw [List.find?_cons, h1]
  exact h2
theorem first_lit {t : Bool} (a b c : Int) : Sub (.sl 1 t [[aI a], [aI b], [aI c]]) (.sl 1 false ([a, b, c].map intA)) := Sub.loose _ _ _
theorem first_lit2 {t : Bool} (a b : Int) : Sub (.sl 1 t [[aI a], [aI b]]) (.sl 1 false ([a, b].map intA)) := Sub.loose _ _ _
theorem first2 {a b : Int} : firstE [a, b] = if a = 0 then b else a := by
 unfold firstE
 by_cases h : a = 0
 ·by_cases h2 : b = 0
  ·simp [h, h2]
  ·simp [h, h2]
 ·simp [h]
theorem first3 {a b c : Int} : firstE [a, b, c] = if a = 0 then (if b = 0 then c else b) else a := by
 unfold firstE
 by_cases h : a = 0
 ·by_cases h2 : b = 0
  ·by_cases h3 : c = 0
   ·simp [h, h2, h3]
   ·simp [h, h2, h3]
  ·simp [h, h2]
 ·simp [h]
def dirE (f : Fsy) (i : Int) : Int := if findB f i = true then (if (findN f i).kind = 2 then 0 else 8) else 6
def dirN (f : Fsy) (i : Int) : Nod := if dirE f i = 0 then findN f i else nod0
theorem dirE_6 {f : Fsy} {i : Int} (h : findB f i = false) : dirE f i = 6 ∧ dirN f i = nod0 := by
 have e : dirE f i = 6 := by unfold dirE; rw [h]; rfl
 exact ⟨e, by unfold dirN; rw [e]; rfl⟩
theorem dirE_8 {f : Fsy} {i : Int} (h : findB f i = true) (h2 : ¬ (findN f i).kind = 2) : dirE f i = 8 ∧ dirN f i = nod0 := by
 have e : dirE f i = 8 := by unfold dirE; rw [if_pos h, if_neg h2]
 exact ⟨e, by unfold dirN; rw [e]; rfl⟩
theorem dirE_0 {f : Fsy} {i : Int} (h : findB f i = true) (h2 : (findN f i).kind = 2) : dirE f i = 0 ∧ dirN f i = findN f i := by
 have e : dirE f i = 0 := by unfold dirE; rw [if_pos h, if_pos h2]
 exact ⟨e, by unfold dirN; rw [e]; rfl⟩
theorem find_mem {f : Fsy} {i : Int} (h : findB f i = true) : findN f i ∈ f.l := by
 unfold findB at h
 unfold findN
 cases hf : f.l.find? (isNo i) with
 | none => rw [List.find?_eq_none] at hf; obtain ⟨x, hx, hi⟩ := List.any_eq_true.1 h; exact absurd hi (hf x hx)
 | some n => exact List.mem_of_find?_eq_some hf
theorem node_srt {n : Nod} (h : nodP n) : Name.Srt (lI n.l) ∧ n.l.length ≤ 256 := by
 rcases h.2.2.2 with ⟨_, _, h⟩ | ⟨_, _, h⟩
 ·exact ⟨row_srt h, h.1⟩
 ·rw [h]; exact ⟨List.Pairwise.nil, by decide⟩
theorem dir_srt {f : Fsy} (h : rowsP f) (i : Int) : Name.Srt (lI (dirN f i).l) ∧ (dirN f i).l.length ≤ 256 := by
 unfold dirN
 split
 ·rename_i e
  by_cases hb : findB f i = true
  ·exact node_srt ((rowsP_iff.1 h).2.2.1 _ (find_mem hb)).1
  ·unfold dirE at e
   rw [if_neg hb] at e
   cases e
 ·exact ⟨List.Pairwise.nil, by decide⟩
theorem find_0 {f : Fsy} (h : rowsP f) : findB f 0 = false := by
 unfold findB
 rw [List.any_eq_false]
 intro n hn
 have := ((rowsP_iff.1 h).2.2.1 n hn).1.1
 have hne : ¬ n.ino = 0 := by omega
 simp [isNo, hne]
def lookI (f : Fsy) (i : Int) (s : Txt) : Int := getI (dirN f i).l s
noncomputable def lookE (f : Fsy) (i : Int) (s : Txt) : Int := firstE [dirE f i, checkE s, whenE (!(findB f (lookI f i s))) 6]
noncomputable def lookN (f : Fsy) (i : Int) (s : Txt) : Nod := if lookE f i s = 0 then findN f (lookI f i s) else nod0
theorem look_no {f : Fsy} {i : Int} {s : Txt} (h : ¬ lookE f i s = 0) : lookN f i s = nod0 := if_neg h
theorem look_yes {f : Fsy} {i : Int} {s : Txt} (h : lookE f i s = 0) : lookN f i s = findN f (lookI f i s) := if_pos h
theorem nod0_sub {n : Nod} (h : n = nod0) : Sub (.agg [aI 0, aI 0, aI 0, aS [], aN]) (.agg (nodA n)) := by
 subst h
 exact Sub.aggs ⟨sR, sR, sR, sR, Sub.nil _ _, trivial⟩
theorem first_spec (l : List Int) (hl : l.length ≤ 100000) : FSpec Tryz.prog 115 [.sl 1 false (l.map intA)] (aI (firstE l)) := by
 exact spec_vc (F := Tryz.f115) 400 (
 .r 1 <| .r 2 <| .val 6 (show (aI ((l.map intA).length : Int) : AV) = aI (l.length : Int) from by rw [List.length_map]) <| .r 1 <| let L1 : Lp (Nat) := ⟨fun a1 => ⟨[(5, .sl 1 false (l.map intA)), (6, aI (l.length : Int)), (7, aI (a1 : Int))], []⟩, fun a1 => l.length - a1, fun a1 => AllTo (fun _ z => (z != 0) = false) l a1⟩
 .loop L1 0 (show AllTo (fun _ z => (z != 0) = false) l 0 from AllTo.zero _ _) ⟨[(5, .sl 1 false (l.map intA)), (6, aI (l.length : Int)), (7, aI 0)], []⟩ ⟨sR, sR, Sub.of_eq (congrArg aI (by first | omega | rfl)), trivial⟩ trivial fun a1 ha1 =>
 (fun (k : Nat) (hH1 : AllTo (fun _ z => (z != 0) = false) l k) => .r 1 <| .br 8 (decide ((k : Int) < (l.length : Int))) (fun q1 => have p1 := decT q1; .idxM l intA k (m := (k : Int)) rfl (by omega) fun x1 hx1 =>
 .r 2 <| .r 2 <| .br 12 (x1 != 0) (fun q2 => have p2 := bneT q2; .r 2 <| .fin (x := aI x1) (r := aI (firstE l)) [] trivial (by exact Sub.of_eq (congrArg aI (first_at hH1 hx1 (by assumption)).symm)))
 <| fun q2 => have p2 := bneF q2; .run 2 [rng .i64 ((k : Int) + 1)] ⟨rng64 (by omega) (by omega), trivial⟩ <|
 .back L1 k (k + 1) (show AllTo (fun _ z => (z != 0) = false) l (k + 1) from (hH1.step hx1 (by assumption))) (show l.length - (k + 1) < l.length - k from (by omega)) ⟨[(5, .sl 1 false (l.map intA)), (6, aI (l.length : Int)), (7, aI ((k : Int) + 1))], []⟩ ⟨sR, sR, Sub.of_eq (congrArg aI (by first | omega | rfl)), trivial⟩ trivial)
 <| fun q1 => have p1 := decF q1; .r 1 <| .fin (x := aI 0) (r := aI (firstE l)) [] trivial (by exact Sub.of_eq (congrArg aI (first_no (hH1.full (by omega))).symm))) a1 ha1) Tryz.func115 rfl (by kernel_rfl) (by kernel_rfl)
theorem when_spec (b : Bool) (e : Int) : FSpec Tryz.prog 116 [aB b, aI e] (aI (whenE b e)) := by
 exact spec_vc (F := Tryz.f116) 400 (
 .r 1 <| .r 1 <| .br 5 (b) (fun q1 => have p1 := booT q1; .r 2 <| .fin (x := aI e) (r := aI (whenE b e)) [] trivial (by exact Sub.of_eq (congrArg aI (by unfold whenE; simp [*]))))
 <| fun q1 => have p1 := booF q1; .r 1 <| .fin (x := aI 0) (r := aI (whenE b e)) [] trivial (by exact Sub.of_eq (congrArg aI (by unfold whenE; simp [*])))) Tryz.func116 rfl (by kernel_rfl) (by kernel_rfl)
theorem dir_spec (f : Fsy) (i : Int) (hp : rowsP f) : FSpec Tryz.prog 50 [.agg (fsyA f), aI i] (.tup [.agg (nodA (dirN f i)), aI (dirE f i)]) := by
 have hl := hp.1
 have hr := rows_rise hp
 exact spec_vc (F := Tryz.f50) 400 (
 .new fun b1 => .new fun b2 => .r 1 <| .run 2 [b1 = b1] rt1 <|
 .call (tfind_spec f i (by omega) hr) <|
 .r 3 <| .new fun b3 => .run 2 [b3 = b3] rt1 <|
 .r 2 <| .br 15 (!(findB f i)) (fun q1 => have q1 := notT q1; have p1 := booF q1; .run 3 [b2 = b2] rt1 <|
 .fin (x := .tup [.agg [aI 0, aI 0, aI 0, aS ([]), aN], aI 6]) (r := .tup [.agg (nodA (dirN f i)), aI (dirE f i)]) [b2 = b2] rt1 (by
  obtain ⟨e1, e2⟩ := dirE_6 q1
  exact Sub.tups ⟨nod0_sub e2, Sub.of_eq (congrArg aI e1.symm), trivial⟩))
 <| fun q1 => have q1 := notF q1; have p1 := booT q1; .run 3 [b3 = b3] rt1 <|
 .br 19 (((findN f i).kind) != 2) (fun q2 => have p2 := bneT q2; .run 3 [b2 = b2] rt1 <|
 .fin (x := .tup [.agg [aI 0, aI 0, aI 0, aS ([]), aN], aI 8]) (r := .tup [.agg (nodA (dirN f i)), aI (dirE f i)]) [b2 = b2] rt1 (by
  obtain ⟨e1, e2⟩ := dirE_8 q1 (by assumption)
  exact Sub.tups ⟨nod0_sub e2, Sub.of_eq (congrArg aI e1.symm), trivial⟩))
 <| fun q2 => have p2 := bneF q2; .run 3 [b3 = b3, b2 = b2] rt2 <|
 .fin (x := .tup [.agg [aI ((findN f i).ino), aI ((findN f i).kind), aI ((findN f i).links), aS ((findN f i).text), .sl 2 false ((findN f i).l.map entA)], aI 0]) (r := .tup [.agg (nodA (dirN f i)), aI (dirE f i)]) [b2 = b2] rt1 (by
  obtain ⟨e1, e2⟩ := dirE_0 q1 (by assumption)
  rw [e1, e2]
  exact sR)) Tryz.func50 rfl (by kernel_rfl) (by kernel_rfl)
theorem rdir_spec (f : Fsy) (i : Int) (hp : rowsP f) : FSpec Tryz.prog 46 [.agg (fsyA f), aI i] (.tup [.agg (nodA (dirN f i)), aI (dirE f i)]) := by
 have hl := hp.1
 have hr := rows_rise hp
 exact spec_vc (F := Tryz.f46) 400 (
 .new fun b1 => .new fun b2 => .r 1 <| .run 2 [b1 = b1] rt1 <|
 .call (rfind_spec f i (by omega)) <|
 .r 3 <| .new fun b3 => .run 2 [b3 = b3] rt1 <|
 .r 2 <| .br 15 (!(findB f i)) (fun q1 => have q1 := notT q1; have p1 := booF q1; .run 3 [b2 = b2] rt1 <|
 .fin (x := .tup [.agg [aI 0, aI 0, aI 0, aS ([]), aN], aI 6]) (r := .tup [.agg (nodA (dirN f i)), aI (dirE f i)]) [b2 = b2] rt1 (by
  obtain ⟨e1, e2⟩ := dirE_6 q1
  exact Sub.tups ⟨nod0_sub e2, Sub.of_eq (congrArg aI e1.symm), trivial⟩))
 <| fun q1 => have q1 := notF q1; have p1 := booT q1; .run 3 [b3 = b3] rt1 <|
 .br 19 (((findN f i).kind) != 2) (fun q2 => have p2 := bneT q2; .run 3 [b2 = b2] rt1 <|
 .fin (x := .tup [.agg [aI 0, aI 0, aI 0, aS ([]), aN], aI 8]) (r := .tup [.agg (nodA (dirN f i)), aI (dirE f i)]) [b2 = b2] rt1 (by
  obtain ⟨e1, e2⟩ := dirE_8 q1 (by assumption)
  exact Sub.tups ⟨nod0_sub e2, Sub.of_eq (congrArg aI e1.symm), trivial⟩))
 <| fun q2 => have p2 := bneF q2; .run 3 [b3 = b3, b2 = b2] rt2 <|
 .fin (x := .tup [.agg [aI ((findN f i).ino), aI ((findN f i).kind), aI ((findN f i).links), aS ((findN f i).text), .sl 2 false ((findN f i).l.map entA)], aI 0]) (r := .tup [.agg (nodA (dirN f i)), aI (dirE f i)]) [b2 = b2] rt1 (by
  obtain ⟨e1, e2⟩ := dirE_0 q1 (by assumption)
  rw [e1, e2]
  exact sR)) Tryz.func46 rfl (by kernel_rfl) (by kernel_rfl)
theorem look_spec (f : Fsy) (i : Int) (s : Txt) (hp : rowsP f) (hs : s.length ≤ 1000000) : FSpec Tryz.prog 108 [.agg (fsyA f), aI i, aS s] (.tup [.agg (nodA (lookN f i s)), aI (lookE f i s)]) := by
 have hl := hp.1
 have hr := rows_rise hp
 exact spec_vc (F := Tryz.f108) 400 (
 .new fun b1 => .new fun b2 => .r 1 <| .run 2 [b1 = b1] rt1 <|
 .call (dir_spec f i hp) <|
 .r 3 <| .new fun b3 => .run 2 [b3 = b3] rt1 <|
 .run 3 [b3 = b3] rt1 <|
 .call (nfind_spec ((dirN f i).l) s (by have := (dir_srt hp i).2; omega) (dir_srt hp i).1) <|
 .r 5 <| .run 2 [b1 = b1] rt1 <|
 .call (tfind_spec f (getI ((dirN f i).l) s) (by omega) hr) <|
 .r 3 <| .new fun b4 => .run 2 [b4 = b4] rt1 <|
 .r 2 <| .call (check_spec s (by omega)) <|
 .r 2 <| .call (when_spec (!(findB f (getI ((dirN f i).l) s))) 6) <|
 .r 1 <| .callS (args0 := [.sl 1 true ([[aI (dirE f i)], [aI (checkE s)], [aI (whenE (!(findB f (getI ((dirN f i).l) s))) 6)]])]) (args := [.sl 1 false ([(dirE f i), (checkE s), (whenE (!(findB f (getI ((dirN f i).l) s))) 6)].map intA)]) ⟨first_lit (dirE f i) (checkE s) (whenE (!(findB f (getI ((dirN f i).l) s))) 6), trivial⟩ (first_spec [(dirE f i), (checkE s), (whenE (!(findB f (getI ((dirN f i).l) s))) 6)] (by simp)) <|
 .r 1 <| .r 2 <| .br 42 ((firstE [(dirE f i), (checkE s), (whenE (!(findB f (getI ((dirN f i).l) s))) 6)]) != 0) (fun q1 => have p1 := bneT q1; .run 4 [b2 = b2] rt1 <|
 .fin (x := .tup [.agg [aI 0, aI 0, aI 0, aS ([]), aN], aI (firstE [(dirE f i), (checkE s), (whenE (!(findB f (getI ((dirN f i).l) s))) 6)])]) (r := .tup [.agg (nodA (lookN f i s)), aI (lookE f i s)]) [b2 = b2] rt1 (by
  have e : ¬ lookE f i s = 0 := by assumption
  exact Sub.tups ⟨nod0_sub (look_no e), sR, trivial⟩))
 <| fun q1 => have p1 := bneF q1; .run 3 [b4 = b4, b2 = b2] rt2 <|
 .fin (x := .tup [.agg [aI ((findN f (getI ((dirN f i).l) s)).ino), aI ((findN f (getI ((dirN f i).l) s)).kind), aI ((findN f (getI ((dirN f i).l) s)).links), aS ((findN f (getI ((dirN f i).l) s)).text), .sl 2 false ((findN f (getI ((dirN f i).l) s)).l.map entA)], aI 0]) (r := .tup [.agg (nodA (lookN f i s)), aI (lookE f i s)]) [b2 = b2] rt1 (by
  have e : lookE f i s = 0 := by assumption
  rw [look_yes e, e]
  exact sR)) Tryz.func108 rfl (by kernel_rfl) (by kernel_rfl)
theorem rlook_spec (f : Fsy) (i : Int) (s : Txt) (hp : rowsP f) (hs : s.length ≤ 1000000) : FSpec Tryz.prog 38 [.agg (fsyA f), aI i, aS s] (.tup [.agg (nodA (lookN f i s)), aI (lookE f i s)]) := by
 have hl := hp.1
 have hr := rows_rise hp
 exact spec_vc (F := Tryz.f38) 400 (
 .new fun b1 => .new fun b2 => .r 1 <| .run 2 [b1 = b1] rt1 <|
 .call (rdir_spec f i hp) <|
 .r 3 <| .new fun b3 => .run 2 [b3 = b3] rt1 <|
 .r 2 <| .br 22 ((dirE f i) != 0) (fun q1 => have p1 := bneT q1; .run 4 [b2 = b2] rt1 <|
 .fin (x := .tup [.agg [aI 0, aI 0, aI 0, aS ([]), aN], aI (dirE f i)]) (r := .tup [.agg (nodA (lookN f i s)), aI (lookE f i s)]) [b2 = b2] rt1 (by
  have e0 : lookE f i s = dirE f i := by
   unfold lookE
   rw [first3]
   simp_all [whenE, lookI]
  exact Sub.tups ⟨nod0_sub (look_no (by omega)), Sub.of_eq (congrArg aI e0.symm), trivial⟩))
 <| fun q1 => have p1 := bneF q1; .r 1 <| .call (rcheck_spec s (by omega)) <|
 .r 1 <| .r 2 <| .br 28 ((checkE s) != 0) (fun q2 => have p2 := bneT q2; .run 4 [b2 = b2] rt1 <|
 .fin (x := .tup [.agg [aI 0, aI 0, aI 0, aS ([]), aN], aI (checkE s)]) (r := .tup [.agg (nodA (lookN f i s)), aI (lookE f i s)]) [b2 = b2] rt1 (by
  have e0 : lookE f i s = checkE s := by
   unfold lookE
   rw [first3]
   simp_all [whenE, lookI]
  exact Sub.tups ⟨nod0_sub (look_no (by omega)), Sub.of_eq (congrArg aI e0.symm), trivial⟩))
 <| fun q2 => have p2 := bneF q2; .run 3 [b3 = b3] rt1 <|
 .call (rnfind_spec ((dirN f i).l) s (by have := (dir_srt hp i).2; omega)) <|
 .r 5 <| .r 2 <| .br 39 (!(isB ((dirN f i).l) s)) (fun q3 => have q3 := notT q3; have p3 := booF q3; .run 3 [b2 = b2] rt1 <|
 .fin (x := .tup [.agg [aI 0, aI 0, aI 0, aS ([]), aN], aI 6]) (r := .tup [.agg (nodA (lookN f i s)), aI (lookE f i s)]) [b2 = b2] rt1 (by
  have e0 : lookE f i s = 6 := by
   have hz : lookI f i s = 0 := get_away (by assumption)
   have hz2 := find_0 hp
   unfold lookE
   rw [first3]
   simp_all [whenE, lookI]
  exact Sub.tups ⟨nod0_sub (look_no (by omega)), Sub.of_eq (congrArg aI e0.symm), trivial⟩))
 <| fun q3 => have q3 := notF q3; have p3 := booT q3; .run 2 [b1 = b1] rt1 <|
 .call (rfind_spec f (getI ((dirN f i).l) s) (by omega)) <|
 .r 3 <| .new fun b4 => .run 2 [b4 = b4] rt1 <|
 .r 2 <| .br 48 (!(findB f (getI ((dirN f i).l) s))) (fun q4 => have q4 := notT q4; have p4 := booF q4; .run 3 [b2 = b2] rt1 <|
 .fin (x := .tup [.agg [aI 0, aI 0, aI 0, aS ([]), aN], aI 6]) (r := .tup [.agg (nodA (lookN f i s)), aI (lookE f i s)]) [b2 = b2] rt1 (by
  have e0 : lookE f i s = 6 := by
   unfold lookE
   rw [first3]
   simp_all [whenE, lookI]
  exact Sub.tups ⟨nod0_sub (look_no (by omega)), Sub.of_eq (congrArg aI e0.symm), trivial⟩))
 <| fun q4 => have q4 := notF q4; have p4 := booT q4; .run 3 [b4 = b4, b2 = b2] rt2 <|
 .fin (x := .tup [.agg [aI ((findN f (getI ((dirN f i).l) s)).ino), aI ((findN f (getI ((dirN f i).l) s)).kind), aI ((findN f (getI ((dirN f i).l) s)).links), aS ((findN f (getI ((dirN f i).l) s)).text), .sl 2 false ((findN f (getI ((dirN f i).l) s)).l.map entA)], aI 0]) (r := .tup [.agg (nodA (lookN f i s)), aI (lookE f i s)]) [b2 = b2] rt1 (by
  have e0 : lookE f i s = 0 := by
   unfold lookE
   rw [first3]
   simp_all [whenE, lookI]
  rw [look_yes e0, e0]
  exact sR)) Tryz.func38 rfl (by kernel_rfl) (by kernel_rfl)
end Go.Proofs.YtkhnialfkndiiaaGreat

namespace Go.Proofs.YtkhnialfkndiiaaGreat
open Go Go.RowKit Copyhold
open Copyhold.Name in
theorem nplace_spec (l : List Ent) (s : Txt) (hl : l.length ≤ 1000000) (hr : Srt (lI l)) : FSpec Tryz.prog 99 [.sl 2 false (l.map entA), aS s] (.tup [aI (pos (lI l) s : Int), aB (isB l s)]) := fspec_plain (tup2_ra _ _) fun D w vs h => by
 obtain ⟨u, v, rfl, hu, hv⟩ := RaAll.two h
 cases hv
 obtain ⟨A, c, rfl, he⟩ := ents_of_ra hu
 exact (name_place (lI l) s A c w he (by simp [lI]; omega) hr)
def posI (l : List Ent) (s : Txt) : Nat := Name.pos (lI l) s
theorem posI_le (l : List Ent) (s : Txt) : posI l s ≤ l.length := by
 have := Name.pos_le (lI l) s
 have h : (lI l).length = l.length := by simp [lI]
 unfold posI; omega
noncomputable def entE (l : List Ent) (s : Txt) (n : Int) : Int := if (checkE s != 0) = true then 10 else if n < 1 then 1 else if isB l s = true then 7 else if (l.length : Int) ≥ 256 then 12 else 0
noncomputable def entL (l : List Ent) (s : Txt) (n : Int) : List Ent := if entE l s n = 0 then l.take (posI l s) ++ ⟨s, n⟩ :: l.drop (posI l s) else l
theorem enter_spec (l : List Ent) (s : Txt) (n : Int) (hl : l.length ≤ 256) (hr : Name.Srt (lI l)) (hs : s.length ≤ 1000000) (hn : I64 n) : FSpec Tryz.prog 142 [.sl 2 false (l.map entA), aS s, aI n] (.tup [.sl 2 false ((entL l s n).map entA), aI (entE l s n)]) := by
 have hn1 := hn.1
 exact spec_vc (F := Tryz.f142) 400 (
 .r 2 <| .r 2 <| .call (nplace_spec l s (by omega) hr) <|
 .r 5 <| .r 1 <| .r 1 <| .call (check_spec s (by omega)) <|
 .r 2 <| .br 18 ((checkE s) != 0) (fun q1 => have p1 := bneT q1; .r 1 <| .r 2 <| .is 32 (show (10 != 0) = true from rfl) <| .r 4 <| .fin (x := .tup [.sl 2 false (l.map entA), aI 10]) (r := .tup [.sl 2 false ((entL l s n).map entA), aI (entE l s n)]) [] trivial (by
  have e : entE l s n = 10 := by
   unfold entE
   rw [if_pos q1]
  have e2 : entL l s n = l := if_neg (by omega)
  rw [e, e2]
  exact Sub.tups ⟨by first | exact sR | exact Sub.loose _ _ _, sR, trivial⟩))
 <| fun q1 => have p1 := bneF q1; .r 3 <| .br 22 (decide (n < 1)) (fun q2 => have p2 := decT q2; .r 1 <| .r 2 <| .is 32 (show (1 != 0) = true from rfl) <| .r 4 <| .fin (x := .tup [.sl 2 false (l.map entA), aI 1]) (r := .tup [.sl 2 false ((entL l s n).map entA), aI (entE l s n)]) [] trivial (by
  have e : entE l s n = 1 := by
   unfold entE
   rw [if_neg (by rw [q1]; decide)]
   rw [if_pos (by omega)]
  have e2 : entL l s n = l := if_neg (by omega)
  rw [e, e2]
  exact Sub.tups ⟨by first | exact sR | exact Sub.loose _ _ _, sR, trivial⟩))
 <| fun q2 => have p2 := decF q2; .r 2 <| .br 25 (isB l s) (fun q3 => have p3 := booT q3; .r 1 <| .r 2 <| .is 32 (show (7 != 0) = true from rfl) <| .r 4 <| .fin (x := .tup [.sl 2 false (l.map entA), aI 7]) (r := .tup [.sl 2 false ((entL l s n).map entA), aI (entE l s n)]) [] trivial (by
  have e : entE l s n = 7 := by
   unfold entE
   rw [if_neg (by rw [q1]; decide)]
   rw [if_neg (by omega)]
   rw [if_pos q3]
  have e2 : entL l s n = l := if_neg (by omega)
  rw [e, e2]
  exact Sub.tups ⟨by first | exact sR | exact Sub.loose _ _ _, sR, trivial⟩))
 <| fun q3 => have p3 := booF q3; .r 2 <| .val 29 (show (aI ((l.map entA).length : Int) : AV) = aI (l.length : Int) from by rw [List.length_map]) <| .r 2 <| .br 27 (decide ((l.length : Int) ≥ 256)) (fun q4 => have p4 := decT q4; .r 1 <| .r 2 <| .is 32 (show (12 != 0) = true from rfl) <| .r 4 <| .fin (x := .tup [.sl 2 false (l.map entA), aI 12]) (r := .tup [.sl 2 false ((entL l s n).map entA), aI (entE l s n)]) [] trivial (by
  have e : entE l s n = 12 := by
   unfold entE
   rw [if_neg (by rw [q1]; decide)]
   rw [if_neg (by omega)]
   rw [if_neg (by rw [q3]; decide)]
   rw [if_pos (by omega)]
  have e2 : entL l s n = l := if_neg (by omega)
  rw [e, e2]
  exact Sub.tups ⟨by first | exact sR | exact Sub.loose _ _ _, sR, trivial⟩))
 <| fun q4 => have p4 := decF q4; .r 2 <| .is 32 (show (0 != 0) = false from rfl) <| .r 2 <| .val 36 (show (aI ((l.map entA).length : Int) : AV) = aI (l.length : Int) from by rw [List.length_map]) <| .run 1 [rng .i64 ((l.length : Int) + 1)] ⟨rng64 (by omega) (by omega), trivial⟩ <|
 .mk0 24 (l.length + 1) (show (l.length : Int) + 1 = ((l.length + 1 : Nat) : Int) from by omega) (by have hq := posI_le l s; simp <;> omega) (by have hq := posI_le l s; simp <;> omega) fun V1 =>
 .r 1 <| .r 3 <| .slc 2 false (l.map entA) none (some (posI l s : Int)) none 0 (posI l s) false (.inl ⟨rfl, rfl⟩) (.inr rfl) (.inl ⟨rfl, fun h => by cases h⟩) (by have hq := posI_le l s; first | omega | (rw [List.length_map]; omega) | (simp <;> omega)) (by have hq := posI_le l s; first | omega | (rw [List.length_map]; omega) | (simp <;> omega)) <|
 .app 24 V1 ([] : List (List AV)) (((l.map entA).take (posI l s)).drop 0) (by have hq := posI_le l s; simp <;> omega) (by have hq := posI_le l s; simp <;> omega) fun V2 =>
 .r 1 <| .r 5 <| .app 24 V2 (([] : List (List AV)) ++ (((l.map entA).take (posI l s)).drop 0)) ([[aS s, aI n]]) (by have hq := posI_le l s; simp <;> omega) (by have hq := posI_le l s; simp <;> omega) fun V3 =>
 .r 1 <| .r 3 <| .slc 2 false (l.map entA) (some (posI l s : Int)) none none (posI l s) ((l.map entA).length) false (.inr rfl) (.inl ⟨rfl, rfl⟩) (.inl ⟨rfl, fun h => by cases h⟩) (by have hq := posI_le l s; first | omega | (rw [List.length_map]; omega) | (simp <;> omega)) (by have hq := posI_le l s; first | omega | (rw [List.length_map]; omega) | (simp <;> omega)) <|
 .app 24 V3 ((([] : List (List AV)) ++ (((l.map entA).take (posI l s)).drop 0)) ++ ([[aS s, aI n]])) (((l.map entA).take ((l.map entA).length)).drop (posI l s)) (by have hq := posI_le l s; simp <;> omega) (by have hq := posI_le l s; simp <;> omega) fun V4 =>
 .r 2 <| .frz 38 [6, 7] [] [V4 = V4, ((([] : List (List AV)) ++ (((l.map entA).take (posI l s)).drop 0)) ++ ([[aS s, aI n]])).length + (((l.map entA).take ((l.map entA).length)).drop (posI l s)).length = (((([] : List (List AV)) ++ (((l.map entA).take (posI l s)).drop 0)) ++ ([[aS s, aI n]])) ++ (((l.map entA).take ((l.map entA).length)).drop (posI l s))).length] ⟨rfl, (by first | rfl | (simp; done) | (simp; omega)), trivial⟩ <|
 .fin (x := .tup [.sl 2 false (((([] : List (List AV)) ++ (((l.map entA).take (posI l s)).drop 0)) ++ ([[aS s, aI n]])) ++ (((l.map entA).take ((l.map entA).length)).drop (posI l s))), aI 0]) (r := .tup [.sl 2 false ((entL l s n).map entA), aI (entE l s n)]) [] trivial (by
  have e : entE l s n = 0 := by
   unfold entE
   rw [if_neg (by rw [q1]; decide)]
   rw [if_neg (by omega)]
   rw [if_neg (by rw [q3]; decide)]
   rw [if_neg (by omega)]
  have e2 : entL l s n = l.take (posI l s) ++ ⟨s, n⟩ :: l.drop (posI l s) := if_pos e
  rw [e, e2]
  exact Sub.tups ⟨Sub.of_eq (congrArg (AV.sl 2 false) (by simp [entA, List.map_take, List.map_drop, take_all])), sR, trivial⟩)) Tryz.func142 rfl (by kernel_rfl) (by kernel_rfl)
end Go.Proofs.YtkhnialfkndiiaaGreat
