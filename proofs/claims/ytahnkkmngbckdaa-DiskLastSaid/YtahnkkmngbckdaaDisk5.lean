/- disk.done: the sectors with the writes that a rule lets through; old memory is as it was. -/
import Derived.Test.YtahnkkmngbckdaaDisk4
set_option linter.unusedVariables false
set_option linter.unusedSimpArgs false
namespace Copyhold.Disk
open Go Go.RowKit
theorem tbox_own {β : Type} (B : Nat) (T : TypeId) (f : β → Array Value) : Own (fun s W => TBox W B T (f s)) := fun s X Y row hs hg hrow =>
  (hg.block B (TBox.lt hs) (fun e' => by obtain ⟨o, ho, hc⟩ := hrow B e'.symm; rw [show X.heap[B]? = _ from hs] at ho; cases ho; cases hc)).trans hs
theorem _root_.Copyhold.TBox.alloc {W : World} {B : Nat} {T : TypeId} {cs : Array Value} (h : TBox W B T cs) (o : Obj) : TBox (W.alloc o) B T cs := (Below.heap_alloc W o B h.lt).trans h
theorem _root_.Copyhold.TBox.putObj {W : World} {B D : Nat} {T : TypeId} {cs : Array Value} {d : Option (List Deferred)} (h : TBox W B T cs) (o : Obj) (hD : W.heap[D]? = some (.deferred d)) : TBox (W.putObj D o) B T cs :=
  (World.putObj_heap_other (fun e => by rw [e] at h; unfold TBox at h; rw [hD] at h; cases h)).trans h
theorem _root_.Copyhold.TBox.row {w : World} {g : Nat} {T : TypeId} {xs : List Value} (h : TBox w g T xs.toArray) : Row w (.slice (some ⟨g, 0, none⟩) xs.length xs.length) xs := by
  by_cases h0 : 0 < xs.length
  · exact .inr ⟨g, 0, xs.length, rfl, h0, Nat.le_refl _, h.lt, fun i x hx => by rw [Nat.zero_add, h.cell]; simpa using hx⟩
  · exact .inl ⟨_, _, by rw [show xs.length = 0 from by omega], List.eq_nil_of_length_eq_zero (by omega)⟩
end Copyhold.Disk
namespace Go.Proofs.Ytahnkkmngbckdaa
open Go.RowKit Go.Shelf Copyhold Copyhold.Disk
attribute [local go_sem] Oper.semAt_some

theorem done1 (g n b5 k : Nat) (s : List UInt8) (cs : Array Value) (W : World) (hk : k < n) (hn : n ≤ 8796093022208) (hb : TBox W b5 22 #[.slice (some ⟨g, 0, none⟩) n n]) (hg : TBox W g 9 cs) (hcs : cs.size = n) :
    Calls Try.prog 44 #[.int .i64 (k : Int), .string ⟨s.toArray⟩, .pointer (some ⟨b5, 0, none⟩)] W fun e W' => (∃ v, e = .returned v) ∧ W' = W.setCell ⟨g, k, none⟩ (.string ⟨s.toArray⟩) := by
  have c : W.cell? ⟨b5, 0, none⟩ = some (.slice (some ⟨g, 0, none⟩) n n) := hb.cell 0
  obtain ⟨u, hu⟩ : ∃ u, W.cell? ⟨g, k, none⟩ = some u := ⟨cs[k]'(by omega), by rw [hg.cell]; simp⟩
  have hf := hg.free k
  clear hb hg
  go_enter Try.func44, Try.ntmps44
  go_wp2_with fail
  go_end0
  exact ⟨⟨_, rfl⟩, rfl⟩

theorem run_store_func {P : Program} {w : World} {a : Addr} {m : Mode} (f : Fn) (x y : Array Value) : (store a (.func f x y) m).run P w = stored P w a (.func f x y) m := run_store P w a _ m rfl
attribute [local go_sem] run_store_func
/-- texts of the call's own, in a block known whole -/
def RetRow (w : World) (l : List (List UInt8)) (e : Ending) (w' : World) : Prop := ∃ v, e = .returned v ∧ Row w' v (l.map strV) ∧ At (w.heap.size ≤ ·) v ∧ Below w.heap.size w w'

set_option maxRecDepth 100000 in
set_option maxHeartbeats 8000000 in
theorem done_keep (n0 : Nat) (hn0 : 4 ≤ n0) (d : DiskW) (q : Nat) (A : Option Addr) (c : Nat) (B : Option Addr) (eb : Nat) (p : Nat → PutW → Bool) (w : World) (hkr : Row w (.slice A d.kept.length c) (d.kept.map strV)) (hp : Puts w (.slice B d.w.length eb) d.w) (hok : OkD d)
    (hlet : ∀ (S : Nat → Prop) (W : World), (∀ k, k < w.heap.size → S k) → KeepD (· < w.heap.size) w W → LetK 38 #[.pointer (some ⟨q, 0, none⟩)] S W p) :
    CallsIn Fence.wide n0 Try.prog 36 #[.agg #[.slice A d.kept.length c, .slice B d.w.length eb, .bool d.off], .func (.func 38) #[] #[.pointer (some ⟨q, 0, none⟩)]] w (RetRow w (doneL d.kept (lets d.kept.length p 0 d.w))) := by
  obtain ⟨kept, ws, off⟩ := d
  obtain ⟨hn, hkl, hpl, hm⟩ := hok
  simp only at hkr hp hn hkl hpl hm hlet ⊢
  have h1 : 1 ≤ n0 := by omega
  have h13 : 1 ≤ n0 - 1 - 1 := by omega
  generalize hnn : kept.length = n at *
  have HNN := Lib.hid hnn
  -- the worlds up to the loop
  have hmk := make_one (t := 22) strElem rfl n (by omega) (by omega) (w.alloc (.cells #[.slice A n c, .slice B ws.length eb, .bool off] 25))
  rw [World.size_alloc] at hmk
  have hb0 : Below w.heap.size w (w.alloc (.cells #[.slice A n c, .slice B ws.length eb, .bool off] 25)) := (Below.refl _ _).alloc (Nat.le_refl _) _
  have hb1 := hb0.alloc hb0.size (.cells (List.replicate n (Value.string ByteArray.empty)).toArray 9)
  have tg1 : TBox ((w.alloc (.cells #[.slice A n c, .slice B ws.length eb, .bool off] 25)).alloc (.cells (List.replicate n (Value.string ByteArray.empty)).toArray 9)) (w.heap.size + 1) 9 (List.replicate n (Value.string ByteArray.empty)).toArray := by
    have := TBox.new (w.alloc (.cells #[.slice A n c, .slice B ws.length eb, .bool off] 25)) 9 (List.replicate n (Value.string ByteArray.empty)).toArray
    rw [World.size_alloc] at this
    exact this
  have td1 := (TBox.new w 25 #[.slice A n c, .slice B ws.length eb, .bool off]).alloc (.cells (List.replicate n (Value.string ByteArray.empty)).toArray 9)
  obtain ⟨W1, hW1⟩ : ∃ W, W = (w.alloc (.cells #[.slice A n c, .slice B ws.length eb, .bool off] 25)).alloc (.cells (List.replicate n (Value.string ByteArray.empty)).toArray 9) := ⟨_, rfl⟩
  have hs1 : W1.heap.size = w.heap.size + 1 + 1 := by rw [hW1]; simp
  rw [← hW1] at hmk hb1 tg1 td1
  clear hW1 hb0
  have tg2 := tg1.alloc (.cells #[.slice (some ⟨w.heap.size + 1, 0, none⟩) n n] 22)
  have td2 := td1.alloc (.cells #[.slice (some ⟨w.heap.size + 1, 0, none⟩) n n] 22)
  have t52 := TBox.new W1 22 #[.slice (some ⟨w.heap.size + 1, 0, none⟩) n n]
  have hb2 := hb1.alloc hb1.size (.cells #[.slice (some ⟨w.heap.size + 1, 0, none⟩) n n] 22)
  have hs2 : (W1.alloc (.cells #[.slice (some ⟨w.heap.size + 1, 0, none⟩) n n] 22)).heap.size = w.heap.size + 1 + 1 + 1 := by simp [hs1]
  have hsl : Sl (W1.alloc (.cells #[.slice (some ⟨w.heap.size + 1, 0, none⟩) n n] 22)) 1 (.slice A n c) n (kept.map strV) := by
    have := Sl.of_row (hkr.below hb2)
    rwa [List.length_map, hnn] at this
  obtain ⟨W2, hcp, hg2, hk2, hbw2⟩ := copy_new (P := Try.prog) (W1.alloc (.cells #[.slice (some ⟨w.heap.size + 1, 0, none⟩) n n] 22)) 22 22 3 9 (w.heap.size + 1) n n (List.replicate n (Value.string ByteArray.empty)) 9 (.slice A n c) (kept.map strV) rfl rfl tg2 (by simp) hsl (fun u hu => by obtain ⟨x, _, rfl⟩ := List.mem_map.1 hu; rfl)
  rw [List.drop_eq_nil_of_le (by simp), List.append_nil] at hg2
  have tg3 : TBox W2 (w.heap.size + 1) 9 (kept.map strV).toArray := hg2
  have td3 : TBox W2 w.heap.size 25 #[.slice A n c, .slice B ws.length eb, .bool off] := (hk2 _ (by omega)).trans td2
  have t53 : TBox W2 W1.heap.size 22 #[.slice (some ⟨w.heap.size + 1, 0, none⟩) n n] := (hk2 _ (by omega)).trans t52
  have hb3 : Below w.heap.size w W2 := hb2.trans (hbw2.mono (by omega))
  have hs3 : w.heap.size + 1 + 1 + 1 ≤ W2.heap.size := by have := hbw2.size; omega
  have c1a : W1.cell? ⟨w.heap.size, 0, none⟩ = some (.slice A n c) := td1.cell 0
  have c1l := td1.lt
  have c3a : W2.cell? ⟨w.heap.size, 0, none⟩ = some (.slice A n c) := td3.cell 0
  have c3b : W2.cell? ⟨w.heap.size, 1, none⟩ = some (.slice B ws.length eb) := td3.cell 1
  have c3c : W2.cell? ⟨w.heap.size, 2, none⟩ = some (.bool off) := td3.cell 2
  have c3l := td3.lt
  -- the loop's first world
  obtain ⟨w0, hw0⟩ : ∃ W, W = ((W2.alloc (.cells #[.func (.func 44) #[] #[.pointer (some ⟨W1.heap.size, 0, none⟩)]] 81)).alloc (.cells #[.slice A n c, .slice B ws.length eb, .bool off] 25)).alloc (.cells #[.func (.func 38) #[] #[.pointer (some ⟨q, 0, none⟩)]] 67) := ⟨_, rfl⟩
  have t60 : TBox w0 W2.heap.size 81 #[.func (.func 44) #[] #[.pointer (some ⟨W1.heap.size, 0, none⟩)]] := by rw [hw0]; exact ((TBox.new _ _ _).alloc _).alloc _
  have tb0 : TBox w0 (W2.heap.size + 1) 25 #[.slice A n c, .slice B ws.length eb, .bool off] := by
    rw [hw0]
    have := TBox.new (W2.alloc (.cells #[.func (.func 44) #[] #[.pointer (some ⟨W1.heap.size, 0, none⟩)]] 81)) 25 #[.slice A n c, .slice B ws.length eb, .bool off]
    rw [World.size_alloc] at this
    exact this.alloc _
  have tl0 : TBox w0 (W2.heap.size + 1 + 1) 67 #[.func (.func 38) #[] #[.pointer (some ⟨q, 0, none⟩)]] := by
    rw [hw0]
    have := TBox.new ((W2.alloc (.cells #[.func (.func 44) #[] #[.pointer (some ⟨W1.heap.size, 0, none⟩)]] 81)).alloc (.cells #[.slice A n c, .slice B ws.length eb, .bool off] 25)) 67 #[.func (.func 38) #[] #[.pointer (some ⟨q, 0, none⟩)]]
    rw [World.size_alloc, World.size_alloc] at this
    exact this
  have hbz : Below W2.heap.size W2 w0 := by rw [hw0]; exact (((Below.refl _ _).alloc (Nat.le_refl _) _).alloc (by simp) _).alloc (by simp; omega) _
  have hz : w0.heap.size = W2.heap.size + 1 + 1 + 1 := by rw [hw0]; simp
  have tg0 := tg3.below hbz
  have t50 := t53.below hbz
  have hbw0 : Below w.heap.size w w0 := hb3.trans (hbz.mono hb3.size)
  have hp0 := hp.below hbw0
  have hat0 : At (fun k => k < w0.heap.size ∧ k ≠ w.heap.size + 1) (.slice B ws.length eb) := (Sl.lies hp).mono fun b hb => by omega
  have HW0 := Lib.hid hw0
  have HT60 := Lib.hid t60
  have HT50 := Lib.hid t50
  have HTG0 := Lib.hid tg0
  have HBW0 := Lib.hid hbw0
  have HSTOP := Lib.hid (stops_keep (n0 - 1) (by omega) (fun k => k < w0.heap.size ∧ k ≠ w.heap.size + 1) (W2.heap.size + 1) (W2.heap.size + 1 + 1) A B c eb n ws off q p hn hpl hm w0 tb0 (by omega) tl0 (by omega) hp0 hat0
    (fun W hW => hlet _ W (fun k hk => by have := hbw0.size; omega) ⟨Nat.le_trans hbw0.size hW.1, fun k hk hk' => (hW.2 k (by have := hbw0.size; omega) (by have := hbw0.size; omega)).trans (hbw0.block k hk)⟩))
  have HZ := Lib.hid hz
  have HS3 := Lib.hid hs3
  have HS1 := Lib.hid hs1
  clear hw0 t60 t50 tg0 hbw0 hlet hp0 hat0 tb0 tl0 hbz hz tg3 td3 t53 hb3 tg2 td2 t52 hb2 hs2 hsl hg2 hk2 hbw2 hb1 tg1 td1 hkr hp hs1 hs3 hkl hpl hnn
  refine callsIn_of_wp_marks Try.func36 rfl trivial ?_ rfl
  simp only [Try.ntmps36, List.size_toArray, List.length_cons, List.length_nil, Nat.reduceAdd, Nat.reduceSub, Array.replicate_succ, Array.replicate_zero, List.push_toArray, List.append_toArray, List.nil_append, List.cons_append]
  gi_wp2_with (refine ⟨trivial, ?_⟩; gi_at_call 33; refine (writes_in (n0 - 1) A B n ws.length c eb off _ ⟨_, _, rfl⟩ _).mono ?_; rintro e w' ⟨rfl, rfl⟩)
  rw [← HW0.out]
  refine wpIn_rangeFunc_ownG rfl h1 (gf := 40) (lb := #[.pointer (some ⟨W2.heap.size + 1, 0, none⟩), .pointer (some ⟨W2.heap.size + 1 + 1, 0, none⟩)]) rfl trivial (enters_of Try.func40 (by kernel_rfl) rfl)
    HSTOP.out KeepD.trans (fun W l o o' hl _ _ _ => KeepD.putObj (B := w0.heap.size) (fun k hk => hk.1) W l o' hl) (Below.refl _ _) (fun _ => rfl)
    (fun (pre : List (PutS n)) W => (TBox W (w.heap.size + 1) 9 ((doneL kept (pre.map (·.1))).map strV).toArray ∧ TBox W W1.heap.size 22 #[.slice (some ⟨w.heap.size + 1, 0, none⟩) n n] ∧ TBox W W2.heap.size 81 #[.func (.func 44) #[] #[.pointer (some ⟨W1.heap.size, 0, none⟩)]]) ∧ Below w.heap.size w W)
    (fun _ _ _ => False)
    (OwnFrom.and (OwnFrom.and (Own.from (tbox_own _ _ (fun (pre : List (PutS n)) => ((doneL kept (pre.map (·.1))).map strV).toArray)) _) (OwnFrom.and (Own.from (tbox_own _ _ _) _) (Own.from (tbox_own _ _ _) _))) (ownFrom_below (Nat.le_refl _) HBW0.out.size))
    (fun _ _ _ _ _ hs _ _ => hs)
    ⟨⟨HTG0.out, HT50.out, HT60.out⟩, HBW0.out⟩
    (fun (x : PutS n) => { tmps := #[.agg #[.slice A n c, .slice B ws.length eb, .bool off], .func (.func 38) #[] #[.pointer (some ⟨q, 0, none⟩)], .pointer (some ⟨w.heap.size, 0, none⟩), undef, .slice none 0 0, .pointer (some ⟨W1.heap.size, 0, none⟩), .pointer (some ⟨W2.heap.size, 0, none⟩), .int .i64 x.1.1, .string ⟨x.1.2.toArray⟩, .pointer (some ⟨w.heap.size, 0, none⟩), .slice A n c, .int .i64 n, .slice (some ⟨w.heap.size + 1, 0, none⟩) n n, .slice (some ⟨w.heap.size + 1, 0, none⟩) n n, .pointer (some ⟨w.heap.size, 0, none⟩), .slice A n c, .int .i64 n,
      .func (.func 44) #[] #[.pointer (some ⟨W1.heap.size, 0, none⟩)], .agg #[.slice A n c, .slice B ws.length eb, .bool off], .func (.func 38) #[] #[.pointer (some ⟨q, 0, none⟩)], .func (.func 40) #[] #[.pointer (some ⟨W2.heap.size + 1, 0, none⟩), .pointer (some ⟨W2.heap.size + 1 + 1, 0, none⟩)], .int .i64 x.1.1, .string ⟨x.1.2.toArray⟩, undef, undef, undef, undef, undef], defers := [] }) ?assign ?body ?done ?stop
  case assign =>
    intro l x W K hK
    gi_wp2
    exact hK
  case body =>
    rintro l pre ⟨⟨i, s⟩, ⟨hx0, hx1⟩, hx2⟩ W ⟨⟨htg, ht5, ht6⟩, hB⟩ hlt
    obtain ⟨k, rfl⟩ := Int.eq_ofNat_of_zero_le hx0
    have hkn : k < n := by simp only at hx1; omega
    have hlen : ((doneL kept (pre.map (·.1))).map strV).toArray.size = n := by simp [doneL_len, HNN.out]
    have HC := Lib.hid (done1 (w.heap.size + 1) n W1.heap.size k s _ W hkn hn ht5 htg hlen)
    have c6 : W.cell? ⟨W2.heap.size, 0, none⟩ = some (.func (.func 44) #[] #[.pointer (some ⟨W1.heap.size, 0, none⟩)]) := ht6.cell 0
    have hst := htg.set k (.string ⟨s.toArray⟩)
    have hnew : ((doneL kept (pre.map (·.1))).map strV).toArray.setIfInBounds k (.string ⟨s.toArray⟩) = ((doneL kept ((pre ++ [(⟨((k : Int), s), ⟨hx0, hx1⟩, hx2⟩ : PutS n)]).map (fun x : PutS n => x.1))).map strV).toArray := by
      rw [List.map_append, doneL_append, List.setIfInBounds_toArray]
      simp only [List.map_cons, List.map_nil, doneL, List.foldl_cons, List.foldl_nil, Int.toNat_natCast, List.map_set]
      rfl
    rw [hnew] at hst
    have HST := Lib.hid (And.intro hst (And.intro (ht5.far (w.heap.size + 1) k (.string ⟨s.toArray⟩) (by have := HS1.out; omega)) (ht6.far (w.heap.size + 1) k (.string ⟨s.toArray⟩) (by have := HS3.out; omega))))
    have HB := Lib.hid hB
    clear hst hnew htg ht5 ht6 hB hlen
    gi_wp2_with (refine ⟨trivial, ?_⟩; gi_at_call 44; refine (CallsIn.inRound l (callsIn_wide.2 HC.out)).mono ?_; rintro e w1 ⟨⟨v, rfl⟩, rfl⟩)
    exact ⟨(KeepsOthers.setCell _ _ _).from _, ⟨by simp, fun j hj _ => heap_setCell_far _ _ _ _ (by simpa using hj.2)⟩, HST.out, HB.out.setCell (p := ⟨w.heap.size + 1, k, none⟩) (by simp) _⟩
  case done =>
    rintro D ys W hD hys ⟨⟨htg, ht5, ht6⟩, hB⟩ hK
    have c5 : W.cell? ⟨W1.heap.size, 0, none⟩ = some (.slice (some ⟨w.heap.size + 1, 0, none⟩) n n) := ht5.cell 0
    have hfin : RetRow w (doneL kept (lets n p 0 ws)) (.returned (.slice (some ⟨w.heap.size + 1, 0, none⟩) n n)) (W.putObj D (.deferred none)) := by
      have hr := (htg.putObj (.deferred none) hK).row
      rw [hys, List.length_map, doneL_len, HNN.out] at hr
      exact ⟨_, rfl, hr, fun _ => Nat.le_succ _, hB.trans (belowK_b (w := w) (Nat.le_refl _) W D _ _ (by have := HBW0.out.size; omega) hK rfl rfl)⟩
    have HFIN := Lib.hid hfin
    have HK := Lib.hid hK
    clear hfin hK htg ht5 ht6 hB
    gi_wp2
    refine ⟨by simp, .inl ⟨_, _, rfl, run_takeDeferred HK.out, ?_⟩⟩
    refine ⟨.slice (some ⟨w.heap.size + 1, 0, none⟩) n n, ?_, HFIN.out⟩
    simp [results, Try.f36, go_sem]
  case stop =>
    rintro D c pre W _ _ h _
    exact h.elim

set_option maxRecDepth 100000 in
set_option maxHeartbeats 8000000 in
theorem done_all (n0 : Nat) (hn0 : 4 ≤ n0) (d : DiskW) (A : Option Addr) (c : Nat) (B : Option Addr) (eb : Nat) (p : Nat → PutW → Bool) (w : World) (hkr : Row w (.slice A d.kept.length c) (d.kept.map strV)) (hp : Puts w (.slice B d.w.length eb) d.w) (hok : OkD d)
    (hlet : ∀ (S : Nat → Prop) (W : World), (∀ k, k < w.heap.size → S k) → KeepD (· < w.heap.size) w W → LetK 37 #[] S W p) :
    CallsIn Fence.wide n0 Try.prog 36 #[.agg #[.slice A d.kept.length c, .slice B d.w.length eb, .bool d.off], .func (.func 37) #[] #[]] w (RetRow w (doneL d.kept (lets d.kept.length p 0 d.w))) := by
  obtain ⟨kept, ws, off⟩ := d
  obtain ⟨hn, hkl, hpl, hm⟩ := hok
  simp only at hkr hp hn hkl hpl hm hlet ⊢
  have h1 : 1 ≤ n0 := by omega
  have h13 : 1 ≤ n0 - 1 - 1 := by omega
  generalize hnn : kept.length = n at *
  have HNN := Lib.hid hnn
  -- the worlds up to the loop
  have hmk := make_one (t := 22) strElem rfl n (by omega) (by omega) (w.alloc (.cells #[.slice A n c, .slice B ws.length eb, .bool off] 25))
  rw [World.size_alloc] at hmk
  have hb0 : Below w.heap.size w (w.alloc (.cells #[.slice A n c, .slice B ws.length eb, .bool off] 25)) := (Below.refl _ _).alloc (Nat.le_refl _) _
  have hb1 := hb0.alloc hb0.size (.cells (List.replicate n (Value.string ByteArray.empty)).toArray 9)
  have tg1 : TBox ((w.alloc (.cells #[.slice A n c, .slice B ws.length eb, .bool off] 25)).alloc (.cells (List.replicate n (Value.string ByteArray.empty)).toArray 9)) (w.heap.size + 1) 9 (List.replicate n (Value.string ByteArray.empty)).toArray := by
    have := TBox.new (w.alloc (.cells #[.slice A n c, .slice B ws.length eb, .bool off] 25)) 9 (List.replicate n (Value.string ByteArray.empty)).toArray
    rw [World.size_alloc] at this
    exact this
  have td1 := (TBox.new w 25 #[.slice A n c, .slice B ws.length eb, .bool off]).alloc (.cells (List.replicate n (Value.string ByteArray.empty)).toArray 9)
  obtain ⟨W1, hW1⟩ : ∃ W, W = (w.alloc (.cells #[.slice A n c, .slice B ws.length eb, .bool off] 25)).alloc (.cells (List.replicate n (Value.string ByteArray.empty)).toArray 9) := ⟨_, rfl⟩
  have hs1 : W1.heap.size = w.heap.size + 1 + 1 := by rw [hW1]; simp
  rw [← hW1] at hmk hb1 tg1 td1
  clear hW1 hb0
  have tg2 := tg1.alloc (.cells #[.slice (some ⟨w.heap.size + 1, 0, none⟩) n n] 22)
  have td2 := td1.alloc (.cells #[.slice (some ⟨w.heap.size + 1, 0, none⟩) n n] 22)
  have t52 := TBox.new W1 22 #[.slice (some ⟨w.heap.size + 1, 0, none⟩) n n]
  have hb2 := hb1.alloc hb1.size (.cells #[.slice (some ⟨w.heap.size + 1, 0, none⟩) n n] 22)
  have hs2 : (W1.alloc (.cells #[.slice (some ⟨w.heap.size + 1, 0, none⟩) n n] 22)).heap.size = w.heap.size + 1 + 1 + 1 := by simp [hs1]
  have hsl : Sl (W1.alloc (.cells #[.slice (some ⟨w.heap.size + 1, 0, none⟩) n n] 22)) 1 (.slice A n c) n (kept.map strV) := by
    have := Sl.of_row (hkr.below hb2)
    rwa [List.length_map, hnn] at this
  obtain ⟨W2, hcp, hg2, hk2, hbw2⟩ := copy_new (P := Try.prog) (W1.alloc (.cells #[.slice (some ⟨w.heap.size + 1, 0, none⟩) n n] 22)) 22 22 3 9 (w.heap.size + 1) n n (List.replicate n (Value.string ByteArray.empty)) 9 (.slice A n c) (kept.map strV) rfl rfl tg2 (by simp) hsl (fun u hu => by obtain ⟨x, _, rfl⟩ := List.mem_map.1 hu; rfl)
  rw [List.drop_eq_nil_of_le (by simp), List.append_nil] at hg2
  have tg3 : TBox W2 (w.heap.size + 1) 9 (kept.map strV).toArray := hg2
  have td3 : TBox W2 w.heap.size 25 #[.slice A n c, .slice B ws.length eb, .bool off] := (hk2 _ (by omega)).trans td2
  have t53 : TBox W2 W1.heap.size 22 #[.slice (some ⟨w.heap.size + 1, 0, none⟩) n n] := (hk2 _ (by omega)).trans t52
  have hb3 : Below w.heap.size w W2 := hb2.trans (hbw2.mono (by omega))
  have hs3 : w.heap.size + 1 + 1 + 1 ≤ W2.heap.size := by have := hbw2.size; omega
  have c1a : W1.cell? ⟨w.heap.size, 0, none⟩ = some (.slice A n c) := td1.cell 0
  have c1l := td1.lt
  have c3a : W2.cell? ⟨w.heap.size, 0, none⟩ = some (.slice A n c) := td3.cell 0
  have c3b : W2.cell? ⟨w.heap.size, 1, none⟩ = some (.slice B ws.length eb) := td3.cell 1
  have c3c : W2.cell? ⟨w.heap.size, 2, none⟩ = some (.bool off) := td3.cell 2
  have c3l := td3.lt
  -- the loop's first world
  obtain ⟨w0, hw0⟩ : ∃ W, W = ((W2.alloc (.cells #[.func (.func 44) #[] #[.pointer (some ⟨W1.heap.size, 0, none⟩)]] 81)).alloc (.cells #[.slice A n c, .slice B ws.length eb, .bool off] 25)).alloc (.cells #[.func (.func 37) #[] #[]] 67) := ⟨_, rfl⟩
  have t60 : TBox w0 W2.heap.size 81 #[.func (.func 44) #[] #[.pointer (some ⟨W1.heap.size, 0, none⟩)]] := by rw [hw0]; exact ((TBox.new _ _ _).alloc _).alloc _
  have tb0 : TBox w0 (W2.heap.size + 1) 25 #[.slice A n c, .slice B ws.length eb, .bool off] := by
    rw [hw0]
    have := TBox.new (W2.alloc (.cells #[.func (.func 44) #[] #[.pointer (some ⟨W1.heap.size, 0, none⟩)]] 81)) 25 #[.slice A n c, .slice B ws.length eb, .bool off]
    rw [World.size_alloc] at this
    exact this.alloc _
  have tl0 : TBox w0 (W2.heap.size + 1 + 1) 67 #[.func (.func 37) #[] #[]] := by
    rw [hw0]
    have := TBox.new ((W2.alloc (.cells #[.func (.func 44) #[] #[.pointer (some ⟨W1.heap.size, 0, none⟩)]] 81)).alloc (.cells #[.slice A n c, .slice B ws.length eb, .bool off] 25)) 67 #[.func (.func 37) #[] #[]]
    rw [World.size_alloc, World.size_alloc] at this
    exact this
  have hbz : Below W2.heap.size W2 w0 := by rw [hw0]; exact (((Below.refl _ _).alloc (Nat.le_refl _) _).alloc (by simp) _).alloc (by simp; omega) _
  have hz : w0.heap.size = W2.heap.size + 1 + 1 + 1 := by rw [hw0]; simp
  have tg0 := tg3.below hbz
  have t50 := t53.below hbz
  have hbw0 : Below w.heap.size w w0 := hb3.trans (hbz.mono hb3.size)
  have hp0 := hp.below hbw0
  have hat0 : At (fun k => k < w0.heap.size ∧ k ≠ w.heap.size + 1) (.slice B ws.length eb) := (Sl.lies hp).mono fun b hb => by omega
  have HW0 := Lib.hid hw0
  have HT60 := Lib.hid t60
  have HT50 := Lib.hid t50
  have HTG0 := Lib.hid tg0
  have HBW0 := Lib.hid hbw0
  have HSTOP := Lib.hid (stops_all (n0 - 1) (by omega) (fun k => k < w0.heap.size ∧ k ≠ w.heap.size + 1) (W2.heap.size + 1) (W2.heap.size + 1 + 1) A B c eb n ws off p hn hpl hm w0 tb0 (by omega) tl0 (by omega) hp0 hat0
    (fun W hW => hlet _ W (fun k hk => by have := hbw0.size; omega) ⟨Nat.le_trans hbw0.size hW.1, fun k hk hk' => (hW.2 k (by have := hbw0.size; omega) (by have := hbw0.size; omega)).trans (hbw0.block k hk)⟩))
  have HZ := Lib.hid hz
  have HS3 := Lib.hid hs3
  have HS1 := Lib.hid hs1
  clear hw0 t60 t50 tg0 hbw0 hlet hp0 hat0 tb0 tl0 hbz hz tg3 td3 t53 hb3 tg2 td2 t52 hb2 hs2 hsl hg2 hk2 hbw2 hb1 tg1 td1 hkr hp hs1 hs3 hkl hpl hnn
  refine callsIn_of_wp_marks Try.func36 rfl trivial ?_ rfl
  simp only [Try.ntmps36, List.size_toArray, List.length_cons, List.length_nil, Nat.reduceAdd, Nat.reduceSub, Array.replicate_succ, Array.replicate_zero, List.push_toArray, List.append_toArray, List.nil_append, List.cons_append]
  gi_wp2_with (refine ⟨trivial, ?_⟩; gi_at_call 33; refine (writes_in (n0 - 1) A B n ws.length c eb off _ ⟨_, _, rfl⟩ _).mono ?_; rintro e w' ⟨rfl, rfl⟩)
  rw [← HW0.out]
  refine wpIn_rangeFunc_ownG rfl h1 (gf := 40) (lb := #[.pointer (some ⟨W2.heap.size + 1, 0, none⟩), .pointer (some ⟨W2.heap.size + 1 + 1, 0, none⟩)]) rfl trivial (enters_of Try.func40 (by kernel_rfl) rfl)
    HSTOP.out KeepD.trans (fun W l o o' hl _ _ _ => KeepD.putObj (B := w0.heap.size) (fun k hk => hk.1) W l o' hl) (Below.refl _ _) (fun _ => rfl)
    (fun (pre : List (PutS n)) W => (TBox W (w.heap.size + 1) 9 ((doneL kept (pre.map (·.1))).map strV).toArray ∧ TBox W W1.heap.size 22 #[.slice (some ⟨w.heap.size + 1, 0, none⟩) n n] ∧ TBox W W2.heap.size 81 #[.func (.func 44) #[] #[.pointer (some ⟨W1.heap.size, 0, none⟩)]]) ∧ Below w.heap.size w W)
    (fun _ _ _ => False)
    (OwnFrom.and (OwnFrom.and (Own.from (tbox_own _ _ (fun (pre : List (PutS n)) => ((doneL kept (pre.map (·.1))).map strV).toArray)) _) (OwnFrom.and (Own.from (tbox_own _ _ _) _) (Own.from (tbox_own _ _ _) _))) (ownFrom_below (Nat.le_refl _) HBW0.out.size))
    (fun _ _ _ _ _ hs _ _ => hs)
    ⟨⟨HTG0.out, HT50.out, HT60.out⟩, HBW0.out⟩
    (fun (x : PutS n) => { tmps := #[.agg #[.slice A n c, .slice B ws.length eb, .bool off], .func (.func 37) #[] #[], .pointer (some ⟨w.heap.size, 0, none⟩), undef, .slice none 0 0, .pointer (some ⟨W1.heap.size, 0, none⟩), .pointer (some ⟨W2.heap.size, 0, none⟩), .int .i64 x.1.1, .string ⟨x.1.2.toArray⟩, .pointer (some ⟨w.heap.size, 0, none⟩), .slice A n c, .int .i64 n, .slice (some ⟨w.heap.size + 1, 0, none⟩) n n, .slice (some ⟨w.heap.size + 1, 0, none⟩) n n, .pointer (some ⟨w.heap.size, 0, none⟩), .slice A n c, .int .i64 n,
      .func (.func 44) #[] #[.pointer (some ⟨W1.heap.size, 0, none⟩)], .agg #[.slice A n c, .slice B ws.length eb, .bool off], .func (.func 37) #[] #[], .func (.func 40) #[] #[.pointer (some ⟨W2.heap.size + 1, 0, none⟩), .pointer (some ⟨W2.heap.size + 1 + 1, 0, none⟩)], .int .i64 x.1.1, .string ⟨x.1.2.toArray⟩, undef, undef, undef, undef, undef], defers := [] }) ?assign ?body ?done ?stop
  case assign =>
    intro l x W K hK
    gi_wp2
    exact hK
  case body =>
    rintro l pre ⟨⟨i, s⟩, ⟨hx0, hx1⟩, hx2⟩ W ⟨⟨htg, ht5, ht6⟩, hB⟩ hlt
    obtain ⟨k, rfl⟩ := Int.eq_ofNat_of_zero_le hx0
    have hkn : k < n := by simp only at hx1; omega
    have hlen : ((doneL kept (pre.map (·.1))).map strV).toArray.size = n := by simp [doneL_len, HNN.out]
    have HC := Lib.hid (done1 (w.heap.size + 1) n W1.heap.size k s _ W hkn hn ht5 htg hlen)
    have c6 : W.cell? ⟨W2.heap.size, 0, none⟩ = some (.func (.func 44) #[] #[.pointer (some ⟨W1.heap.size, 0, none⟩)]) := ht6.cell 0
    have hst := htg.set k (.string ⟨s.toArray⟩)
    have hnew : ((doneL kept (pre.map (·.1))).map strV).toArray.setIfInBounds k (.string ⟨s.toArray⟩) = ((doneL kept ((pre ++ [(⟨((k : Int), s), ⟨hx0, hx1⟩, hx2⟩ : PutS n)]).map (fun x : PutS n => x.1))).map strV).toArray := by
      rw [List.map_append, doneL_append, List.setIfInBounds_toArray]
      simp only [List.map_cons, List.map_nil, doneL, List.foldl_cons, List.foldl_nil, Int.toNat_natCast, List.map_set]
      rfl
    rw [hnew] at hst
    have HST := Lib.hid (And.intro hst (And.intro (ht5.far (w.heap.size + 1) k (.string ⟨s.toArray⟩) (by have := HS1.out; omega)) (ht6.far (w.heap.size + 1) k (.string ⟨s.toArray⟩) (by have := HS3.out; omega))))
    have HB := Lib.hid hB
    clear hst hnew htg ht5 ht6 hB hlen
    gi_wp2_with (refine ⟨trivial, ?_⟩; gi_at_call 44; refine (CallsIn.inRound l (callsIn_wide.2 HC.out)).mono ?_; rintro e w1 ⟨⟨v, rfl⟩, rfl⟩)
    exact ⟨(KeepsOthers.setCell _ _ _).from _, ⟨by simp, fun j hj _ => heap_setCell_far _ _ _ _ (by simpa using hj.2)⟩, HST.out, HB.out.setCell (p := ⟨w.heap.size + 1, k, none⟩) (by simp) _⟩
  case done =>
    rintro D ys W hD hys ⟨⟨htg, ht5, ht6⟩, hB⟩ hK
    have c5 : W.cell? ⟨W1.heap.size, 0, none⟩ = some (.slice (some ⟨w.heap.size + 1, 0, none⟩) n n) := ht5.cell 0
    have hfin : RetRow w (doneL kept (lets n p 0 ws)) (.returned (.slice (some ⟨w.heap.size + 1, 0, none⟩) n n)) (W.putObj D (.deferred none)) := by
      have hr := (htg.putObj (.deferred none) hK).row
      rw [hys, List.length_map, doneL_len, HNN.out] at hr
      exact ⟨_, rfl, hr, fun _ => Nat.le_succ _, hB.trans (belowK_b (w := w) (Nat.le_refl _) W D _ _ (by have := HBW0.out.size; omega) hK rfl rfl)⟩
    have HFIN := Lib.hid hfin
    have HK := Lib.hid hK
    clear hfin hK htg ht5 ht6 hB
    gi_wp2
    refine ⟨by simp, .inl ⟨_, _, rfl, run_takeDeferred HK.out, ?_⟩⟩
    refine ⟨.slice (some ⟨w.heap.size + 1, 0, none⟩) n n, ?_, HFIN.out⟩
    simp [results, Try.f36, go_sem]
  case stop =>
    rintro D c pre W _ _ h _
    exact h.elim
end Go.Proofs.Ytahnkkmngbckdaa
