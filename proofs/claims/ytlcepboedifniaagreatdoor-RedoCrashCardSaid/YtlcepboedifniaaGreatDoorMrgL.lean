/- disk.done: the sectors with the writes that a rule lets through; old memory is as it was. disk.Image, disk.Flush, disk.Crash: they answer as the document says; old memory is as it was. disk.Image, strings.Join. Rules for a certificate's open nodes: 'make(S, n)': a row of one's own of n noughts. Over any program. disk.Write. -/
import Derived.Test.YtlcepboedifniaaGreatDoorMrgK
import Derived.Test.YtlcepboedifniaaGreatDoorShelf
import Derived.Test.YtlcepboedifniaaGreatDoorMrgG
import Derived.Test.YtlcepboedifniaaGreatDoorMrgH
set_option linter.unusedVariables false
set_option linter.unusedSimpArgs false
namespace Copyhold.Disk
open Go Go.RowKit
theorem tbox_own {β : Type} (B : Nat) (T : TypeId) (f : β → Array Value) : Own (fun s W => TBox W B T (f s)) := fun s X Y row hs hg hrow =>
  (hg.block B (TBox.lt hs) (fun e' => by obtain ⟨o, ho, hc⟩ := hrow B e'.symm; rw [show X.heap[B]? = _ from hs] at ho; cases ho; cases hc)).trans hs
theorem _root_.Copyhold.TBox.alloc {W : World} {B : Nat} {T : TypeId} {cs : Array Value} (h : TBox W B T cs) (o : Obj) : TBox (W.alloc o) B T cs := (Below.heap_alloc W o B h.lt).trans h
theorem _root_.Copyhold.TBox.putObj {W : World} {B D : Nat} {T : TypeId} {cs : Array Value} {d : Option (List Deferred)} (h : TBox W B T cs) (o : Obj) (hD : W.heap[D]? = some (.deferred d)) : TBox (W.putObj D o) B T cs :=
  (World.putObj_heap_other (fun e => by rw [e] at h; unfold TBox at h; rw [hD] at h; cases h)).trans h
theorem _root_.Copyhold.TBox.row {w : World} {g : Nat} {T : TypeId} {xs : List Value} (h : TBox w g T xs.toArray) : Row w (.slice (some ⟨g, 0, none⟩) xs.length xs.length) xs := by
  by_cases h0 : 0 < xs.length
  · exact .inr ⟨g, 0, xs.length, rfl, h0, Nat.le_refl _, h.lt, fun i x hx => by rw [Nat.zero_add, h.cell]; simpa using hx⟩
  · exact .inl ⟨_, _, by rw [show xs.length = 0 from by omega], List.eq_nil_of_length_eq_zero (by omega)⟩
end Copyhold.Disk
namespace Go.Proofs.YtlcepboedifniaaGreatDoor
open Go.RowKit Go.Shelf Copyhold Copyhold.Disk
attribute [local go_sem] Oper.semAt_some
theorem done1 (g n b5 k : Nat) (s : List UInt8) (cs : Array Value) (W : World) (hk : k < n) (hn : n ≤ 8796093022208) (hb : TBox W b5 22 #[.slice (some ⟨g, 0, none⟩) n n]) (hg : TBox W g 9 cs) (hcs : cs.size = n) :
    Calls Tryz.prog 73 #[.int .i64 (k : Int), .string ⟨s.toArray⟩, .pointer (some ⟨b5, 0, none⟩)] W fun e W' => (∃ v, e = .returned v) ∧ W' = W.setCell ⟨g, k, none⟩ (.string ⟨s.toArray⟩) := by
  have c : W.cell? ⟨b5, 0, none⟩ = some (.slice (some ⟨g, 0, none⟩) n n) := hb.cell 0
  obtain ⟨u, hu⟩ : ∃ u, W.cell? ⟨g, k, none⟩ = some u := ⟨cs[k]'(by omega), by rw [hg.cell]; simp⟩
  have hf := hg.free k
  clear hb hg
  go_enter Tryz.func73, Tryz.ntmps73
  go_wp2_with fail
  go_end0
  exact ⟨⟨_, rfl⟩, rfl⟩
theorem run_store_func {P : Program} {w : World} {a : Addr} {m : Mode} (f : Fn) (x y : Array Value) : (store a (.func f x y) m).run P w = stored P w a (.func f x y) m := run_store P w a _ m rfl
attribute [local go_sem] run_store_func
def RetRow (w : World) (l : List (List UInt8)) (e : Ending) (w' : World) : Prop := ∃ v, e = .returned v ∧ Row w' v (l.map strV) ∧ At (w.heap.size ≤ ·) v ∧ Below w.heap.size w w'
set_option maxRecDepth 100000 in
set_option maxHeartbeats 8000000 in
theorem done_all (n0 : Nat) (hn0 : 4 ≤ n0) (d : DiskW) (A : Option Addr) (c : Nat) (B : Option Addr) (eb : Nat) (p : Nat → PutW → Bool) (w : World) (hkr : Row w (.slice A d.kept.length c) (d.kept.map strV)) (hp : Puts w (.slice B d.w.length eb) d.w) (hok : OkD d)
    (hlet : ∀ (S : Nat → Prop) (W : World), (∀ k, k < w.heap.size → S k) → KeepD (· < w.heap.size) w W → LetK 64 #[] S W p) :
    CallsIn Fence.wide n0 Tryz.prog 63 #[.agg #[.slice A d.kept.length c, .slice B d.w.length eb, .bool d.off], .func (.func 64) #[] #[]] w (RetRow w (doneL d.kept (lets d.kept.length p 0 d.w))) := by
  obtain ⟨kept, ws, off⟩ := d
  obtain ⟨hn, hkl, hpl, hm⟩ := hok
  simp only at hkr hp hn hkl hpl hm hlet ⊢
  have h1 : 1 ≤ n0 := by omega
  have h13 : 1 ≤ n0 - 1 - 1 := by omega
  generalize hnn : kept.length = n at *
  have HNN := Lib.hid hnn
  have hmk := make_one (t := 22) strElem rfl n (by omega) (by omega) (w.alloc (.cells #[.slice A n c, .slice B ws.length eb, .bool off] 25))
  rw [World.size_alloc] at hmk
  have hb0 : Below w.heap.size w (w.alloc (.cells #[.slice A n c, .slice B ws.length eb, .bool off] 25)) := (Below.refl _ _).alloc (Nat.le_refl _) _
  have hb1 := hb0.alloc hb0.size (.cells (List.replicate n (Value.string ByteArray.empty)).toArray 9)
  have tg1 : TBox ((w.alloc (.cells #[.slice A n c, .slice B ws.length eb, .bool off] 25)).alloc (.cells (List.replicate n (Value.string ByteArray.empty)).toArray 9)) (w.heap.size + 1) 9 (List.replicate n (Value.string ByteArray.empty)).toArray := by
    have := TBox.new (w.alloc (.cells #[.slice A n c, .slice B ws.length eb, .bool off] 25)) 9 (List.replicate n (Value.string ByteArray.empty)).toArray
    rw [World.size_alloc] at this
    exact this
  have td1 := (TBox.new w 25 #[.slice A n c, .slice B ws.length eb, .bool off]).alloc (.cells (List.replicate n (Value.string ByteArray.empty)).toArray 9)
  obtain ⟨W1, hW1⟩ : ∃ W, W = (w.alloc (.cells #[.slice A n c, .slice B ws.length eb, .bool off] 25)).alloc (.cells (List.replicate n (Value.string ByteArray.empty)).toArray 9) := ⟨_, rfl⟩
  have hs1 : W1.heap.size = w.heap.size + 1 + 1 := by rw [hW1]; simp
  rw [← hW1] at hmk hb1 tg1 td1
  clear hW1 hb0
  have tg2 := tg1.alloc (.cells #[.slice (some ⟨w.heap.size + 1, 0, none⟩) n n] 22)
  have td2 := td1.alloc (.cells #[.slice (some ⟨w.heap.size + 1, 0, none⟩) n n] 22)
  have t52 := TBox.new W1 22 #[.slice (some ⟨w.heap.size + 1, 0, none⟩) n n]
  have hb2 := hb1.alloc hb1.size (.cells #[.slice (some ⟨w.heap.size + 1, 0, none⟩) n n] 22)
  have hs2 : (W1.alloc (.cells #[.slice (some ⟨w.heap.size + 1, 0, none⟩) n n] 22)).heap.size = w.heap.size + 1 + 1 + 1 := by simp [hs1]
  have hsl : Sl (W1.alloc (.cells #[.slice (some ⟨w.heap.size + 1, 0, none⟩) n n] 22)) 1 (.slice A n c) n (kept.map strV) := by
    have := Sl.of_row (hkr.below hb2)
    rwa [List.length_map, hnn] at this
  obtain ⟨W2, hcp, hg2, hk2, hbw2⟩ := copy_new (P := Tryz.prog) (W1.alloc (.cells #[.slice (some ⟨w.heap.size + 1, 0, none⟩) n n] 22)) 22 22 3 9 (w.heap.size + 1) n n (List.replicate n (Value.string ByteArray.empty)) 9 (.slice A n c) (kept.map strV) rfl rfl tg2 (by simp) hsl (fun u hu => by obtain ⟨x, _, rfl⟩ := List.mem_map.1 hu; rfl)
  rw [List.drop_eq_nil_of_le (by simp), List.append_nil] at hg2
  have tg3 : TBox W2 (w.heap.size + 1) 9 (kept.map strV).toArray := hg2
  have td3 : TBox W2 w.heap.size 25 #[.slice A n c, .slice B ws.length eb, .bool off] := (hk2 _ (by omega)).trans td2
  have t53 : TBox W2 W1.heap.size 22 #[.slice (some ⟨w.heap.size + 1, 0, none⟩) n n] := (hk2 _ (by omega)).trans t52
  have hb3 : Below w.heap.size w W2 := hb2.trans (hbw2.mono (by omega))
  have hs3 : w.heap.size + 1 + 1 + 1 ≤ W2.heap.size := by have := hbw2.size; omega
  have c1a : W1.cell? ⟨w.heap.size, 0, none⟩ = some (.slice A n c) := td1.cell 0
  have c1l := td1.lt
  have c3a : W2.cell? ⟨w.heap.size, 0, none⟩ = some (.slice A n c) := td3.cell 0
  have c3b : W2.cell? ⟨w.heap.size, 1, none⟩ = some (.slice B ws.length eb) := td3.cell 1
  have c3c : W2.cell? ⟨w.heap.size, 2, none⟩ = some (.bool off) := td3.cell 2
  have c3l := td3.lt
  obtain ⟨w0, hw0⟩ : ∃ W, W = ((W2.alloc (.cells #[.func (.func 73) #[] #[.pointer (some ⟨W1.heap.size, 0, none⟩)]] 118)).alloc (.cells #[.slice A n c, .slice B ws.length eb, .bool off] 25)).alloc (.cells #[.func (.func 64) #[] #[]] 110) := ⟨_, rfl⟩
  have t60 : TBox w0 W2.heap.size 118 #[.func (.func 73) #[] #[.pointer (some ⟨W1.heap.size, 0, none⟩)]] := by rw [hw0]; exact ((TBox.new _ _ _).alloc _).alloc _
  have tb0 : TBox w0 (W2.heap.size + 1) 25 #[.slice A n c, .slice B ws.length eb, .bool off] := by
    rw [hw0]
    have := TBox.new (W2.alloc (.cells #[.func (.func 73) #[] #[.pointer (some ⟨W1.heap.size, 0, none⟩)]] 118)) 25 #[.slice A n c, .slice B ws.length eb, .bool off]
    rw [World.size_alloc] at this
    exact this.alloc _
  have tl0 : TBox w0 (W2.heap.size + 1 + 1) 110 #[.func (.func 64) #[] #[]] := by
    rw [hw0]
    have := TBox.new ((W2.alloc (.cells #[.func (.func 73) #[] #[.pointer (some ⟨W1.heap.size, 0, none⟩)]] 118)).alloc (.cells #[.slice A n c, .slice B ws.length eb, .bool off] 25)) 110 #[.func (.func 64) #[] #[]]
    rw [World.size_alloc, World.size_alloc] at this
    exact this
  have hbz : Below W2.heap.size W2 w0 := by rw [hw0]; exact (((Below.refl _ _).alloc (Nat.le_refl _) _).alloc (by simp) _).alloc (by simp; omega) _
  have hz : w0.heap.size = W2.heap.size + 1 + 1 + 1 := by rw [hw0]; simp
  have tg0 := tg3.below hbz
  have t50 := t53.below hbz
  have hbw0 : Below w.heap.size w w0 := hb3.trans (hbz.mono hb3.size)
  have hp0 := hp.below hbw0
  have hat0 : At (fun k => k < w0.heap.size ∧ k ≠ w.heap.size + 1) (.slice B ws.length eb) := (Sl.lies hp).mono fun b hb => by omega
  have HW0 := Lib.hid hw0
  have HT60 := Lib.hid t60
  have HT50 := Lib.hid t50
  have HTG0 := Lib.hid tg0
  have HBW0 := Lib.hid hbw0
  have HSTOP := Lib.hid (stops_all (n0 - 1) (by omega) (fun k => k < w0.heap.size ∧ k ≠ w.heap.size + 1) (W2.heap.size + 1) (W2.heap.size + 1 + 1) A B c eb n ws off p hn hpl hm w0 tb0 (by omega) tl0 (by omega) hp0 hat0
    (fun W hW => hlet _ W (fun k hk => by have := hbw0.size; omega) ⟨Nat.le_trans hbw0.size hW.1, fun k hk hk' => (hW.2 k (by have := hbw0.size; omega) (by have := hbw0.size; omega)).trans (hbw0.block k hk)⟩))
  have HZ := Lib.hid hz
  have HS3 := Lib.hid hs3
  have HS1 := Lib.hid hs1
  clear hw0 t60 t50 tg0 hbw0 hlet hp0 hat0 tb0 tl0 hbz hz tg3 td3 t53 hb3 tg2 td2 t52 hb2 hs2 hsl hg2 hk2 hbw2 hb1 tg1 td1 hkr hp hs1 hs3 hkl hpl hnn
  refine callsIn_of_wp_marks Tryz.func63 rfl trivial ?_ rfl
  simp only [Tryz.ntmps63, List.size_toArray, List.length_cons, List.length_nil, Nat.reduceAdd, Nat.reduceSub, Array.replicate_succ, Array.replicate_zero, List.push_toArray, List.append_toArray, List.nil_append, List.cons_append]
  gi_wp2_with (refine ⟨trivial, ?_⟩; gi_at_call 74; refine (writes_in (n0 - 1) A B n ws.length c eb off _ ⟨_, _, rfl⟩ _).mono ?_; rintro e w' ⟨rfl, rfl⟩)
  rw [← HW0.out]
  refine wpIn_rangeFunc_ownG rfl h1 (gf := 90) (lb := #[.pointer (some ⟨W2.heap.size + 1, 0, none⟩), .pointer (some ⟨W2.heap.size + 1 + 1, 0, none⟩)]) rfl trivial (enters_of Tryz.func90 (by kernel_rfl) rfl)
    HSTOP.out KeepD.trans (fun W l o o' hl _ _ _ => KeepD.putObj (B := w0.heap.size) (fun k hk => hk.1) W l o' hl) (Below.refl _ _) (fun _ => rfl)
    (fun (pre : List (PutS n)) W => (TBox W (w.heap.size + 1) 9 ((doneL kept (pre.map (·.1))).map strV).toArray ∧ TBox W W1.heap.size 22 #[.slice (some ⟨w.heap.size + 1, 0, none⟩) n n] ∧ TBox W W2.heap.size 118 #[.func (.func 73) #[] #[.pointer (some ⟨W1.heap.size, 0, none⟩)]]) ∧ Below w.heap.size w W)
    (fun _ _ _ => False)
    (OwnFrom.and (OwnFrom.and (Own.from (tbox_own _ _ (fun (pre : List (PutS n)) => ((doneL kept (pre.map (·.1))).map strV).toArray)) _) (OwnFrom.and (Own.from (tbox_own _ _ _) _) (Own.from (tbox_own _ _ _) _))) (ownFrom_below (Nat.le_refl _) HBW0.out.size))
    (fun _ _ _ _ _ hs _ _ => hs)
    ⟨⟨HTG0.out, HT50.out, HT60.out⟩, HBW0.out⟩
    (fun (x : PutS n) => { tmps := #[.agg #[.slice A n c, .slice B ws.length eb, .bool off], .func (.func 64) #[] #[], .pointer (some ⟨w.heap.size, 0, none⟩), undef, .slice none 0 0, .pointer (some ⟨W1.heap.size, 0, none⟩), .pointer (some ⟨W2.heap.size, 0, none⟩), .int .i64 x.1.1, .string ⟨x.1.2.toArray⟩, .pointer (some ⟨w.heap.size, 0, none⟩), .slice A n c, .int .i64 n, .slice (some ⟨w.heap.size + 1, 0, none⟩) n n, .slice (some ⟨w.heap.size + 1, 0, none⟩) n n, .pointer (some ⟨w.heap.size, 0, none⟩), .slice A n c, .int .i64 n,
      .func (.func 73) #[] #[.pointer (some ⟨W1.heap.size, 0, none⟩)], .agg #[.slice A n c, .slice B ws.length eb, .bool off], .func (.func 64) #[] #[], .func (.func 90) #[] #[.pointer (some ⟨W2.heap.size + 1, 0, none⟩), .pointer (some ⟨W2.heap.size + 1 + 1, 0, none⟩)], .int .i64 x.1.1, .string ⟨x.1.2.toArray⟩, undef, undef, undef, undef, undef], defers := [] }) ?assign ?body ?done ?stop
  case assign =>
    intro l x W K hK
    gi_wp2
    exact hK
  case body =>
    rintro l pre ⟨⟨i, s⟩, ⟨hx0, hx1⟩, hx2⟩ W ⟨⟨htg, ht5, ht6⟩, hB⟩ hlt
    obtain ⟨k, rfl⟩ := Int.eq_ofNat_of_zero_le hx0
    have hkn : k < n := by simp only at hx1; omega
    have hlen : ((doneL kept (pre.map (·.1))).map strV).toArray.size = n := by simp [doneL_len, HNN.out]
    have HC := Lib.hid (done1 (w.heap.size + 1) n W1.heap.size k s _ W hkn hn ht5 htg hlen)
    have c6 : W.cell? ⟨W2.heap.size, 0, none⟩ = some (.func (.func 73) #[] #[.pointer (some ⟨W1.heap.size, 0, none⟩)]) := ht6.cell 0
    have hst := htg.set k (.string ⟨s.toArray⟩)
    have hnew : ((doneL kept (pre.map (·.1))).map strV).toArray.setIfInBounds k (.string ⟨s.toArray⟩) = ((doneL kept ((pre ++ [(⟨((k : Int), s), ⟨hx0, hx1⟩, hx2⟩ : PutS n)]).map (fun x : PutS n => x.1))).map strV).toArray := by
      rw [List.map_append, doneL_append, List.setIfInBounds_toArray]
      simp only [List.map_cons, List.map_nil, doneL, List.foldl_cons, List.foldl_nil, Int.toNat_natCast, List.map_set]
      rfl
    rw [hnew] at hst
    have HST := Lib.hid (And.intro hst (And.intro (ht5.far (w.heap.size + 1) k (.string ⟨s.toArray⟩) (by have := HS1.out; omega)) (ht6.far (w.heap.size + 1) k (.string ⟨s.toArray⟩) (by have := HS3.out; omega))))
    have HB := Lib.hid hB
    clear hst hnew htg ht5 ht6 hB hlen
    gi_wp2_with (refine ⟨trivial, ?_⟩; gi_at_call 73; refine (CallsIn.inRound l (callsIn_wide.2 HC.out)).mono ?_; rintro e w1 ⟨⟨v, rfl⟩, rfl⟩)
    exact ⟨(KeepsOthers.setCell _ _ _).from _, ⟨by simp, fun j hj _ => heap_setCell_far _ _ _ _ (by simpa using hj.2)⟩, HST.out, HB.out.setCell (p := ⟨w.heap.size + 1, k, none⟩) (by simp) _⟩
  case done =>
    rintro D ys W hD hys ⟨⟨htg, ht5, ht6⟩, hB⟩ hK
    have c5 : W.cell? ⟨W1.heap.size, 0, none⟩ = some (.slice (some ⟨w.heap.size + 1, 0, none⟩) n n) := ht5.cell 0
    have hfin : RetRow w (doneL kept (lets n p 0 ws)) (.returned (.slice (some ⟨w.heap.size + 1, 0, none⟩) n n)) (W.putObj D (.deferred none)) := by
      have hr := (htg.putObj (.deferred none) hK).row
      rw [hys, List.length_map, doneL_len, HNN.out] at hr
      exact ⟨_, rfl, hr, fun _ => Nat.le_succ _, hB.trans (belowK_b (w := w) (Nat.le_refl _) W D _ _ (by have := HBW0.out.size; omega) hK rfl rfl)⟩
    have HFIN := Lib.hid hfin
    have HK := Lib.hid hK
    clear hfin hK htg ht5 ht6 hB
    gi_wp2
    refine ⟨by simp, .inl ⟨_, _, rfl, run_takeDeferred HK.out, ?_⟩⟩
    refine ⟨.slice (some ⟨w.heap.size + 1, 0, none⟩) n n, ?_, HFIN.out⟩
    simp [results, Tryz.f63, go_sem]
  case stop =>
    rintro D c pre W _ _ h _
    exact h.elim
end Go.Proofs.YtlcepboedifniaaGreatDoor

set_option linter.unusedVariables false
set_option linter.unusedSimpArgs false
namespace Go.Proofs.YtlcepboedifniaaGreatDoor
open Go.RowKit Copyhold Copyhold.Disk
theorem disk_Image (d : DiskW) (v : Value) (w : World) (hv : DiskV w v d) (hok : OkD d) : Calls Tryz.prog 53 #[v] w (RetRow w (imageL d)) := by
  obtain ⟨A, c, B, eb, rfl, hk, hp⟩ := hv
  have hb0 : Below w.heap.size w (w.alloc (.cells #[.slice A d.kept.length c, .slice B d.w.length eb, .bool d.off] 25)) := (Below.refl _ _).alloc (Nat.le_refl _) _
  have HC := Lib.hid (callsIn_wide.1 (done_all 4 (Nat.le_refl _) d A c B eb (fun _ _ => true) _ (hk.below hb0) (hp.below hb0) hok (fun S W _ _ => let_all S W)))
  unfold imageL
  generalize doneL d.kept (lets d.kept.length (fun _ _ => true) 0 d.w) = im at *
  clear hk hp hb0
  go_enter Tryz.func53, Tryz.ntmps53
  go_wp2_with fail
  refine HC.out.mono ?_
  rintro e w1 ⟨v, rfl, hr, hat, hb⟩
  obtain ⟨A', c', rfl⟩ := hr.shape
  rw [List.length_map] at hr hat ⊢
  have HR := Lib.hid (And.intro hr (And.intro hat hb))
  clear hr hat hb
  go_wp2_with fail
  go_ret
  obtain ⟨hr, hat, hb⟩ := HR.out
  exact ⟨_, rfl, hr, hat.mono fun b hb => by simp at hb; omega, below_trans ((Below.refl _ _).alloc (Nat.le_refl _) _) hb (by simp)⟩
theorem DiskV.row {w : World} {A : Option Addr} {c : Nat} {l : List (List UInt8)} (h : Row w (.slice A l.length c) (l.map strV)) : DiskV w (.agg #[.slice A l.length c, .slice none 0 0, .bool false]) ⟨l, [], false⟩ :=
  ⟨A, c, none, 0, rfl, h, Puts.nil w⟩
end Go.Proofs.YtlcepboedifniaaGreatDoor

set_option linter.unusedVariables false
set_option linter.unusedSimpArgs false
namespace Go.Proofs.YtlcepboedifniaaGreatDoor
open Go Go.RowKit Copyhold Copyhold.Disk
theorem vals_of {D : Nat → Prop} {w : World} {vals us : List Value} (hl : us.length = vals.length) (h : ∀ (j : Nat) (a : AV) (u : Value), (vals.map AV.val)[j]? = some a → us[j]? = some u → Ra D w a u) : us = vals := by
  apply List.ext_getElem?
  intro j
  by_cases hj : j < vals.length
  · have h1 := List.getElem?_eq_getElem hj
    have h2 := List.getElem?_eq_getElem (l := us) (i := j) (by omega)
    have := h j (.val vals[j]) us[j] (by rw [List.getElem?_map, h1]; rfl) h2
    rw [h1, h2]
    generalize us[j] = u at this
    cases this
    rfl
  · rw [List.getElem?_eq_none (by omega), List.getElem?_eq_none (by omega)]
theorem texts_ra {D : Nat → Prop} {w : World} {l : List Txt} {v : Value} (h : Row w v (l.map strV)) (hat : At D v) : Ra D w (.sl 1 false (l.map txA)) v := by
  rcases h with ⟨a, c, rfl, he⟩ | ⟨b, off, cap, rfl, h0, hc, hb, hcell⟩
  · have : l = [] := by simpa using he
    subst this
    exact .sl 1 false [] a c 0 0 (fun _ _ => undef) (Nat.zero_le _) (fun h => by cases h) (fun h => absurd h (by simp)) (fun i e h => by simp at h) (fun i e j x h => by simp at h) (fun i e j x h => by simp at h)
  · have key : ∀ (i : Nat) (e : List AV) (j : Nat) (x : AV), (l.map txA)[i]? = some e → e[j]? = some x → ∃ y, l[i]? = some y ∧ j = 0 ∧ x = aS y := by
      intro i e j x he hx
      rw [List.getElem?_map] at he
      cases hli : l[i]? with
      | none => rw [hli] at he; cases he
      | some y =>
        rw [hli] at he
        obtain rfl := Option.some.inj he
        match j, hx with
        | 0, hx => obtain rfl := Option.some.inj hx; exact ⟨y, rfl, rfl, rfl⟩
        | j + 1, hx => simp [txA] at hx
    have := Ra.sl (D := D) (w := w) 1 false (l.map txA) (some ⟨b, off, none⟩) cap b off (fun i _ => strV (l.getD i [])) (by simpa using hc) (fun h => by cases h) (fun _ => ⟨rfl, hat h0, hb⟩)
      (fun i e he => by
        rw [List.getElem?_map] at he
        cases hli : l[i]? with
        | none => rw [hli] at he; cases he
        | some y => rw [hli] at he; obtain rfl := Option.some.inj he; rfl)
      (fun i e j x he hx => by
        obtain ⟨y, h1, rfl, rfl⟩ := key i e j x he hx
        simp only [List.getD, h1, Option.getD_some]
        refine ⟨?_, rfl⟩
        have := hcell i (strV y) (by rw [List.getElem?_map, h1]; rfl)
        rw [show off + (i * 1 + 0) = off + i from by omega]
        exact this)
      (fun i e j x he hx => by
        obtain ⟨y, h1, rfl, rfl⟩ := key i e j x he hx
        simp only [List.getD, h1, Option.getD_some]
        exact .val _)
    simp only [List.length_map] at this ⊢
    exact this
theorem ra_aggE {D : Nat → Prop} {w : World} {cs : List AV} {v : Value} (h : Ra D w (.agg cs) v) : ∃ vs : Array Value, v = .agg vs ∧ cs.length = vs.size ∧ ∀ (j : Nat) (x : AV) (u : Value), cs[j]? = some x → vs[j]? = some u → Ra D w x u := by
  cases h with
  | agg cs vs h1 h2 h3 => exact ⟨vs, rfl, h1, h3⟩
theorem intercalate_nil {α : Type} (l : List (List α)) : List.intercalate [] l = l.flatten := by
  unfold List.intercalate
  induction l with
  | nil => rfl
  | cons a r ih =>
    cases r with
    | nil => rfl
    | cons b s => rw [List.intersperse_cons_cons, List.flatten_cons, List.flatten_cons, ih]; rfl
theorem join_row (v : Value) (xs : List (List UInt8)) (w : World) (hr : Row w v (xs.map strV)) (hn : xs.length ≤ 100000000) (hlen : xs.flatten.length ≤ 140737488355328) :
    Calls Tryz.prog 52 #[v, .string ⟨#[]⟩] w fun e w' => e = .returned (.string ⟨xs.flatten.toArray⟩) ∧ Below w.heap.size w w' := by
  obtain ⟨A, c, rfl⟩ := hr.shape
  rw [List.length_map] at hr ⊢
  by_cases h0 : 0 < xs.length
  · obtain ⟨bk, o, rfl, hbk, hcap, hcl⟩ := hr.at 0 (x := strV xs[0]) (by rw [List.getElem?_map, List.getElem?_eq_getElem h0]; rfl)
    have hj := Tryz.strings_Join bk o c (xs.map fun l => ⟨l.toArray⟩) ⟨#[]⟩ w (fun j x hx => by
        rw [List.getElem?_map] at hx
        cases hg : xs[j]? with
        | none => rw [hg] at hx; cases hx
        | some y => rw [hg] at hx; cases hx; exact hcl j (strV y) (by rw [List.getElem?_map, hg]; rfl)) hbk (by rw [List.length_map]; omega) (by simpa using hcap)
    have e : Lib.join ((xs.map fun l => (⟨l.toArray⟩ : ByteArray)).map (·.data.toList)) (⟨#[]⟩ : ByteArray).data.toList = xs.flatten := by
      rw [List.map_map]
      show List.intercalate [] _ = _
      rw [intercalate_nil]
      congr 1
      exact List.map_id xs
    rw [e, List.length_map] at hj
    exact hj hlen
  · obtain rfl : xs = [] := List.eq_nil_of_length_eq_zero (by omega)
    exact (Tryz.strings_Join_none A c ⟨#[]⟩ w).mono fun e w' ⟨h, k⟩ => ⟨h, k ▸ Below.refl _ _⟩
theorem flat64 (l : List (List UInt8)) (h : ∀ x ∈ l, x.length = 64) : l.flatten.length = 64 * l.length := by
  induction l with
  | nil => rfl
  | cons a r ih =>
    rw [List.flatten_cons, List.length_append, ih (fun x hx => h x (List.mem_cons_of_mem _ hx)), h a List.mem_cons_self, List.length_cons]
    omega
theorem image64 {d : Dsk} (hr : Copyhold.Disk.Right d) : ∀ x ∈ imageL d, x.length = 64 := by
  rw [Copyhold.Disk.Right.image hr]
  exact doneL_all64 hr.2.1 fun p hp => (hr.2.2 p hp).2
theorem image_len (d : Dsk) : (imageL d).length = d.kept.length := doneL_len _ _
theorem putA_flat (l : List (Int × Txt)) : (l.map putA).flatten = (l.flatMap putC).map AV.val := by
  induction l with
  | nil => rfl
  | cons e r ih =>
    simp only [List.map_cons, List.flatten_cons, List.flatMap_cons, List.map_append, ih]
    rfl
theorem puts_of_ra {D : Nat → Prop} {w : World} {t : Bool} {l : List (Int × Txt)} {v : Value} (h : Ra D w (.sl 2 t (l.map putA)) v) : Puts w v l := by
  obtain ⟨us, hsl, hus, hru⟩ := sl_of_ra h
  rw [putA_flat] at hru
  have hl := hsl
  obtain ⟨A, c, rfl, hc, hl, _⟩ := hl
  have e := vals_of (by rw [putC_len, hl]; simp) hru
  subst e
  rw [List.length_map] at hsl
  rw [List.length_map]
  exact hsl
structure OkDk (d : Dsk) : Prop where
  kept : d.kept.length ≤ 8796093022208
  texts : ∀ l ∈ d.kept, l.length ≤ 140737488351232
  puts : OkPuts d.w
  w : d.w.length ≤ 5864062014634
theorem disk_of_ra {D : Nat → Prop} {w : World} {d : Dsk} {v : Value} (h : Ra D w (.agg (dskA d)) v) : DiskV w v d := by
  obtain ⟨vs, rfl, h1, h3⟩ := ra_aggE h
  have hs : vs.size = 3 := by simpa [dskA] using h1.symm
  obtain ⟨l⟩ := vs
  match l, hs with
  | [a, b, c], _ =>
    have ra := h3 0 _ a rfl rfl
    have rb := h3 1 _ b rfl rfl
    have rc := h3 2 _ c rfl rfl
    cases rc
    have r1 := row_of_ra ra
    have r2 := puts_of_ra rb
    obtain ⟨A, ca, e1⟩ := r1.shape
    obtain ⟨B, cb, e2, _⟩ := r2.shape
    rw [List.length_map] at e1
    subst e1 e2
    exact ⟨A, ca, B, cb, rfl, r1, r2⟩
theorem image_spec (d : Dsk) (ok : OkDk d) : FSpec Tryz.prog 53 [.agg (dskA d)] (.sl 1 false ((imageL d).map txA)) := by
  intro D w vs hD hvs
  obtain ⟨u, rfl, hu⟩ := ra_one hvs
  refine (disk_Image d u w (disk_of_ra hu) ⟨ok.1, ok.2, ok.3, ok.4⟩).mono ?_
  rintro e w' ⟨v, rfl, hr, hat, hb⟩
  refine ⟨v, fun b => D b ∨ (w.heap.size ≤ b ∧ b < w'.heap.size), rfl, hb, fun b h => .inl h, fun b h => ?_, ?_⟩
  · rcases h with h | h
    · exact ⟨Nat.lt_of_lt_of_le (hD b h) hb.size, .inl h⟩
    · exact ⟨h.2, .inr h.1⟩
  · refine texts_ra hr ?_
    rcases hr with ⟨a, c, rfl, he⟩ | ⟨b, off, cap, rfl, h0, hc, hb2, hcell⟩
    · cases a with
      | none => trivial
      | some a => exact fun h => absurd h (by omega)
    · exact fun h => .inr ⟨hat h, hb2⟩
theorem join_spec (xs : List Txt) (hn : xs.length ≤ 100000000) (hl : xs.flatten.length ≤ 140737488355328) : FSpec Tryz.prog 52 [.sl 1 false (xs.map txA), aS []] (aS xs.flatten) := fspec_plain (fun _ _ => .val _) fun D w vs h => by
  obtain ⟨u, v, rfl, hu, hv⟩ := h.two
  cases hv
  exact join_row u xs w (row_of_ra hu) hn hl
end Go.Proofs.YtlcepboedifniaaGreatDoor

set_option linter.unusedVariables false
set_option linter.unusedSimpArgs false
namespace Go.Proofs.YtlcepboedifniaaGreatDoor
open Go Go.RowKit Copyhold
def mkN (P : Program) (ops : Array Oper) (s : LS) (i : Nat) : Option (TypeId × Int × Int × TypeId × List AV × Nat) :=
  match opAt ops s i with
  | some o =>
    match o.op, o.dst with
    | .makeSlice t l c, some d =>
      match s.ev l, s.ev c, elemP P t, bget s.bx d with
      | .val (.int .i64 m), .val (.int .i64 m'), some e, none =>
        match zeroA P e with
        | some z => some (t, m, m', e, z, d)
        | none => none
      | _, _, _, _ => none
    | _, _ => none
  | none => none
theorem rule_mkN {P : Program} {t e : TypeId} {m : Int} {z : List AV} {d k : Nat} (n bytes : Nat) (hE : elemB P t e k bytes = true) (hm : m = (n : Int)) (hby : bytes * n ≤ 140737488355328) (h63 : n ≤ 140737488355327) :
    ∀ (ops : Array Oper) (i : Nat) (s : LS) (K : FS → Prop) (rest : List Nat), mkN P ops s i = some (t, m, m, e, z, d) → (∀ V : Value, SeqR P ops K rest ((s.put (some d) (.rw d V n)).setB d (.row V e k (List.replicate n z))).fs) → SeqR P ops K (i :: rest) s.fs := by
  intro ops i s K rest h kk
  subst hm
  unfold mkN at h
  split at h
  · rename_i o ho
    obtain ⟨hi, hg⟩ := opAt_ok ho
    split at h
    · rename_i t' l c d' hop hd
      split at h
      · rename_i m1 m2 e' hl hc hel hbn
        split at h
        · rename_i z' hz
          simp only [Option.some.injEq, Prod.mk.injEq] at h
          obtain ⟨rfl, rfl, rfl, rfl, rfl, rfl⟩ := h
          obtain ⟨zv, hEl⟩ := elemB_ok hE
          obtain ⟨ht, hinf, hzs, hsz⟩ := id hEl
          obtain ⟨ti, hti, htz, hsize, hbytes⟩ := info_of hinf
          have hzk : z'.length = k := by
            obtain ⟨it, z2, g1, g2, hrepz⟩ := zeroA_ok (D := fun _ => True) (w := (default : World)) hz
            rw [hti] at g1
            obtain rfl := Option.some.inj g1
            rw [htz] at g2
            obtain rfl := Option.some.inj g2
            have := hrepz.1
            omega
          have hkx : ∀ l ∈ List.replicate n z', l.length = k := fun l hl => by rw [List.eq_of_mem_replicate hl]; exact hzk
          refine ⟨o, hi, .inr ⟨hg, .inr (.inl ⟨by rw [hop]; rfl, _, mono_row (e := e') (k := k) (xs := List.replicate n z') hd hkx (fun D w ρ hops => ?_), ?_⟩)⟩⟩
          · have hvl := arg_of hops l (by simp [hop, Op.operands])
            have hvc := arg_of hops c (by simp [hop, Op.operands])
            rw [hl] at hvl
            rw [hc] at hvc
            generalize hlv : ρ l = vl at hvl
            generalize hcv : ρ c = vc at hvc
            cases hvl
            cases hvc
            obtain ⟨it, z2, g1, g2, hrepz⟩ := zeroA_ok (D := D) (w := w) hz
            rw [hti] at g1
            obtain rfl := Option.some.inj g1
            rw [htz] at g2
            obtain rfl := Option.some.inj g2
            have hb48 : (ti.bytes : Int) * (n : Int) ≤ 281474976710656 := by
              have h0 : ((bytes * n : Nat) : Int) ≤ 281474976710656 := by omega
              rw [hbytes]
              rwa [Int.natCast_mul] at h0
            have hrun := run_make (P := P) w t' e' ti zv ht hti htz .i64 .i64 (n : Int) (n : Int) (by omega) (by omega) hb48 (by omega)
            rw [hsize, Int.toNat_natCast] at hrun
            have hcells : madeCells zv.cells (n * k) = (List.replicate n zv.cells.toList).flatten.toArray := by
              have := zeros_eq zv.cells n (by omega)
              apply Array.ext'
              rw [← hzs, List.toList_toArray, ← this]
              rfl
            rw [hcells] at hrun
            have hrep := repC_zeros hrepz n
            have hlen : (List.replicate n zv.cells.toList).flatten.length = n * k := by
              rw [flat_lenG (k := k) (fun l hl => by rw [List.eq_of_mem_replicate hl]; simpa using hzs), List.length_replicate]
            refine ⟨.slice (some ⟨w.heap.size, 0, none⟩) n n, w.alloc (.cells (List.replicate n zv.cells.toList).flatten.toArray e'), (List.replicate n zv.cells.toList).flatten, by simp [execOp, hop, hlv, hcv, hrun], World.grownBy_alloc w _ none, ?_, fun u hu => ?_, fun j a u ha hu => ?_⟩
            · refine ⟨by rw [hlen, List.length_replicate], .inr ⟨w.heap.size, n, _, by rw [List.length_replicate], Nat.le_refl _, heap_alloc_new w _, by rw [List.length_replicate]; exact Nat.le_refl _, by unfold maxLen; omega, by simpa using hlen, ?_⟩⟩
              rw [List.length_replicate, List.toList_toArray, List.take_of_length_le (by omega)]
            · obtain ⟨p, hp⟩ := List.mem_iff_getElem?.1 hu
              exact hrep.2.1 p u (by simpa using hp)
            · exact hrep.2.2 j a u ha (by simpa using hu)
          · rintro y nb ⟨V', rfl, rfl⟩
            refine ⟨fun id y hy => ?_, ?_⟩
            · obtain ⟨rfl, rfl⟩ := by simpa using hy
              exact hbn
            · have := kk V'
              rw [← LS.fs_setB, ← LS.fs_put] at this
              rw [hd, List.length_replicate]
              exact this
        · cases h
      · cases h
    · cases h
  · cases h
end Go.Proofs.YtlcepboedifniaaGreatDoor

set_option linter.unusedVariables false
set_option linter.unusedSimpArgs false
namespace Go.Proofs.YtlcepboedifniaaGreatDoor
open Go Go.RowKit Copyhold Copyhold.Disk
theorem pad_spec (s : Txt) (h : s.length ≤ 64) : FSpec Tryz.prog 58 [aS s] (aS (padL s)) := fspec_plain (fun _ _ => .val _) fun D w vs hv => by
  obtain ⟨u, rfl, hu⟩ := ra_one hv
  cases hu
  exact disk_pad s w h
theorem rule_slot {P : Program} {t : Nat} {x y : AV} (h : Sub x y) : ∀ (c : Cx) (Q : Exit → FS → Prop) (code : Code) (s : LS), (fun s : LS => some (lget s.tm t)) s = some x → (∀ a : Unit, AWp c P code Q (s.put (some t) y).fs) → AWp c P code Q s.fs := by
  intro c Q code s hx kk
  refine AWp.weaken (s' := (s.put (some t) y).fs) ⟨fun u => ?_, fun id y' hy => ⟨y', hy, SubB.refl _⟩⟩ (kk ())
  have hx' : lget s.tm t = x := Option.some.inj hx
  show Sub (lget s.tm u) (lget (lput s.tm t y) u)
  rw [lget_lput]
  split
  · rename_i e; subst e; rw [hx']; exact h
  · exact Sub.refl _
theorem sub_rs {id m n cap b k : Nat} {V : Value} (hV : V = .slice (some ⟨b, 0, none⟩) m cap) (hm : m = n) (h : 0 < n) : Sub (.rw id V n) (.rs id V k 0) := fun D w v hv => by
  cases hm
  subst hV
  cases hv
  have := Ra.rs (D := D) (w := w) id b m cap k 0 h
  simpa using this
theorem sub_rw {id m n cap b k : Nat} {V : Value} (hV : V = .slice (some ⟨b, 0, none⟩) m cap) (hm : m = n) : Sub (.rs id V k 0) (.rw id V n) := fun D w v hv => by
  cases hm
  subst hV
  cases hv
  have := Ra.rw (D := D) (w := w) id m cap (some ⟨b, 0, none⟩)
  simpa using this
def dputW (d : Dsk) (a : Int) (s : Txt) : Dsk := ⟨d.kept, d.w ++ [(a, padL s)], false⟩
set_option maxRecDepth 100000 in
set_option maxHeartbeats 4000000 in
theorem there_spec (d : Dsk) (i : Int) : FSpec Tryz.prog 69 [.agg [.sl 1 false (d.kept.map txA), .sl 2 false (d.w.map putA), aB d.off], aI i] (aB (dP (0 ≤ i ∧ i < d.kept.length))) := by
  exact spec_vd Tryz.func69 (let R : AV := aB (dP (0 ≤ i ∧ i < d.kept.length));
 .new fun b1 => .r 1 <| .r 3 <| .bd 7 (i ≥ 0) (fun p1 => .u 4 [b1] <|
 .lm 11 d.kept txA <| .r 3 <| .f R [] (aB (decide (i < (d.kept.length : Int)))) (by
    refine sE ?_
    simp only [decide_eq_true_eq]
    omega))
 <| fun p1 => .r 7 <| .f R [] (aB false) (by exact sF (fun h => by omega)))
set_option maxRecDepth 100000 in
set_option maxHeartbeats 4000000 in
theorem refused_spec (d : Dsk) (i : Int) (ho : d.off = false) (hi : 0 ≤ i ∧ i < d.kept.length) : FSpec Tryz.prog 57 [.agg [.sl 1 false (d.kept.map txA), .sl 2 false (d.w.map putA), aB d.off], aI i] (aI 0) := by
  exact spec_vd Tryz.func57 (
 .new fun b1 => .r 1 <| .r 1 <| .u 3 [b1] <|
 .is 6 (show (d.off) = false from ho) <| .u 2 [b1] <|
 .call (there_spec d i) <|
 .r 2 <| .is 9 (show (!(dP (0 ≤ i ∧ i < d.kept.length))) = false from (by rw [show (dP (0 ≤ i ∧ i < d.kept.length)) = true from (dP_true.2 hi)]; rfl)) <| .r 1 <| .fi (aI 0) [])
def zP (_ : Unit) : List AV := [aI 0, aS []]
theorem row_eq (d : Dsk) : (List.replicate (d.w.length + 1) [aI 0, aS ([])]).take 0 ++ d.w.map putA ++ (List.replicate (d.w.length + 1) [aI 0, aS ([])]).drop (0 + (d.w.map putA).length) = d.w.map putA ++ [[aI 0, aS []]] := by
  rw [List.take_zero, List.nil_append, Nat.zero_add, List.length_map, List.drop_replicate]
  simp
theorem row_last (d : Dsk) : ((List.replicate (d.w.length + 1) [aI 0, aS ([])]).take 0 ++ d.w.map putA ++ (List.replicate (d.w.length + 1) [aI 0, aS ([])]).drop (0 + (d.w.map putA).length))[d.w.length]? = some (zP ()) := by
  rw [row_eq, List.getElem?_append_right (by simp)]
  simp [zP]
set_option maxRecDepth 100000 in
set_option maxHeartbeats 4000000 in
theorem write_spec (d : Dsk) (a : Int) (s : Txt) (ho : d.off = false) (ha : 0 ≤ a ∧ a < d.kept.length) (hs : s.length ≤ 64) (hw : d.w.length ≤ 1000000) : FSpec Tryz.prog 50 [.agg [.sl 1 false (d.kept.map txA), .sl 2 false (d.w.map putA), aB d.off], aI a, aS s] (.tup [.agg (dskA (dputW d a s)), aI 0]) := by
  exact spec_vd Tryz.func50 (
 .new fun b1 => .new fun b2 => .r 1 <| .u 2 [b1] <|
 .call (refused_spec d a ho ha) <|
 .r 1 <| .r 2 <| .bn 14 0 0 (fun p1 => .u 4 [b1, b2] <|
 .f (.tup [.agg (dskA (dputW d a s)), aI 0]) [b2] (.tup [.agg [.sl 1 false (d.kept.map txA), .sl 2 false (d.w.map putA), aB d.off], aI 0]) (by first | exact absurd rfl p1 | exact Sub.tups ⟨Sub.aggs ⟨Sub.refl _, Sub.of_eq (congrArg (AV.sl 2 false) (by rw [row_eq]; simp [dputW, putA, zP, List.set_append])), Sub.refl _, trivial⟩, Sub.refl _, trivial⟩))
 <| fun p1 => .r 3 <| .is 19 (show (decide (((s).length : Int) > 64)) = false from (decide_eq_false (by omega))) <| .u 3 [b1] <|
 .lm 23 d.w putA <| .run 1 [rng .i64 ((d.w.length : Int) + 1)] ⟨rng64 (by omega) (by omega), trivial⟩ <|
 .op (mkN Tryz.prog) (23, (d.w.length : Int) + 1, (d.w.length : Int) + 1, 78, [aI 0, aS ([])], 25) (fun (V : Value) σ => (σ.put (some 25) (.rw 25 V (d.w.length + 1))).setB 25 (.row V 78 2 (List.replicate (d.w.length + 1) [aI 0, aS ([])]))) (rule_mkN (d.w.length + 1) 24 (by kernel_rfl) (by omega) (by omega) (by omega)) fun V1 =>
 .r 1 <| .st (rowR 25) (V1, 78, 2, List.replicate (d.w.length + 1) [aI 0, aS ([])]) (fun _ σ => σ) (rule_shape 25 (by first | omega | (simp only [List.length_append, List.length_take, List.length_drop, List.length_replicate, List.length_map]; omega))) fun a3r =>
 .st (fun s => some (lget s.tm 9)) (.rw 25 V1 (d.w.length + 1)) (fun (_ : Unit) σ => σ.put (some 9) (.rs 25 V1 2 0)) (rule_slot (sub_rs (k := 2) a3r.2.1 (by simp) (by first | omega | (simp only [List.length_append, List.length_take, List.length_drop, List.length_replicate, List.length_map]; omega)))) fun _ =>
 .u 3 [b1] <|
 .op (cpR Tryz.prog) (25, V1, 2, 0, V1, 78, 2, List.replicate (d.w.length + 1) [aI 0, aS ([])], 2, d.w.map putA, 2, some 29) (fun (_ : Unit) σ => (σ.put (some 29) (aI ((d.w.map putA).length : Int))).setB 25 (.row V1 78 2 ((List.replicate (d.w.length + 1) [aI 0, aS ([])]).take 0 ++ (d.w.map putA) ++ (List.replicate (d.w.length + 1) [aI 0, aS ([])]).drop (0 + (d.w.map putA).length)))) (rule_cpR (by first | omega | (simp only [List.length_append, List.length_take, List.length_drop, List.length_replicate, List.length_map]; omega))) fun _ =>
 .st (rowR 25) (V1, 78, 2, (List.replicate (d.w.length + 1) [aI 0, aS ([])]).take 0 ++ (d.w.map putA) ++ (List.replicate (d.w.length + 1) [aI 0, aS ([])]).drop (0 + (d.w.map putA).length)) (fun _ σ => σ) (rule_shape 25 (by first | omega | (simp only [List.length_append, List.length_take, List.length_drop, List.length_replicate, List.length_map]; omega))) fun a4r =>
 .st (fun s => some (lget s.tm 9)) (.rs 25 V1 2 0) (fun (_ : Unit) σ => σ.put (some 9) (.rw 25 V1 (d.w.length + 1))) (rule_slot (sub_rw a4r.2.1 (by rw [row_eq]; simp))) fun _ =>
 .ord [0, 1, 2, 3, 4, 5, 6, 7, 8, 9] <| .u 4 [b1] <|
 .lm 33 d.w putA <| .r 2 <| .call (pad_spec s hs) <|
 .r 1 <| .op (ixR Tryz.prog) (25, V1, (d.w.length + 1), 2, (d.w.length : Int), some 38) (fun (_ : Unit) σ => σ.put (some 38) (.ep 25 V1 2 d.w.length 0)) (rule_ixR d.w.length a4r.2.1 (by omega) (by first | omega | (simp only [List.length_append, List.length_take, List.length_drop, List.length_replicate, List.length_map]; omega))) fun _ =>
 .op (stR Tryz.prog) (25, V1, 2, d.w.length, 0, V1, 78, 2, (List.replicate (d.w.length + 1) [aI 0, aS ([])]).take 0 ++ (d.w.map putA) ++ (List.replicate (d.w.length + 1) [aI 0, aS ([])]).drop (0 + (d.w.map putA).length), [aI a, aS (padL s)], none) (fun (_ : Unit) σ => (σ.put (none) .any).setB 25 (.row V1 78 2 (((List.replicate (d.w.length + 1) [aI 0, aS ([])]).take 0 ++ (d.w.map putA) ++ (List.replicate (d.w.length + 1) [aI 0, aS ([])]).drop (0 + (d.w.map putA).length)).set d.w.length ((zP ()).take 0 ++ [aI a, aS (padL s)] ++ (zP ()).drop (0 + [aI a, aS (padL s)].length))))) (rule_stR (zP ()) (row_last d) (Nat.le_of_ble_eq_true rfl)) fun _ =>
 .u 6 [b1, b2] <|
 .frz 25 [6, 7] [6] [V1 = V1, (d.w.length + 1) = (((List.replicate (d.w.length + 1) [aI 0, aS ([])]).take 0 ++ (d.w.map putA) ++ (List.replicate (d.w.length + 1) [aI 0, aS ([])]).drop (0 + (d.w.map putA).length)).set d.w.length ((zP ()).take 0 ++ [aI a, aS (padL s)] ++ (zP ()).drop (0 + [aI a, aS (padL s)].length))).length] ⟨rfl, (by first | rfl | (simp; done) | (simp; omega)), trivial⟩ <|
 .f (.tup [.agg (dskA (dputW d a s)), aI 0]) [b2] (.tup [.agg [.sl 1 false (d.kept.map txA), .sl 2 false (((List.replicate (d.w.length + 1) [aI 0, aS ([])]).take 0 ++ (d.w.map putA) ++ (List.replicate (d.w.length + 1) [aI 0, aS ([])]).drop (0 + (d.w.map putA).length)).set d.w.length ((zP ()).take 0 ++ [aI a, aS (padL s)] ++ (zP ()).drop (0 + [aI a, aS (padL s)].length))), aB false], aI 0]) (by first | exact absurd rfl p1 | exact Sub.tups ⟨Sub.aggs ⟨Sub.refl _, Sub.of_eq (congrArg (AV.sl 2 false) (by rw [row_eq]; simp [dputW, putA, zP, List.set_append])), Sub.refl _, trivial⟩, Sub.refl _, trivial⟩))
end Go.Proofs.YtlcepboedifniaaGreatDoor
