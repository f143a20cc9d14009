/- disk.Read: it answers as the document says; old memory is as it was. -/
import Derived.Test.YtahnkkmngbckdaaDisk6
set_option linter.unusedVariables false
set_option linter.unusedSimpArgs false
namespace Copyhold.Disk
/-- the last write at a place -/
def lastL (a : List UInt8) (ws : List PutW) : List UInt8 := ws.foldl (fun _ x => x.2) a
theorem lastL_snoc (a : List UInt8) (ws : List PutW) (x : PutW) : lastL a (ws ++ [x]) = x.2 := by simp [lastL]
theorem read_last (n : Nat) (at' : Int) (h0 : 0 ≤ at') (ws : List PutW) : ∀ (l : List (List UInt8)) (i : Nat) (a : List UInt8), at'.toNat < l.length → l[at'.toNat]? = some a →
    (doneL l (lets n (fun _ _ => true) i ws))[at'.toNat]? = some (lastL a (lets n (fun _ x => x.1 == at') i ws)) := by
  induction ws with
  | nil => intro l i a _ h; exact h
  | cons w ws ih =>
    intro l i a hl h
    simp only [lets, Bool.and_true]
    cases ht : thereB n w.1 with
    | false => simpa using ih l (i + 1) a hl h
    | true =>
      have hw := (thereB_iff _ _).1 ht
      simp only [if_true, Bool.true_and]
      by_cases he : w.1 = at'
      · have hb : (w.1 == at') = true := by simpa using he
        rw [if_pos hb]
        refine ih (l.set w.1.toNat w.2) (i + 1) w.2 (by simpa using hl) ?_
        rw [he, List.getElem?_set_self hl]
      · have hb : (w.1 == at') = false := by simpa using he
        rw [if_neg (by rw [hb]; decide)]
        refine ih (l.set w.1.toNat w.2) (i + 1) a (by simpa using hl) ?_
        rw [List.getElem?_set_ne (by omega), h]
end Copyhold.Disk
namespace Go.Proofs.Ytahnkkmngbckdaa
open Go.RowKit Go.Shelf Copyhold Copyhold.Disk
attribute [local go_sem] Oper.semAt_some

def pre_map {n : Nat} (ys : List (PutS n)) : List PutW := ys.map (·.1)
/-- a sector that is read, and why not -/
def readD (d : DiskW) (at' : Int) : List UInt8 × Int := if refusedD d.kept.length d.off at' = 0 then ((imageL d).getD at'.toNat [], 0) else ([], refusedD d.kept.length d.off at')
theorem refused_zero {n : Nat} {off : Bool} {i : Int} (h : refusedD n off i = 0) : off = false ∧ 0 ≤ i ∧ i < n := by
  unfold refusedD at h
  cases off with
  | true => simp at h
  | false =>
    cases ht : thereB n i with
    | true => exact ⟨rfl, (thereB_iff _ _).1 ht⟩
    | false => rw [ht] at h; simp at h
theorem refused_bd (n : Nat) (off : Bool) (i : Int) : 0 ≤ refusedD n off i ∧ refusedD n off i ≤ 19 := by
  unfold refusedD
  split
  · omega
  · split <;> omega

set_option maxRecDepth 100000 in
set_option maxHeartbeats 8000000 in
theorem Read_in (n0 : Nat) (hn0 : 4 ≤ n0) (d : DiskW) (A : Option Addr) (c : Nat) (B : Option Addr) (eb : Nat) (at' : Int) (w : World) (hkr : Row w (.slice A d.kept.length c) (d.kept.map strV)) (hp : Puts w (.slice B d.w.length eb) d.w) (hok : OkD d)
    (hrz : refusedD d.kept.length d.off at' = 0) :
    CallsIn Fence.wide n0 Try.prog 15 #[.agg #[.slice A d.kept.length c, .slice B d.w.length eb, .bool d.off], .int .i64 at'] w fun e w' => e = .returned (.tuple #[.string ⟨(readD d at').1.toArray⟩, .int .i64 (readD d at').2]) ∧ Below w.heap.size w w' := by
  obtain ⟨kept, ws, off⟩ := d
  obtain ⟨hn, hkl, hpl, hm⟩ := hok
  simp only at hkr hp hn hkl hpl hm hrz ⊢
  obtain ⟨rfl, hat0, hat1⟩ := refused_zero hrz
  obtain ⟨q, rfl⟩ := Int.eq_ofNat_of_zero_le hat0
  have hq : q < kept.length := by omega
  have hrd : readD ⟨kept, ws, false⟩ (q : Int) = (lastL kept[q] (lets kept.length (fun _ x => x.1 == (q : Int)) 0 ws), 0) := by
    unfold readD
    rw [if_pos hrz]
    have := read_last kept.length (q : Int) hat0 ws kept 0 kept[q] (by simpa using hq) (by simp [hq])
    rw [Int.toNat_natCast] at this ⊢
    simp only [imageL, List.getD, this, Option.getD_some]
  rw [hrd]
  have h1 : 1 ≤ n0 := by omega
  have h13 : 1 ≤ n0 - 1 - 1 := by omega
  obtain ⟨n, hnn⟩ : ∃ n, n = kept.length := ⟨_, rfl⟩
  have HREF := Lib.hid (fun W => disk_refused A B kept.length ws.length c eb false (q : Int) W (by omega))
  rw [hrz] at HREF
  obtain ⟨V0, hV0⟩ : ∃ W, W = (w.alloc (.cells #[.slice A kept.length c, .slice B ws.length eb, .bool false] 25)).alloc (.cells #[.int .i64 (q : Int)] 3) := ⟨_, rfl⟩
  have hb0 : Below w.heap.size w V0 := by rw [hV0]; exact ((Below.refl _ _).alloc (Nat.le_refl _) _).alloc (by simp) _
  have hs0 : V0.heap.size = w.heap.size + 2 := by rw [hV0]; simp
  have td0 : TBox V0 w.heap.size 25 #[.slice A kept.length c, .slice B ws.length eb, .bool false] := by rw [hV0]; exact (TBox.new _ _ _).alloc _
  have ta0 : TBox V0 (w.heap.size + 1) 3 #[.int .i64 (q : Int)] := by
    rw [hV0]
    have := TBox.new (w.alloc (.cells #[.slice A kept.length c, .slice B ws.length eb, .bool false] 25)) 3 #[.int .i64 (q : Int)]
    rw [World.size_alloc] at this
    exact this
  obtain ⟨b, off', rfl, hbk, _, hcs⟩ := hkr.at q (x := strV kept[q]) (by simp [hq])
  have hsrc : w.cell? ⟨b, off' + q, none⟩ = some (.string ⟨(kept[q]).toArray⟩) := hcs q (strV kept[q]) (by simp [hq])
  have HV0 := Lib.hid hV0
  clear hV0 hcs hrd hrz
  generalize kept[q] = a at *
  refine callsIn_of_wp_marks Try.func15 rfl trivial ?_ rfl
  simp only [Try.ntmps15, List.size_toArray, List.length_cons, List.length_nil, Nat.reduceAdd, Nat.reduceSub, Array.replicate_succ, Array.replicate_zero, List.push_toArray, List.append_toArray, List.nil_append, List.cons_append]
  gi_wp2_with (first | (refine ⟨trivial, ?_⟩; gi_at_call 32; rw [← HV0.out]; refine (callsIn_wide.2 (HREF.out _)).mono ?_; rintro e W1 ⟨rfl, hb1⟩; have td1 := td0.below hb1; have ta1 := ta0.below hb1; have c1a : W1.cell? ⟨w.heap.size, 0, none⟩ = some (.slice (some ⟨b, off', none⟩) kept.length c) := td1.cell 0; have c1b : W1.cell? ⟨w.heap.size, 1, none⟩ = some (.slice B ws.length eb) := td1.cell 1; have c1c : W1.cell? ⟨w.heap.size, 2, none⟩ = some (.bool false) := td1.cell 2; have c1l := td1.lt; have c1d : W1.cell? ⟨w.heap.size + 1, 0, none⟩ = some (.int .i64 (q : Int)) := ta1.cell 0; have c1m := ta1.lt; have c1s : W1.cell? ⟨b, off' + q, none⟩ = some (.string ⟨a.toArray⟩) := (hb1.cell (p := ⟨b, off' + q, none⟩) (by have := hb0.size; simp; omega)).trans ((hb0.cell (p := ⟨b, off' + q, none⟩) hbk).trans hsrc)) | (refine ⟨trivial, ?_⟩; gi_at_call 33; refine (writes_in (n0 - 1) (some ⟨b, off', none⟩) B kept.length ws.length c eb false _ ⟨_, _, rfl⟩ _).mono ?_; rintro e w' ⟨rfl, rfl⟩))
  obtain ⟨w0, hw0⟩ : ∃ W, W = ((W1.alloc (.cells #[.string ⟨a.toArray⟩] 9)).alloc (.cells #[.slice (some ⟨b, off', none⟩) kept.length c, .slice B ws.length eb, .bool false] 25)).alloc (.cells #[.func (.func 34) #[] #[.pointer (some ⟨w.heap.size + 1, 0, none⟩)]] 67) := ⟨_, rfl⟩
  rw [← hw0]
  have t70 : TBox w0 W1.heap.size 9 #[.string ⟨a.toArray⟩] := by rw [hw0]; exact ((TBox.new _ _ _).alloc _).alloc _
  have tb0 : TBox w0 (W1.heap.size + 1) 25 #[.slice (some ⟨b, off', none⟩) kept.length c, .slice B ws.length eb, .bool false] := by
    rw [hw0]
    have := TBox.new (W1.alloc (.cells #[.string ⟨a.toArray⟩] 9)) 25 #[.slice (some ⟨b, off', none⟩) kept.length c, .slice B ws.length eb, .bool false]
    rw [World.size_alloc] at this
    exact this.alloc _
  have tl0 : TBox w0 (W1.heap.size + 1 + 1) 67 #[.func (.func 34) #[] #[.pointer (some ⟨w.heap.size + 1, 0, none⟩)]] := by
    rw [hw0]
    have := TBox.new ((W1.alloc (.cells #[.string ⟨a.toArray⟩] 9)).alloc (.cells #[.slice (some ⟨b, off', none⟩) kept.length c, .slice B ws.length eb, .bool false] 25)) 67 #[.func (.func 34) #[] #[.pointer (some ⟨w.heap.size + 1, 0, none⟩)]]
    rw [World.size_alloc, World.size_alloc] at this
    exact this
  have hbz : Below W1.heap.size W1 w0 := by rw [hw0]; exact (((Below.refl _ _).alloc (Nat.le_refl _) _).alloc (by simp) _).alloc (by simp; omega) _
  have hz : w0.heap.size = W1.heap.size + 1 + 1 + 1 := by rw [hw0]; simp
  have hbw1 : Below w.heap.size w W1 := below_trans hb0 hb1 hb0.size
  have hbw0 : Below w.heap.size w w0 := below_trans hbw1 hbz hbw1.size
  have ta1 := (ta0.below hb1).below hbz
  have hat : At (fun k => k < w0.heap.size ∧ k ≠ W1.heap.size) (.slice B ws.length eb) := (Sl.lies hp).mono fun b hb => by have := hbw1.size; omega
  have HSTOP := Lib.hid (stops_read (n0 - 1) (by omega) (fun k => k < w0.heap.size ∧ k ≠ W1.heap.size) (W1.heap.size + 1) (W1.heap.size + 1 + 1) (some ⟨b, off', none⟩) B c eb kept.length ws false (w.heap.size + 1) (fun _ x => x.1 == (q : Int)) hn hpl hm w0 tb0 (by omega) tl0 (by omega) (hp.below hbw0) hat
    (fun W hW => let_read (w.heap.size + 1) (q : Int) _ W (ta1.keepD hW ⟨by omega, by omega⟩) ⟨by omega, by omega⟩))
  have HWL := Lib.hid (show w.heap.size ≤ W1.heap.size from hbw1.size)
  have HBW0 := Lib.hid hbw0
  have HT70 := Lib.hid t70
  clear hw0 t70 tb0 tl0 hbz hz hbw1 hbw0 hat ta1 c1a c1b c1c c1l c1d c1m c1s hb1 hkr hp td0 ta0 hsrc
  refine wpIn_rangeFunc_ownG rfl h1 (gf := 40) (lb := #[.pointer (some ⟨W1.heap.size + 1, 0, none⟩), .pointer (some ⟨W1.heap.size + 1 + 1, 0, none⟩)]) rfl trivial (enters_of Try.func40 (by kernel_rfl) rfl)
    HSTOP.out KeepD.trans (fun W l o o' hl _ _ _ => KeepD.putObj (B := w0.heap.size) (fun k hk => hk.1) W l o' hl) (Below.refl _ _) (fun _ => rfl)
    (fun (pre : List (PutS kept.length)) W => TBox W W1.heap.size 9 #[.string ⟨(lastL a (pre.map (·.1))).toArray⟩] ∧ Below w.heap.size w W)
    (fun _ _ _ => False)
    (OwnFrom.and (Own.from (tbox_own _ _ (fun (pre : List (PutS kept.length)) => #[.string ⟨(lastL a (pre.map (·.1))).toArray⟩])) _) (ownFrom_below (Nat.le_refl _) HBW0.out.size))
    (fun _ _ _ _ _ hs _ _ => hs)
    ⟨HT70.out, HBW0.out⟩
    (fun (x : PutS kept.length) => { tmps := #[.agg #[.slice (some ⟨b, off', none⟩) kept.length c, .slice B ws.length eb, .bool false], .int .i64 (q : Int), .pointer (some ⟨w.heap.size, 0, none⟩), .pointer (some ⟨w.heap.size + 1, 0, none⟩), .string ⟨#[]⟩, .int .i64 0, .int .i64 0, .pointer (some ⟨W1.heap.size, 0, none⟩), undef, .string ⟨x.1.2.toArray⟩,
      .agg #[.slice (some ⟨b, off', none⟩) kept.length c, .slice B ws.length eb, .bool false], .int .i64 (q : Int), .int .i64 0, .int .i64 0, .bool false, undef, .pointer (some ⟨w.heap.size, 0, none⟩), .slice (some ⟨b, off', none⟩) kept.length c, .int .i64 (q : Int), .pointer (some ⟨b, off' + q, none⟩), .string ⟨a.toArray⟩,
      .agg #[.slice (some ⟨b, off', none⟩) kept.length c, .slice B ws.length eb, .bool false], .func (.func 34) #[] #[.pointer (some ⟨w.heap.size + 1, 0, none⟩)], .func (.func 40) #[] #[.pointer (some ⟨W1.heap.size + 1, 0, none⟩), .pointer (some ⟨W1.heap.size + 1 + 1, 0, none⟩)], .int .i64 x.1.1, .string ⟨x.1.2.toArray⟩, undef, undef], defers := [] }) ?assign ?body ?done ?stop
  case assign =>
    intro l x W K hK
    gi_wp2
    exact hK
  case body =>
    rintro l pre ⟨⟨i, s⟩, hx⟩ W ⟨ht, hB⟩ hlt
    have c7 : W.cell? ⟨W1.heap.size, 0, none⟩ = some (.string ⟨(lastL a (pre.map (·.1))).toArray⟩) := ht.cell 0
    have f7 := ht.free 0
    have hst := ht.set 0 (.string ⟨s.toArray⟩)
    have hnew : lastL a ((pre ++ [(⟨(i, s), hx⟩ : PutS kept.length)]).map (fun x : PutS kept.length => x.1)) = s := by rw [List.map_append]; exact lastL_snoc _ _ _
    have HST := Lib.hid (show TBox (W.setCell ⟨W1.heap.size, 0, none⟩ (.string ⟨s.toArray⟩)) W1.heap.size 9 #[.string ⟨(lastL a ((pre ++ [(⟨(i, s), hx⟩ : PutS kept.length)]).map (fun x : PutS kept.length => x.1))).toArray⟩] from by rw [hnew]; exact hst)
    have HB := Lib.hid hB
    have hsz := HT70.out.lt
    have hs1 := HBW0.out.size
    clear hst hnew ht hB
    gi_wp2
    exact ⟨(KeepsOthers.setCell _ _ _).from _, ⟨by simp, fun j hj _ => heap_setCell_far _ _ _ _ (by simpa using hj.2)⟩, HST.out, HB.out.setCell (p := ⟨W1.heap.size, 0, none⟩) (by have := hb0.size; have := HWL.out; simp; omega) _⟩
  case done =>
    rintro D ys W hD hys ⟨ht, hB⟩ hK
    have c7 : W.cell? ⟨W1.heap.size, 0, none⟩ = some (.string ⟨(lastL a (pre_map ys)).toArray⟩) := ht.cell 0
    have hfin : Below w.heap.size w (W.putObj D (.deferred none)) := hB.trans (belowK_b (w := w) (Nat.le_refl _) W D _ _ (by have := HBW0.out.size; omega) hK rfl rfl)
    rw [show pre_map ys = lets kept.length (fun _ x => x.1 == (q : Int)) 0 ws from hys] at c7
    have HFIN := Lib.hid hfin
    have HK := Lib.hid hK
    generalize hzz : lastL a (lets kept.length (fun _ x => x.1 == (q : Int)) 0 ws) = z at c7
    have HZZ := Lib.hid hzz
    clear hfin hK ht hB hzz
    gi_wp2
    refine ⟨by simp, .inl ⟨_, _, rfl, run_takeDeferred HK.out, ?_⟩⟩
    refine ⟨.tuple #[.string ⟨z.toArray⟩, .int .i64 0], ?_, by rw [HZZ.out], HFIN.out⟩
    simp [results, Try.f15, go_sem]
  case stop =>
    rintro D c pre W _ _ h _
    exact h.elim

set_option maxHeartbeats 1000000 in
theorem disk_Read (d : DiskW) (v : Value) (at' : Int) (w : World) (hv : DiskV w v d) (hok : OkD d) :
    Calls Try.prog 15 #[v, .int .i64 at'] w fun e w' => e = .returned (.tuple #[.string ⟨(readD d at').1.toArray⟩, .int .i64 (readD d at').2]) ∧ Below w.heap.size w w' := by
  obtain ⟨A, c, B, eb, rfl, hk, hp⟩ := hv
  by_cases hz : refusedD d.kept.length d.off at' = 0
  · exact callsIn_wide.1 (Read_in 4 (Nat.le_refl _) d A c B eb at' w hk hp hok hz)
  · have hrd : readD d at' = ([], refusedD d.kept.length d.off at') := by unfold readD; rw [if_neg hz]
    rw [hrd]
    have HREF := Lib.hid (fun W => disk_refused A B d.kept.length d.w.length c eb d.off at' W hok.1)
    have hne : (refusedD d.kept.length d.off at' != 0) = true := by simpa using hz
    have hbd := refused_bd d.kept.length d.off at'
    generalize refusedD d.kept.length d.off at' = r at *
    clear hk hp hrd
    go_enter Try.func15, Try.ntmps15
    go_wp2_with fail
    refine (HREF.out _).mono ?_
    rintro e w1 ⟨rfl, hb⟩
    go_wp2_with fail
    refine bodyPost_ret (v := .tuple #[.string ⟨#[]⟩, .int .i64 r]) (by simp [results, Try.results15, go_sem]) rfl ?_
    exact ⟨rfl, below_trans (((Below.refl _ _).alloc (Nat.le_refl _) _).alloc (by simp) _) hb (by simp; omega)⟩
end Go.Proofs.Ytahnkkmngbckdaa
