/- copyholdref04.Flush, Read, Write: the document's own answers, of disks that are right; old memory is as it was. -/
import Derived.Test.YtahnkkmngbckdaaDisk11
set_option linter.unusedVariables false
set_option linter.unusedSimpArgs false
namespace Go.Proofs.Ytahnkkmngbckdaa
open Go.RowKit Copyhold Copyhold.Disk

set_option maxHeartbeats 1000000 in
theorem ref04_Flush (d : DiskW) (v : Value) (w : World) (hv : DiskV w v d) (hok : OkD d) (hr : Right d) : Calls Try.prog 26 #[v] w (RetDisk w (flushD d)) := by
  have hv0 := hv
  obtain ⟨A, c, B, eb, rfl, hk, hp⟩ := hv
  cases hoff : d.off with
  | true =>
    have hq : flushD d = (d, 19) := by unfold flushD; rw [hoff]; rfl
    rw [hq]
    rw [hoff] at hv0
    obtain ⟨W0, hW0⟩ : ∃ W, W = (w.alloc (.cells #[.slice A d.kept.length c, .slice B d.w.length eb, .bool true] 25)).alloc (.cells #[.slice none 0 0, .slice none 0 0, .bool false] 25) := ⟨_, rfl⟩
    have hb0 : Below w.heap.size w W0 := by rw [hW0]; exact ((Below.refl _ _).alloc (Nat.le_refl _) _).alloc (by simp) _
    have HV := Lib.hid hv0
    clear hv0 hk hp hq hoff hW0 hb0 W0
    go_enter Try.func26, Try.ntmps26
    go_wp2_with fail
    have hb : Below w.heap.size w ((w.alloc (.cells #[.slice A d.kept.length c, .slice B d.w.length eb, .bool true] 25)).alloc (.cells #[.slice A d.kept.length c, .slice B d.w.length eb, .bool true] 25)) :=
      ((Below.refl _ _).alloc (Nat.le_refl _) _).alloc (by simp) _
    refine bodyPost_ret (v := .tuple #[.agg #[.slice A d.kept.length c, .slice B d.w.length eb, .bool true], .int .i64 19]) (by simp [results, Try.results26, go_sem]) rfl ⟨_, rfl, HV.out.below hb, hb⟩
  | false =>
    have hq : flushD d = (⟨imageL d, [], false⟩, 0) := by unfold flushD; rw [hoff]; rfl
    rw [hq]
    rw [hoff] at hv0
    obtain ⟨W0, hW0⟩ : ∃ W, W = (w.alloc (.cells #[.slice A d.kept.length c, .slice B d.w.length eb, .bool false] 25)).alloc (.cells #[.slice none 0 0, .slice none 0 0, .bool false] 25) := ⟨_, rfl⟩
    have hb0 : Below w.heap.size w W0 := by rw [hW0]; exact ((Below.refl _ _).alloc (Nat.le_refl _) _).alloc (by simp) _
    have HR0 := Lib.hid (show TBox W0 (w.heap.size + 1) 25 #[.slice none 0 0, .slice none 0 0, .bool false] from by
      rw [hW0]
      have := TBox.new (w.alloc (.cells #[.slice A d.kept.length c, .slice B d.w.length eb, .bool false] 25)) 25 #[.slice none 0 0, .slice none 0 0, .bool false]
      rw [World.size_alloc] at this
      exact this)
    have hs0 : W0.heap.size = w.heap.size + 2 := by rw [hW0]; simp
    have HI := Lib.hid (ref04_Image d _ W0 (hv0.below hb0) hok hr)
    have HW := Lib.hid hW0
    have HB0 := Lib.hid hb0
    have HS0 := Lib.hid hs0
    generalize imageL d = im at *
    clear hv0 hk hp hq hoff hW0 hb0 hs0
    go_enter Try.func26, Try.ntmps26
    go_wp2_with fail
    rw [← HW.out]
    refine HI.out.mono ?_
    rintro e w1 ⟨v, rfl, hrr, hat, hb⟩
    obtain ⟨A', c', rfl⟩ := hrr.shape
    rw [List.length_map] at hrr hat ⊢
    have tr := HR0.out.below hb
    have r0 : w1.cell? ⟨w.heap.size + 1, 0, none⟩ = some (.slice none 0 0) := tr.cell 0
    have r1 : w1.cell? ⟨w.heap.size + 1, 1, none⟩ = some (.slice none 0 0) := tr.cell 1
    have r2 : w1.cell? ⟨w.heap.size + 1, 2, none⟩ = some (.bool false) := tr.cell 2
    have f0 := tr.free 0
    have f1 := tr.free 1
    have f2 := tr.free 2
    have HR := Lib.hid (And.intro hrr (And.intro hat hb))
    clear hrr hat hb tr
    go_wp2_with fail
    obtain ⟨hrr, hat, hb⟩ := HR.out
    have hs := HS0.out
    have hlt : ∀ b, W0.heap.size ≤ b → b ≠ w.heap.size + 1 := fun b hb => by omega
    have hr3 : Row (((w1.setCell ⟨w.heap.size + 1, 0, none⟩ (.slice A' im.length c')).setCell ⟨w.heap.size + 1, 1, none⟩ (.slice none 0 0)).setCell ⟨w.heap.size + 1, 2, none⟩ (.bool false)) (.slice A' im.length c') (im.map strV) :=
      Row.frame hrr hat (fun b hb _ => by rw [heap_setCell_far _ _ _ _ (hlt b hb), heap_setCell_far _ _ _ _ (hlt b hb), heap_setCell_far _ _ _ _ (hlt b hb)]) (by simp)
    refine bodyPost_ret (v := .tuple #[.agg #[.slice A' im.length c', .slice none 0 0, .bool false], .int .i64 0]) (by simp [results, Try.results26, go_sem, r0, r1, r2]) rfl ⟨_, rfl, DiskV.row hr3, ?_⟩
    exact (((below_trans HB0.out hb HB0.out.size).setCell (p := ⟨w.heap.size + 1, 0, none⟩) (by simp) _).setCell (p := ⟨w.heap.size + 1, 1, none⟩) (by simp) _).setCell (p := ⟨w.heap.size + 1, 2, none⟩) (by simp) _


set_option maxHeartbeats 4000000 in
theorem ref04_Read (d : DiskW) (v : Value) (at' : Int) (w : World) (hv : DiskV w v d) (hok : OkD d) (hr : Right d) :
    Calls Try.prog 16 #[v, .int .i64 at'] w fun e w' => e = .returned (.tuple #[.string ⟨(readD d at').1.toArray⟩, .int .i64 (readD d at').2]) ∧ Below w.heap.size w w' := by
  have hv0 := hv
  obtain ⟨A, c, B, eb, rfl, hk, hp⟩ := hv
  obtain ⟨hx1, hx2⟩ := hr.1
  cases hoff : d.off with
  | true =>
    have hs : readD d at' = ([], 19) := by unfold readD refusedD; rw [hoff]; rfl
    rw [hs]
    clear hs hv0 hk hp hok hr
    go_enter Try.func16, Try.ntmps16
    go_wp2_with fail
    refine bodyPost_ret (v := .tuple #[.string ⟨#[]⟩, .int .i64 19]) (by simp [results, Try.results16, go_sem]) rfl ⟨rfl, (Below.refl _ _).alloc (Nat.le_refl _) _⟩
  | false =>
    rw [hoff] at hv0
    rcases (show at' < 0 ∨ 0 ≤ at' ∧ (d.kept.length : Int) ≤ at' ∨ 0 ≤ at' ∧ at' < (d.kept.length : Int) from by omega) with q | ⟨q, q1⟩ | ⟨q, q1⟩
    · have ht : thereB d.kept.length at' = false := by unfold thereB; simp; omega
      have hs : readD d at' = ([], 6) := by unfold readD refusedD; rw [hoff, ht]; rfl
      rw [hs]
      clear hs hv0 hk hp hok hr ht
      go_enter Try.func16, Try.ntmps16
      go_wp2_with fail
      refine bodyPost_ret (v := .tuple #[.string ⟨#[]⟩, .int .i64 6]) (by simp [results, Try.results16, go_sem]) rfl ⟨rfl, (Below.refl _ _).alloc (Nat.le_refl _) _⟩
    · have ht : thereB d.kept.length at' = false := by unfold thereB; simp; omega
      have hs : readD d at' = ([], 6) := by unfold readD refusedD; rw [hoff, ht]; rfl
      rw [hs]
      clear hs hv0 hk hp hok hr ht
      go_enter Try.func16, Try.ntmps16
      go_wp2_with fail
      refine bodyPost_ret (v := .tuple #[.string ⟨#[]⟩, .int .i64 6]) (by simp [results, Try.results16, go_sem]) rfl ⟨rfl, (Below.refl _ _).alloc (Nat.le_refl _) _⟩
    · have ht : thereB d.kept.length at' = true := (thereB_iff _ _).2 ⟨q, q1⟩
      obtain ⟨k, rfl⟩ := Int.eq_ofNat_of_zero_le q
      have hil := image_len d
      have hs : readD d (k : Int) = ((imageL d).getD k [], 0) := by unfold readD refusedD; rw [hoff, ht]; rfl
      rw [hs]
      have hb0 : Below w.heap.size w (w.alloc (.cells #[.slice A d.kept.length c, .slice B d.w.length eb, .bool false] 25)) := (Below.refl _ _).alloc (Nat.le_refl _) _
      have HI := Lib.hid (ref04_Image d _ _ (hv0.below hb0) hok hr)
      generalize imageL d = im at *
      have hki : k < im.length := by omega
      have hk2 : (k : Int) < (im.length : Int) := by omega
      rw [show im.getD k [] = im[k] from by simp [List.getD, hki]]
      clear hs hv0 hk hp hok hr ht hb0
      go_enter Try.func16, Try.ntmps16
      go_wp2_with fail
      refine HI.out.mono ?_
      rintro e w1 ⟨v, rfl, hr, hat, hb⟩
      obtain ⟨A', c', rfl⟩ := hr.shape
      rw [List.length_map] at hr hat ⊢
      obtain ⟨b, off', rfl, hbk, _, hcs⟩ := hr.at k (x := strV im[k]) (by simp [hki])
      have hc : w1.cell? ⟨b, off' + k, none⟩ = some (.string ⟨(im[k]).toArray⟩) := hcs k (strV im[k]) (by simp [hki])
      have HB := Lib.hid hb
      clear hr hat hcs hb
      generalize hz : im[k] = z at *
      have HZ := Lib.hid hz
      clear hz
      go_wp2_with fail
      refine bodyPost_ret (v := .tuple #[.string ⟨z.toArray⟩, .int .i64 0]) (by simp [results, Try.results16, go_sem]) rfl ⟨by rw [HZ.out], below_trans ((Below.refl _ _).alloc (Nat.le_refl _) _) HB.out (by simp)⟩

/-- append([]api.Put{}, l...) -/
theorem copy_puts (W : World) (l : List PutW) (sv : Value) (hr : Puts W sv l) (hl : l.length ≤ 1000000) :
    ∃ v' w', (Builtin.append_ #[23, 23] 23 #[.slice (some ⟨W.heap.size, 0, none⟩) 0 0, sv]).run Try.prog (W.alloc (.cells #[] 56)) = .ok v' w' ∧ w'.ownsRow W.heap.size 56 2 v' l.length (l.flatMap putC) ∧ Below W.heap.size W w' := by
  have hown0 : (W.alloc (.cells #[] 56)).ownsRow W.heap.size 56 2 (.slice (some ⟨W.heap.size, 0, none⟩) 0 0) 0 [] :=
    ⟨by simp, .inr ⟨W.heap.size, 0, #[], rfl, Nat.le_refl _, heap_alloc_new W _, Nat.le_refl _, by simp [maxLen], by simp, by simp⟩⟩
  have hsl := hr.below ((Below.refl W.heap.size W).alloc (Nat.le_refl _) (.cells #[] 56))
  obtain ⟨v', w', hrun, h1, h2, _⟩ := append_sl putElem (W.alloc (.cells #[] 56)) W.heap.size 23 _ 0 [] hown0 sv l.length (l.flatMap putC) hsl (putC_one l) (by unfold maxLen; omega) (by omega) (by simp)
  rw [Nat.zero_add, List.nil_append] at h1
  exact ⟨v', w', hrun, h1, ((Below.refl _ _).alloc (Nat.le_refl _) _).grown h2 (by simp) (fun g hg => by simp [Value.ownBlock] at hg; omega)⟩
/-- a write more -/
theorem app_put {w3 : World} {base : Nat} {sv : Value} {l : List PutW} (p : PutW) (ho : w3.ownsRow base 56 2 sv l.length (l.flatMap putC)) (hn : l.length ≤ 1000000) (hbase : base ≤ w3.heap.size) :
    ∃ v' w4, (Builtin.append_ #[23, 23] 23 #[sv, .slice (some ⟨w3.heap.size, 0, none⟩) 1 1]).run Try.prog (w3.alloc (.cells #[.int .i64 p.1, .string ⟨p.2.toArray⟩] 56)) = .ok v' w4 ∧ w4.ownsRow base 56 2 v' (l.length + 1) ((l ++ [p]).flatMap putC) ∧
      (∀ b, b < base → w4.heap[b]? = w3.heap[b]?) ∧ w3.heap.size ≤ w4.heap.size ∧ (∀ (B : Nat) (a : World), Below B a w3 → B ≤ base → Below B a w4) := by
  have hsl : Sl (w3.alloc (.cells #[.int .i64 p.1, .string ⟨p.2.toArray⟩] 56)) 2 (.slice (some ⟨w3.heap.size, 0, none⟩) 1 1) 1 (putC p) :=
    ⟨_, 1, rfl, Nat.le_refl _, by simp [putC], fun _ => ⟨w3.heap.size, 0, rfl, by simp, fun j y hj => by
      rw [Nat.zero_add, cell_new]
      simpa [putC, strV] using hj⟩⟩
  obtain ⟨v', w4, hrun, h1, h2, _⟩ := append_sl putElem _ base 23 sv l.length _ (ho.alloc _) _ 1 _ hsl (fun u hu => by simp [putC] at hu; rcases hu with rfl | rfl <;> rfl) (by unfold maxLen; omega) (by omega) (by simp; omega)
  refine ⟨v', w4, hrun, by rw [List.flatMap_append]; simpa using h1, fun b hb => ?_, ?_, fun B a hb hB => ?_⟩
  · rw [h2.block b (by simp; omega) (fun e => by have := (own_block_ge ho b e.symm).1; omega)]
    exact heap_alloc_old _ _ (by omega)
  · have := h2.size
    simp at this
    omega
  · exact (hb.alloc (Nat.le_trans hB hbase) _).grown h2 (by simp; omega) (fun g hg => Nat.le_trans hB (own_block_ge ho g hg).1)

set_option maxRecDepth 100000 in
set_option maxHeartbeats 8000000 in
theorem ref04_Write (d : DiskW) (v : Value) (at' : Int) (s : List UInt8) (w : World) (hv : DiskV w v d) (hok : OkD d) (hwl : d.w.length ≤ 1000000) (hs : s.length ≤ 140737488351232) :
    Calls Try.prog 24 #[v, .int .i64 at', .string ⟨s.toArray⟩] w (RetDisk w (writeD d at' s)) := by
  have hv0 := hv
  obtain ⟨A, c, B, eb, rfl, hk, hp⟩ := hv
  have hn := hok.1
  have err : ∀ (r : Int) (off : Bool), d.off = off → RetDisk w (d, r) (.returned (.tuple #[.agg #[.slice A d.kept.length c, .slice B d.w.length eb, .bool off], .int .i64 r])) ((w.alloc (.cells #[.slice A d.kept.length c, .slice B d.w.length eb, .bool off] 25)).alloc (.cells #[.slice A d.kept.length c, .slice B d.w.length eb, .bool off] 25)) := fun r off h => by
    subst h
    have hbb := (((Below.refl w.heap.size w).alloc (Nat.le_refl _) (.cells #[.slice A d.kept.length c, .slice B d.w.length eb, .bool d.off] 25)).alloc (by simp) (.cells #[.slice A d.kept.length c, .slice B d.w.length eb, .bool d.off] 25))
    exact ⟨_, rfl, hv0.below hbb, hbb⟩
  have HERR := Lib.hid err
  clear err
  cases hoff : d.off with
  | true =>
    have hw : writeD d at' s = (d, 19) := by unfold writeD refusedD; rw [hoff]; rfl
    rw [hw]
    clear hw hv0 hk hp hok
    go_enter Try.func24, Try.ntmps24
    go_wp2_with fail
    refine bodyPost_ret (v := .tuple #[.agg #[.slice A d.kept.length c, .slice B d.w.length eb, .bool true], .int .i64 19]) (by simp [results, Try.results24, go_sem]) rfl (HERR.out 19 true hoff)
  | false =>
    rcases (show at' < 0 ∨ 0 ≤ at' ∧ (d.kept.length : Int) ≤ at' ∨ 0 ≤ at' ∧ at' < (d.kept.length : Int) from by omega) with q | ⟨q, q1⟩ | ⟨q, q1⟩
    · have ht : thereB d.kept.length at' = false := by unfold thereB; simp; omega
      have hw : writeD d at' s = (d, 6) := by unfold writeD refusedD; rw [hoff, ht]; rfl
      rw [hw]
      clear hw hv0 hk hp hok ht
      go_enter Try.func24, Try.ntmps24
      go_wp2_with fail
      refine bodyPost_ret (v := .tuple #[.agg #[.slice A d.kept.length c, .slice B d.w.length eb, .bool false], .int .i64 6]) (by simp [results, Try.results24, go_sem]) rfl (HERR.out 6 false hoff)
    · have ht : thereB d.kept.length at' = false := by unfold thereB; simp; omega
      have hw : writeD d at' s = (d, 6) := by unfold writeD refusedD; rw [hoff, ht]; rfl
      rw [hw]
      clear hw hv0 hk hp hok ht
      go_enter Try.func24, Try.ntmps24
      go_wp2_with fail
      refine bodyPost_ret (v := .tuple #[.agg #[.slice A d.kept.length c, .slice B d.w.length eb, .bool false], .int .i64 6]) (by simp [results, Try.results24, go_sem]) rfl (HERR.out 6 false hoff)
    · have ht : thereB d.kept.length at' = true := (thereB_iff _ _).2 ⟨q, q1⟩
      by_cases h64 : 64 < s.length
      · have hw : writeD d at' s = (d, 5) := by unfold writeD refusedD; rw [hoff, ht]; simp [h64]
        rw [hw]
        clear hw hv0 hk hp hok ht
        go_enter Try.func24, Try.ntmps24
        go_wp2_with fail
        refine bodyPost_ret (v := .tuple #[.agg #[.slice A d.kept.length c, .slice B d.w.length eb, .bool false], .int .i64 5]) (by simp [results, Try.results24, go_sem]) rfl (HERR.out 5 false hoff)
      · have hw : writeD d at' s = (⟨d.kept, d.w ++ [(at', padL s)], false⟩, 0) := by unfold writeD refusedD; rw [hoff, ht]; simp [h64]
        rw [hw]
        have HFILL := Lib.hid (fun W => ref04_filled s W (by omega))
        have hplen : (padL s).length = 64 := padL_len s (by omega)
        obtain ⟨W0, hW0⟩ : ∃ W, W = (w.alloc (.cells #[.slice A d.kept.length c, .slice B d.w.length eb, .bool false] 25)).alloc (.cells #[.slice none 0 0, .slice none 0 0, .bool false] 25) := ⟨_, rfl⟩
        have hb0 : Below w.heap.size w W0 := by rw [hW0]; exact ((Below.refl _ _).alloc (Nat.le_refl _) _).alloc (by simp) _
        have td0 : TBox W0 w.heap.size 25 #[.slice A d.kept.length c, .slice B d.w.length eb, .bool false] := by rw [hW0]; exact (TBox.new _ _ _).alloc _
        have tr0 : TBox W0 (w.heap.size + 1) 25 #[.slice none 0 0, .slice none 0 0, .bool false] := by
          rw [hW0]
          have := TBox.new (w.alloc (.cells #[.slice A d.kept.length c, .slice B d.w.length eb, .bool false] 25)) 25 #[.slice none 0 0, .slice none 0 0, .bool false]
          rw [World.size_alloc] at this
          exact this
        have hs0 : W0.heap.size = w.heap.size + 2 := by rw [hW0]; simp
        obtain ⟨sv, W2, hrun1, hown, hb2⟩ := copy_puts W0 d.w (.slice B d.w.length eb) (hp.below hb0) hwl
        obtain ⟨A2, c2, rfl, -, -⟩ := (Sl.of_owns hown).shape
        have td2 := td0.below hb2
        have tr2 := tr0.below hb2
        have hbw2 := below_trans hb0 hb2 hb0.size
        have hsz2 := hb2.size
        obtain ⟨v3, W4, hrun2, hown4, hk4, hs4, hb4⟩ := app_put (w3 := W2.drew) (base := W0.heap.size) (sv := .slice A2 d.w.length c2) (l := d.w) (at', padL s) hown hwl hsz2
        obtain ⟨A4, c4, rfl, -, -⟩ := (Sl.of_owns hown4).shape
        have td4 : TBox W4 w.heap.size 25 #[.slice A d.kept.length c, .slice B d.w.length eb, .bool false] := (hk4 _ (by omega)).trans td2
        have tr4 : TBox W4 (w.heap.size + 1) 25 #[.slice none 0 0, .slice none 0 0, .bool false] := (hk4 _ (by omega)).trans tr2
        have hbw4 : Below w.heap.size w W4 := hb4 _ _ (below_dn hbw2 1) (by omega)
        rw [hW0] at hrun1
        simp only [World.size_alloc] at hrun1
        have c0a : W0.cell? ⟨w.heap.size, 1, none⟩ = some (.slice B d.w.length eb) := td0.cell 1
        have HTD2 := Lib.hid td2
        have HTD4 := Lib.hid td4
        have HTR4 := Lib.hid tr4
        have HBW2 := Lib.hid hbw2
        have HBW4 := Lib.hid hbw4
        have HOWN4 := Lib.hid hown4
        have HS0 := Lib.hid hs0
        have HK := Lib.hid hk
        clear hW0 hb0 td0 tr0 hs0 hown hb2 td2 tr2 hbw2 hsz2 hown4 hk4 hs4 hb4 td4 tr4 hbw4 hw hv0 hk hp hok ht HERR c0a
        go_enter Try.func24, Try.ntmps24
        go_wp2_with (at_builtin; refine wpList_append_run rfl _ _ _ rfl _ _ _ _ rfl rfl hrun1 ?_)
        refine wp_region_held_drew (S := fun V => TBox V w.heap.size 25 #[.slice A d.kept.length c, .slice B d.w.length eb, .bool false] ∧ Below w.heap.size w V) (by kernel_rfl) (⟨HTD2.out, below_dn HBW2.out 1⟩) (fun hHeld => ?_)
        refine wpAnyH_take (i := 0) (v := ?_) rfl (by kernel_rfl) (by kernel_rfl) (by kernel_rfl) (fun _ _ _ h => h) (Or.inl ⟨by rfl, ?_⟩) (by assumption) ?_
        rotate_left
        · intro X hSw
          go_simp
          try with_reducible rfl
        rotate_left
        try simp only [Act.put, List.setIfInBounds_toArray, List.set_cons_zero, List.set_cons_succ, List.getElem_toArray, List.getElem_cons_zero, List.getElem_cons_succ]
        refine wpAnyH_take (i := 1) (v := ?_) rfl (by kernel_rfl) (by kernel_rfl) (by kernel_rfl) (fun _ _ _ h => h) (Or.inl ⟨by rfl, ?_⟩) (by assumption) ?_
        rotate_left
        · intro X hSw
          have hc0 : X.cell? ⟨w.heap.size, 0, none⟩ = some (.slice A d.kept.length c) := hSw.1.cell 0
          go_simp
          try with_reducible rfl
        rotate_left
        try simp only [Act.put, List.setIfInBounds_toArray, List.set_cons_zero, List.set_cons_succ, List.getElem_toArray, List.getElem_cons_zero, List.getElem_cons_succ]
        refine wpAnyH_take (i := 2) (v := ?_) rfl (by kernel_rfl) (by kernel_rfl) (by kernel_rfl) (fun _ _ _ h => h) (Or.inl ⟨by rfl, ?_⟩) (by assumption) ?_
        rotate_left
        · intro X hSw
          go_simp
          try with_reducible rfl
        rotate_left
        try simp only [Act.put, List.setIfInBounds_toArray, List.set_cons_zero, List.set_cons_succ, List.getElem_toArray, List.getElem_cons_zero, List.getElem_cons_succ]
        refine wpAnyH_take (i := 3) (v := ?_) rfl (by kernel_rfl) (by kernel_rfl) (by kernel_rfl) (fun _ _ _ h => h) (Or.inl ⟨by rfl, ?_⟩) (by assumption) ?_
        rotate_left
        · intro X hSw
          go_simp
          try with_reducible rfl
        rotate_left
        try simp only [Act.put, List.setIfInBounds_toArray, List.set_cons_zero, List.set_cons_succ, List.getElem_toArray, List.getElem_cons_zero, List.getElem_cons_succ]
        refine wpAnyH_take (i := 4) (v := ?_) rfl (by kernel_rfl) (by kernel_rfl) (by kernel_rfl) (fun _ _ _ h => h) (Or.inl ⟨by rfl, ?_⟩) (by assumption) ?_
        rotate_left
        · intro X hSw
          go_simp
          try with_reducible rfl
        rotate_left
        try simp only [Act.put, List.setIfInBounds_toArray, List.set_cons_zero, List.set_cons_succ, List.getElem_toArray, List.getElem_cons_zero, List.getElem_cons_succ]
        refine wpAnyH_ready (rs := [5]) (by kernel_rfl) (by simp) ?_
        refine (AllReadyH.cons rfl (fun K hK => ?_) AllReadyH.nil)
        rw [if_pos (by rfl)]
        go_wp2_with fail
        refine (HFILL.out _).mono ?_
        rintro e wq ⟨rfl, rfl⟩
        refine hK.out _ _ hHeld (fun _ => ?_)
        clear hK K
        try simp only [Act.put, List.setIfInBounds_toArray, List.set_cons_zero, List.set_cons_succ, List.getElem_toArray, List.getElem_cons_zero, List.getElem_cons_succ]
        refine wpAnyH_take (i := 6) (v := ?_) rfl (by kernel_rfl) (by kernel_rfl) (by kernel_rfl) (fun _ _ _ h => h) (Or.inl ⟨by rfl, ?_⟩) (by assumption) ?_
        rotate_left
        · intro X hSw
          go_simp
          try with_reducible rfl
        rotate_left
        try simp only [Act.put, List.setIfInBounds_toArray, List.set_cons_zero, List.set_cons_succ, List.getElem_toArray, List.getElem_cons_zero, List.getElem_cons_succ]
        refine wpAnyH_ready (rs := [7]) (by kernel_rfl) (by simp) ?_
        refine (AllReadyH.cons rfl (fun K hK => ?_) AllReadyH.nil)
        rw [if_pos (by rfl)]
        go_wp2_with fail
        have hHeld := And.intro (hHeld.1.alloc (.cells #[.int .i64 at', .string ⟨(padL s).toArray⟩] 56)) (hHeld.2.alloc hHeld.2.size (.cells #[.int .i64 at', .string ⟨(padL s).toArray⟩] 56))
        refine hK.out _ _ hHeld (fun _ => ?_)
        clear hK K
        try simp only [Act.put, List.setIfInBounds_toArray, List.set_cons_zero, List.set_cons_succ, List.getElem_toArray, List.getElem_cons_zero, List.getElem_cons_succ]
        refine wpAnyH_ready (rs := [8]) (by kernel_rfl) (by simp) ?_
        refine (AllReadyH.cons rfl (fun K hK => ?_) AllReadyH.nil)
        refine step_append_run rfl _ _ _ rfl _ _ _ _ rfl rfl hrun2 ?_
        have hHeld := And.intro HTD4.out HBW4.out
        refine hK.out _ _ hHeld (fun _ => ?_)
        clear hK K
        try simp only [Act.put, List.setIfInBounds_toArray, List.set_cons_zero, List.set_cons_succ, List.getElem_toArray, List.getElem_cons_zero, List.getElem_cons_succ]
        refine wpAnyH_take (i := 9) (v := ?_) rfl (by kernel_rfl) (by kernel_rfl) (by kernel_rfl) (fun _ _ _ h => h) (Or.inl ⟨by rfl, ?_⟩) (by assumption) ?_
        rotate_left
        · intro X hSw
          go_simp
          try with_reducible rfl
        rotate_left
        try simp only [Act.put, List.setIfInBounds_toArray, List.set_cons_zero, List.set_cons_succ, List.getElem_toArray, List.getElem_cons_zero, List.getElem_cons_succ]
        refine wpAnyH_ready (rs := [10]) (by kernel_rfl) (by simp) ?_
        refine (AllReadyH.cons rfl (fun K hK => ?_) AllReadyH.nil)
        rw [if_pos (by rfl)]
        have r0 : W4.cell? ⟨w.heap.size + 1, 0, none⟩ = some (.slice none 0 0) := HTR4.out.cell 0
        have r1 : W4.cell? ⟨w.heap.size + 1, 1, none⟩ = some (.slice none 0 0) := HTR4.out.cell 1
        have r2 : W4.cell? ⟨w.heap.size + 1, 2, none⟩ = some (.bool false) := HTR4.out.cell 2
        have f0 := HTR4.out.free 0
        have f1 := HTR4.out.free 1
        have f2 := HTR4.out.free 2
        have HST := Lib.hid (((HTR4.out.set 0 (.slice A d.kept.length c)).set 1 (.slice A4 (d.w.length + 1) c4)).set 2 (.bool false))
        have HSD := Lib.hid (((HTD4.out.far (w.heap.size + 1) 0 (.slice A d.kept.length c) (by omega)).far (w.heap.size + 1) 1 (.slice A4 (d.w.length + 1) c4) (by omega)).far (w.heap.size + 1) 2 (.bool false) (by omega))
        have HBS := Lib.hid (((HBW4.out.setCell (p := ⟨w.heap.size + 1, 0, none⟩) (by simp) (.slice A d.kept.length c)).setCell (p := ⟨w.heap.size + 1, 1, none⟩) (by simp) (.slice A4 (d.w.length + 1) c4)).setCell (p := ⟨w.heap.size + 1, 2, none⟩) (by simp) (.bool false))
        have HOS := Lib.hid (owns_setCell (owns_setCell (owns_setCell HOWN4.out ⟨w.heap.size + 1, 0, none⟩ (.slice A d.kept.length c) (by have := HS0.out; simp; omega)) ⟨w.heap.size + 1, 1, none⟩ (.slice A4 (d.w.length + 1) c4) (by have := HS0.out; simp; omega)) ⟨w.heap.size + 1, 2, none⟩ (.bool false) (by have := HS0.out; simp; omega))
        go_wp2_with fail
        generalize ((W4.setCell ⟨w.heap.size + 1, 0, none⟩ (.slice A d.kept.length c)).setCell ⟨w.heap.size + 1, 1, none⟩ (.slice A4 (d.w.length + 1) c4)).setCell ⟨w.heap.size + 1, 2, none⟩ (.bool false) = W5 at *
        have hHeld := And.intro HSD.out HBS.out
        refine hK.out _ _ hHeld (fun _ => ?_)
        clear hK K
        try simp only [Act.put, List.setIfInBounds_toArray, List.set_cons_zero, List.set_cons_succ, List.getElem_toArray, List.getElem_cons_zero, List.getElem_cons_succ]
        refine wpAnyH_take (i := 11) (v := ?_) rfl (by kernel_rfl) (by kernel_rfl) (by kernel_rfl) (fun _ _ _ h => h) (Or.inl ⟨by rfl, ?_⟩) (by assumption) ?_
        rotate_left
        · intro X hSw
          go_simp
          try with_reducible rfl
        rotate_left
        try simp only [Act.put, List.setIfInBounds_toArray, List.set_cons_zero, List.set_cons_succ, List.getElem_toArray, List.getElem_cons_zero, List.getElem_cons_succ]
        refine wpAnyH_done (by kernel_rfl) ?_ _
        have r0 : W5.cell? ⟨w.heap.size + 1, 0, none⟩ = some (.slice A d.kept.length c) := HST.out.cell 0
        have r1 : W5.cell? ⟨w.heap.size + 1, 1, none⟩ = some (.slice A4 (d.w.length + 1) c4) := HST.out.cell 1
        have r2 : W5.cell? ⟨w.heap.size + 1, 2, none⟩ = some (.bool false) := HST.out.cell 2
        go_wp2_with fail
        refine bodyPost_ret (v := .tuple #[.agg #[.slice A d.kept.length c, .slice A4 (d.w.length + 1) c4, .bool false], .int .i64 0]) (by simp [results, Try.results24, go_sem, r0, r1, r2]) rfl ⟨_, rfl, ⟨A, c, A4, c4, by simp, HK.out.below HBS.out, ?_⟩, HBS.out⟩
        have h := Sl.of_owns HOS.out
        unfold Puts
        simpa using h
end Go.Proofs.Ytahnkkmngbckdaa
