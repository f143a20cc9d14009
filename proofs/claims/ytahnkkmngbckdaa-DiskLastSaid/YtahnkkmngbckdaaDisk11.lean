/- copyholdref04.Image, copyholdref04.Crash: the document's own answers, of disks that are right; old memory is as it was. -/
import Derived.Test.YtahnkkmngbckdaaDisk10
set_option linter.unusedVariables false
set_option linter.unusedSimpArgs false
namespace Copyhold.Disk
theorem doneL_step (l : List (List UInt8)) (ws : List PutW) (k : Nat) (h : k < ws.length) : doneL l (ws.take (k + 1)) = (doneL l (ws.take k)).set ws[k].1.toNat ws[k].2 := by
  rw [List.take_succ_eq_append_getElem h, doneL_append]
  rfl
theorem lets_end (n : Nat) (keep : List Bool) (ws : List PutW) (k i : Nat) (h : keep.length ≤ i) : lets n (keepP keep) i ws = [] := by
  induction ws generalizing i with
  | nil => rfl
  | cons w ws ih =>
    have hk : keepP keep i w = false := by simp [keepP, List.getD, show keep[i]? = none from List.getElem?_eq_none h]
    rw [lets, hk, Bool.and_false, if_neg (by decide), ih (i + 1) (by omega)]
theorem lets_cut (n : Nat) (keep : List Bool) (ws : List PutW) (k : Nat) (h : keep.length ≤ k) (hk : k ≤ ws.length) : lets n (keepP keep) 0 (ws.take k) = lets n (keepP keep) 0 ws := by
  have e := lets_append n (keepP keep) (ws.take k) (ws.drop k) 0
  rw [List.take_append_drop, Nat.zero_add, List.length_take, Nat.min_eq_left hk, lets_end n keep _ k k h, List.append_nil] at e
  exact e.symm
end Copyhold.Disk
namespace Go.Proofs.Ytahnkkmngbckdaa
open Go.RowKit Copyhold Copyhold.Disk

/-- append([]string{}, l...) -/
theorem copy_lit (W : World) (l : List (List UInt8)) (sv : Value) (hr : Row W sv (l.map strV)) (hl : l.length ≤ 8796093022208) :
    ∃ v' w', (Builtin.append_ #[22, 22] 22 #[.slice (some ⟨W.heap.size, 0, none⟩) 0 0, sv]).run Try.prog (W.alloc (.cells #[] 9)) = .ok v' w' ∧ w'.ownsRow W.heap.size 9 1 v' l.length (l.map strV) ∧ Below W.heap.size W w' := by
  have hown0 : (W.alloc (.cells #[] 9)).ownsRow W.heap.size 9 1 (.slice (some ⟨W.heap.size, 0, none⟩) 0 0) 0 [] :=
    ⟨by simp, .inr ⟨W.heap.size, 0, #[], rfl, Nat.le_refl _, heap_alloc_new W _, Nat.le_refl _, by simp [maxLen], by simp, by simp⟩⟩
  have hsl := Sl.of_row (hr.alloc (.cells #[] 9))
  rw [List.length_map] at hsl
  obtain ⟨v', w', hrun, h1, h2, _⟩ := append_sl strElem (W.alloc (.cells #[] 9)) W.heap.size 22 _ 0 [] hown0 sv l.length (l.map strV) hsl (fun u hu => by obtain ⟨x, _, rfl⟩ := List.mem_map.1 hu; rfl) (by unfold maxLen; omega) (by omega) (by simp)
  rw [Nat.zero_add, List.nil_append] at h1
  exact ⟨v', w', hrun, h1, ((Below.refl _ _).alloc (Nat.le_refl _) _).grown h2 (by simp) (fun g hg => by simp [Value.ownBlock] at hg; omega)⟩

set_option maxRecDepth 100000 in
set_option maxHeartbeats 8000000 in
theorem ref04_Image (d : DiskW) (v : Value) (w : World) (hv : DiskV w v d) (hok : OkD d) (hr : Right d) : Calls Try.prog 21 #[v] w (RetRow w (imageL d)) := by
  rw [hr.image]
  obtain ⟨A, c, B, eb, rfl, hk, hp⟩ := hv
  obtain ⟨kept, ws, off⟩ := d
  obtain ⟨hn, hkl, hpl, hm⟩ := hok
  obtain ⟨⟨hr1, hr2⟩, hr64, hrw⟩ := hr
  simp only at hk hp hn hkl hpl hm hr1 hr2 hr64 hrw ⊢
  obtain ⟨W0, hW0⟩ : ∃ W, W = w.alloc (.cells #[.slice A kept.length c, .slice B ws.length eb, .bool off] 25) := ⟨_, rfl⟩
  have hb0 : Below w.heap.size w W0 := by rw [hW0]; exact (Below.refl _ _).alloc (Nat.le_refl _) _
  have td0 : TBox W0 w.heap.size 25 #[.slice A kept.length c, .slice B ws.length eb, .bool off] := by rw [hW0]; exact TBox.new _ _ _
  obtain ⟨v', W2, hrun, hown, hb2⟩ := copy_lit W0 kept (.slice A kept.length c) (hk.below hb0) hn
  obtain ⟨n, hn1⟩ : ∃ n, kept.length = n + 1 := ⟨kept.length - 1, by omega⟩
  rw [hn1] at hown
  obtain ⟨g, cap, rfl⟩ := ownsRow_succ hown
  rw [← hn1] at hown hrun
  rw [hW0] at hrun
  simp only [World.size_alloc] at hrun
  clear hn1
  have hgb := own_block_ge hown g rfl
  have td2 := td0.below hb2
  have hbw2 := below_trans hb0 hb2 hb0.size
  have c0a : W0.cell? ⟨w.heap.size, 0, none⟩ = some (.slice A kept.length c) := td0.cell 0
  have c0l := td0.lt
  have HB0 := Lib.hid hb0
  have HW := Lib.hid hW0
  have HP := Lib.hid hp
  have HTD2 := Lib.hid td2
  have HOWN2 := Lib.hid hown
  have HBW2 := Lib.hid hbw2
  have HB2 := Lib.hid hb2
  have HG := Lib.hid hgb.1
  have HL0 := Lib.hid (show w.heap.size < W0.heap.size from td0.lt)
  have HR64 := Lib.hid hr64
  have HRW := Lib.hid hrw
  clear hW0 hb0 td0 hk hp hown hb2 td2 hbw2 hgb hr64 hrw
  go_enter Try.func21, Try.ntmps21
  go_wp2_with (at_builtin; refine wpList_append_run rfl _ _ _ rfl _ _ _ _ rfl rfl hrun ?_)
  go_loopw [4] (fun i wr => ∃ k : Nat, k ≤ ws.length ∧ i = .int .i64 k ∧ TBox wr w.heap.size 25 #[.slice A kept.length c, .slice B ws.length eb, .bool off] ∧ wr.ownsRow W0.heap.size 9 1 (.slice (some ⟨g, 0, none⟩) kept.length cap) kept.length ((doneL kept (ws.take k)).map strV) ∧ Below w.heap.size w wr) (fun i _ => ws.length - (intOf i).toNat)
  case atStart => exact ⟨0, Nat.zero_le _, rfl, HTD2.out, HOWN2.out, HBW2.out⟩
  case round =>
    obtain ⟨k, hk, rfl, htd, hown, hbw⟩ := hrel
    have d1 : wr.cell? ⟨w.heap.size, 1, none⟩ = some (.slice B ws.length eb) := htd.cell 1
    have HTD := Lib.hid htd
    have HOWN := Lib.hid hown
    have HBW := Lib.hid hbw
    clear htd hown hbw hrun c0a c0l
    by_cases hlt : k < ws.length
    · obtain ⟨b, off', rfl, hbk, _, hc0, hc1⟩ := HP.out.at k hlt
      have hget : ws[k]? = some ws[k] := List.getElem?_eq_getElem hlt
      have hst0 := doneL_step kept ws k hlt
      obtain ⟨⟨hw0, hw1⟩, hw2⟩ := HRW.out ws[k] (List.getElem_mem hlt)
      have hki : (k : Int) < (ws.length : Int) := by omega
      generalize ws[k] = x at *
      obtain ⟨i, s⟩ := x
      simp only at hc0 hc1 hw0 hw1 hw2 hst0
      obtain ⟨q, rfl⟩ := Int.eq_ofNat_of_zero_le hw0
      rw [Int.toNat_natCast] at hst0
      have hqk : q < kept.length := by omega
      have HST0 := Lib.hid hst0
      have HC0 := Lib.hid (fun X (h : Below w.heap.size w X) => show X.cell? ⟨b, off' + k * 2, none⟩ = some (.int .i64 (q : Int)) from (h.cell (p := ⟨b, off' + k * 2, none⟩) hbk).trans hc0)
      have HC1 := Lib.hid (fun X (h : Below w.heap.size w X) => show X.cell? ⟨b, off' + k * 2 + 1, none⟩ = some (.string ⟨s.toArray⟩) from (h.cell (p := ⟨b, off' + k * 2 + 1, none⟩) hbk).trans hc1)
      clear hc0 hc1 hst0 hget
      have hcl : (doneL kept (ws.take k)).length = kept.length := doneL_len _ _
      generalize doneL kept (ws.take k) = cur at *
      have HH : Hid ((TBox wr.drew w.heap.size 25 #[.slice A kept.length c, .slice (some ⟨b, off', none⟩) ws.length eb, .bool off] ∧ (wr.drew.ownsRow W0.heap.size 9 1 (.slice (some ⟨g, 0, none⟩) kept.length cap) kept.length (cur.map strV) ∨ wr.drew.ownsRow W0.heap.size 9 1 (.slice (some ⟨g, 0, none⟩) kept.length cap) kept.length ((cur.set q s).map strV))) ∧ Below w.heap.size w wr.drew) := Lib.hid ⟨⟨HTD.out, .inl HOWN.out⟩, below_dn HBW.out 1⟩
      go_wp2_with fail
      refine wp_region_held_drew (S := fun V => (TBox V w.heap.size 25 #[.slice A kept.length c, .slice (some ⟨b, off', none⟩) ws.length eb, .bool off] ∧ (V.ownsRow W0.heap.size 9 1 (.slice (some ⟨g, 0, none⟩) kept.length cap) kept.length (cur.map strV) ∨ V.ownsRow W0.heap.size 9 1 (.slice (some ⟨g, 0, none⟩) kept.length cap) kept.length ((cur.set q s).map strV))) ∧ Below w.heap.size w V) (by kernel_rfl) (HH.out) (fun hHeld => ?_)
      refine wpAnyH_take (i := 0) (v := ?_) rfl (by kernel_rfl) (by kernel_rfl) (by kernel_rfl) (fun _ _ _ h => h) (Or.inl ⟨by rfl, ?_⟩) (by assumption) ?_
      rotate_left
      · intro X hSw
        go_simp
        try with_reducible rfl
      rotate_left
      try simp only [Act.put, List.setIfInBounds_toArray, List.set_cons_zero, List.set_cons_succ, List.getElem_toArray, List.getElem_cons_zero, List.getElem_cons_succ]
      refine wpAnyH_take (i := 1) (v := ?_) rfl (by kernel_rfl) (by kernel_rfl) (by kernel_rfl) (fun _ _ _ h => h) (Or.inl ⟨by rfl, ?_⟩) (by assumption) ?_
      rotate_left
      · intro X hSw
        go_simp
        try with_reducible rfl
      rotate_left
      try simp only [Act.put, List.setIfInBounds_toArray, List.set_cons_zero, List.set_cons_succ, List.getElem_toArray, List.getElem_cons_zero, List.getElem_cons_succ]
      refine wpAnyH_take (i := 2) (v := ?_) rfl (by kernel_rfl) (by kernel_rfl) (by kernel_rfl) (fun _ _ _ h => h) (Or.inl ⟨by rfl, ?_⟩) (by assumption) ?_
      rotate_left
      · intro X hSw
        have hd1 : X.cell? ⟨w.heap.size, 1, none⟩ = some (.slice (some ⟨b, off', none⟩) ws.length eb) := hSw.1.1.cell 1
        have hp0 := HC0.out X hSw.2
        have hp1 := HC1.out X hSw.2
        go_simp
        try with_reducible rfl
      rotate_left
      try simp only [Act.put, List.setIfInBounds_toArray, List.set_cons_zero, List.set_cons_succ, List.getElem_toArray, List.getElem_cons_zero, List.getElem_cons_succ]
      refine wpAnyH_take (i := 3) (v := ?_) rfl (by kernel_rfl) (by kernel_rfl) (by kernel_rfl) (fun _ _ _ h => h) (Or.inl ⟨by rfl, ?_⟩) (by assumption) ?_
      rotate_left
      · intro X hSw
        go_simp
        try with_reducible rfl
      rotate_left
      try simp only [Act.put, List.setIfInBounds_toArray, List.set_cons_zero, List.set_cons_succ, List.getElem_toArray, List.getElem_cons_zero, List.getElem_cons_succ]
      refine wpAnyH_take (i := 4) (v := ?_) rfl (by kernel_rfl) (by kernel_rfl) (by kernel_rfl) (fun _ _ _ h => h) (Or.inl ⟨by rfl, ?_⟩) (by assumption) ?_
      rotate_left
      · intro X hSw
        have hq1 : (q : Int) < (kept.length : Int) := by omega
        go_simp
        try with_reducible rfl
      rotate_left
      try simp only [Act.put, List.setIfInBounds_toArray, List.set_cons_zero, List.set_cons_succ, List.getElem_toArray, List.getElem_cons_zero, List.getElem_cons_succ]
      refine wpAnyH_take (i := 5) (v := ?_) rfl (by kernel_rfl) (by kernel_rfl) (by kernel_rfl) (fun _ _ _ h => h) (Or.inl ⟨by rfl, ?_⟩) (by assumption) ?_
      rotate_left
      · intro X hSw
        go_simp
        try with_reducible rfl
      rotate_left
      try simp only [Act.put, List.setIfInBounds_toArray, List.set_cons_zero, List.set_cons_succ, List.getElem_toArray, List.getElem_cons_zero, List.getElem_cons_succ]
      refine wpAnyH_take (i := 6) (v := ?_) rfl (by kernel_rfl) (by kernel_rfl) (by kernel_rfl) (fun _ _ _ h => h) (Or.inl ⟨by rfl, ?_⟩) (by assumption) ?_
      rotate_left
      · intro X hSw
        have hd1 : X.cell? ⟨w.heap.size, 1, none⟩ = some (.slice (some ⟨b, off', none⟩) ws.length eb) := hSw.1.1.cell 1
        have hp0 := HC0.out X hSw.2
        have hp1 := HC1.out X hSw.2
        go_simp
        try with_reducible rfl
      rotate_left
      try simp only [Act.put, List.setIfInBounds_toArray, List.set_cons_zero, List.set_cons_succ, List.getElem_toArray, List.getElem_cons_zero, List.getElem_cons_succ]
      refine wpAnyH_take (i := 7) (v := ?_) rfl (by kernel_rfl) (by kernel_rfl) (by kernel_rfl) (fun _ _ _ h => h) (Or.inl ⟨by rfl, ?_⟩) (by assumption) ?_
      rotate_left
      · intro X hSw
        go_simp
        try with_reducible rfl
      rotate_left
      try simp only [Act.put, List.setIfInBounds_toArray, List.set_cons_zero, List.set_cons_succ, List.getElem_toArray, List.getElem_cons_zero, List.getElem_cons_succ]
      refine wpAnyH_take (i := 8) (v := ?_) rfl (by kernel_rfl) (by kernel_rfl) (by kernel_rfl) (fun _ _ _ h => h) (Or.inl ⟨by rfl, ?_⟩) (by assumption) ?_
      rotate_left
      · intro X hSw
        have hd1 : X.cell? ⟨w.heap.size, 1, none⟩ = some (.slice (some ⟨b, off', none⟩) ws.length eb) := hSw.1.1.cell 1
        have hp0 := HC0.out X hSw.2
        have hp1 := HC1.out X hSw.2
        go_simp
        try with_reducible rfl
      rotate_left
      try simp only [Act.put, List.setIfInBounds_toArray, List.set_cons_zero, List.set_cons_succ, List.getElem_toArray, List.getElem_cons_zero, List.getElem_cons_succ]
      refine wpAnyH_take (i := 9) (v := ?_) rfl (by kernel_rfl) (by kernel_rfl) (by kernel_rfl) (fun _ _ _ h => h) (Or.inl ⟨by rfl, ?_⟩) (by assumption) ?_
      rotate_left
      · intro X hSw
        go_simp
        try with_reducible rfl
      rotate_left
      try simp only [Act.put, List.setIfInBounds_toArray, List.set_cons_zero, List.set_cons_succ, List.getElem_toArray, List.getElem_cons_zero, List.getElem_cons_succ]
      refine wpAnyH_take (i := 10) (v := ?_) rfl (by kernel_rfl) (by kernel_rfl) (by kernel_rfl) (fun _ _ _ h => h) (Or.inl ⟨by rfl, ?_⟩) (by assumption) ?_
      rotate_left
      · intro X hSw
        have hq1 : (q : Int) < (kept.length : Int) := by omega
        go_simp
        try with_reducible rfl
      rotate_left
      try simp only [Act.put, List.setIfInBounds_toArray, List.set_cons_zero, List.set_cons_succ, List.getElem_toArray, List.getElem_cons_zero, List.getElem_cons_succ]
      refine wpAnyH_take (i := 11) (v := ?_) rfl (by kernel_rfl) (by kernel_rfl) (by kernel_rfl) (fun _ _ _ h => h) (Or.inl ⟨by rfl, ?_⟩) (by assumption) ?_
      rotate_left
      · intro X hSw
        go_simp
        try with_reducible rfl
      rotate_left
      try simp only [Act.put, List.setIfInBounds_toArray, List.set_cons_zero, List.set_cons_succ, List.getElem_toArray, List.getElem_cons_zero, List.getElem_cons_succ]
      refine wpAnyH_take (i := 12) (v := ?_) rfl (by kernel_rfl) (by kernel_rfl) (by kernel_rfl) (fun _ _ _ h => h) (Or.inl ⟨by rfl, ?_⟩) (by assumption) ?_
      rotate_left
      · intro X hSw
        have hd1 : X.cell? ⟨w.heap.size, 1, none⟩ = some (.slice (some ⟨b, off', none⟩) ws.length eb) := hSw.1.1.cell 1
        have hp0 := HC0.out X hSw.2
        have hp1 := HC1.out X hSw.2
        go_simp
        try with_reducible rfl
      rotate_left
      try simp only [Act.put, List.setIfInBounds_toArray, List.set_cons_zero, List.set_cons_succ, List.getElem_toArray, List.getElem_cons_zero, List.getElem_cons_succ]
      refine wpAnyH_take (i := 13) (v := ?_) rfl (by kernel_rfl) (by kernel_rfl) (by kernel_rfl) (fun _ _ _ h => h) (Or.inl ⟨by rfl, ?_⟩) (by assumption) ?_
      rotate_left
      · intro X hSw
        have hq1 : (q : Int) < (kept.length : Int) := by omega
        go_simp
        try with_reducible rfl
      rotate_left
      try simp only [Act.put, List.setIfInBounds_toArray, List.set_cons_zero, List.set_cons_succ, List.getElem_toArray, List.getElem_cons_zero, List.getElem_cons_succ]
      refine wpAnyH_ready (rs := [14]) (by kernel_rfl) (by simp) ?_
      refine (AllReadyH.cons rfl (fun K hK => ?_) AllReadyH.nil)
      rw [if_pos (by rfl)]
      obtain ⟨ys, hys, hyo⟩ : ∃ ys : List (List UInt8), ys.set q s = cur.set q s ∧ wr.drew.ownsRow W0.heap.size 9 1 (.slice (some ⟨g, 0, none⟩) kept.length cap) kept.length (ys.map strV) := hHeld.1.2.elim (fun h => ⟨cur, rfl, h⟩) (fun h => ⟨cur.set q s, by simp, h⟩)
      have hyl : ys.length = kept.length := by have := hyo.1; simpa using this
      have hcu : wr.drew.cell? ⟨g, q, none⟩ = some (strV (ys[q]'(by omega))) := by
        rw [hyo.cellAt q (by omega), List.getElem?_map, List.getElem?_eq_getElem (by omega)]; rfl
      have hfr := hyo.frozenAt q
      have hst := (hyo.stored q (.string ⟨s.toArray⟩)).1
      rw [show (ys.map strV).set q (.string ⟨s.toArray⟩) = (cur.set q s).map strV from by rw [← hys, List.map_set]; rfl] at hst
      have hgl := HG.out
      have hlt0 := HL0.out
      have HST := Lib.hid (show (wr.setCell ⟨g, q, none⟩ (.string ⟨s.toArray⟩)).drew.ownsRow W0.heap.size 9 1 (.slice (some ⟨g, 0, none⟩) kept.length cap) kept.length ((cur.set q s).map strV) from hst)
      have HSV := Lib.hid (show TBox (wr.setCell ⟨g, q, none⟩ (.string ⟨s.toArray⟩)).drew w.heap.size 25 #[.slice A kept.length c, .slice (some ⟨b, off', none⟩) ws.length eb, .bool off] from hHeld.1.1.far _ _ _ (by omega))
      have HBS := Lib.hid (show Below w.heap.size w (wr.setCell ⟨g, q, none⟩ (.string ⟨s.toArray⟩)).drew from hHeld.2.setCell (p := ⟨g, q, none⟩) (by simp; omega) _)
      clear hst hyo hHeld
      go_wp2_with fail
      generalize (wr.setCell ⟨g, q, none⟩ (.string ⟨s.toArray⟩)).drew = W5 at *
      have hHeld := And.intro (And.intro HSV.out (Or.inr (a := W5.ownsRow W0.heap.size 9 1 (.slice (some ⟨g, 0, none⟩) kept.length cap) kept.length (cur.map strV)) HST.out)) (HBS.out)
      refine hK.out _ _ hHeld (fun _ => ?_)
      clear hK K
      try simp only [Act.put, List.setIfInBounds_toArray, List.set_cons_zero, List.set_cons_succ, List.getElem_toArray, List.getElem_cons_zero, List.getElem_cons_succ]
      refine wpAnyH_done (by kernel_rfl) ?_ _
      go_wp2_with fail
      go_roundw
      case rel => exact ⟨k + 1, by omega, by go_num, hHeld.1.1, by rw [HST0.out]; exact HST.out, hHeld.2⟩
      case measure => simp [intOf]; omega
    · obtain rfl : k = ws.length := by omega
      have hown := HOWN.out
      rw [List.take_length] at hown
      have hbw := HBW.out
      have hs0 := HB0.out.size
      have HFIN := Lib.hid (show RetRow w (doneL kept ws) (.returned (.slice (some ⟨g, 0, none⟩) kept.length cap)) wr from ⟨_, rfl, Row.of_owns hown, (At.of_owns hown).mono fun b hb => Nat.le_trans hs0 hb, hbw⟩)
      clear hown hbw
      go_wp2_with fail
      go_ret
      exact HFIN.out

set_option maxRecDepth 100000 in
set_option maxHeartbeats 8000000 in
theorem ref04_Crash (d : DiskW) (v kv : Value) (keep : List Bool) (w : World) (hv : DiskV w v d) (hok : OkD d) (hr : Right d) (hkv : Row w kv (keep.map Value.bool)) (hkl : keep.length ≤ 140737488351232) : Calls Try.prog 28 #[v, kv] w (RetD w ⟨crashL d keep, [], false⟩) := by
  obtain ⟨K, kc, rfl⟩ := hkv.shape
  rw [List.length_map] at hkv ⊢
  have HKV := Lib.hid hkv
  have HKVL := Lib.hid hkv.lies
  clear hkv
  unfold crashL
  obtain ⟨A, c, B, eb, rfl, hk, hp⟩ := hv
  obtain ⟨kept, ws, off⟩ := d
  obtain ⟨hn, hkl, hpl, hm⟩ := hok
  obtain ⟨⟨hr1, hr2⟩, hr64, hrw⟩ := hr
  simp only at hk hp hn hkl hpl hm hr1 hr2 hr64 hrw ⊢
  obtain ⟨W0, hW0⟩ : ∃ W, W = (w.alloc (.cells #[.slice A kept.length c, .slice B ws.length eb, .bool off] 25)).alloc (.cells #[.slice none 0 0, .slice none 0 0, .bool false] 25) := ⟨_, rfl⟩
  have hb0 : Below w.heap.size w W0 := by rw [hW0]; exact ((Below.refl _ _).alloc (Nat.le_refl _) _).alloc (by simp) _
  have td0 : TBox W0 w.heap.size 25 #[.slice A kept.length c, .slice B ws.length eb, .bool off] := by rw [hW0]; exact (TBox.new _ _ _).alloc _
  have tr0 : TBox W0 (w.heap.size + 1) 25 #[.slice none 0 0, .slice none 0 0, .bool false] := by
    rw [hW0]
    have := TBox.new (w.alloc (.cells #[.slice A kept.length c, .slice B ws.length eb, .bool off] 25)) 25 #[.slice none 0 0, .slice none 0 0, .bool false]
    rw [World.size_alloc] at this
    exact this
  have HTR0 := Lib.hid tr0
  clear tr0
  obtain ⟨v', W2, hrun, hown, hb2⟩ := copy_lit W0 kept (.slice A kept.length c) (hk.below hb0) hn
  obtain ⟨n, hn1⟩ : ∃ n, kept.length = n + 1 := ⟨kept.length - 1, by omega⟩
  rw [hn1] at hown
  obtain ⟨g, cap, rfl⟩ := ownsRow_succ hown
  rw [← hn1] at hown hrun
  rw [hW0] at hrun
  simp only [World.size_alloc] at hrun
  clear hn1
  have hgb := own_block_ge hown g rfl
  have td2 := td0.below hb2
  have hbw2 := below_trans hb0 hb2 hb0.size
  have c0a : W0.cell? ⟨w.heap.size, 0, none⟩ = some (.slice A kept.length c) := td0.cell 0
  have c0l := td0.lt
  have HB0 := Lib.hid hb0
  have HW := Lib.hid hW0
  have HP := Lib.hid hp
  have HTD2 := Lib.hid td2
  have HOWN2 := Lib.hid hown
  have HBW2 := Lib.hid hbw2
  have HB2 := Lib.hid hb2
  have HG := Lib.hid hgb.1
  have HL0 := Lib.hid (show w.heap.size < W0.heap.size from td0.lt)
  have HR64 := Lib.hid hr64
  have HRW := Lib.hid hrw
  clear hW0 hb0 td0 hk hp hown hb2 td2 hbw2 hgb hr64 hrw
  go_enter Try.func28, Try.ntmps28
  go_wp2_with (at_builtin; refine wpList_append_run rfl _ _ _ rfl _ _ _ _ rfl rfl hrun ?_)
  have HS0 := Lib.hid (show w.heap.size + 1 < W0.heap.size from HTR0.out.lt)
  have HTR2 := Lib.hid (HTR0.out.below HB2.out)
  go_loopw [6] (fun i wr => ∃ k : Nat, k ≤ ws.length ∧ i = .int .i64 k ∧ TBox wr w.heap.size 25 #[.slice A kept.length c, .slice B ws.length eb, .bool off] ∧ TBox wr (w.heap.size + 1) 25 #[.slice none 0 0, .slice none 0 0, .bool false] ∧ wr.ownsRow W0.heap.size 9 1 (.slice (some ⟨g, 0, none⟩) kept.length cap) kept.length ((doneL kept (lets kept.length (keepP keep) 0 (ws.take k))).map strV) ∧ Below w.heap.size w wr) (fun i _ => ws.length - (intOf i).toNat)
  case atStart => exact ⟨0, Nat.zero_le _, rfl, HTD2.out, HTR2.out, by simpa [lets, doneL] using HOWN2.out, HBW2.out⟩
  case round =>
    obtain ⟨k, hk, rfl, htd, htr, hown, hbw⟩ := hrel
    have d1 : wr.cell? ⟨w.heap.size, 1, none⟩ = some (.slice B ws.length eb) := htd.cell 1
    have HTD := Lib.hid htd
    have HTR := Lib.hid htr
    have HOWN := Lib.hid hown
    have HBW := Lib.hid hbw
    clear htd htr hown hbw hrun c0a c0l
    by_cases hlt : k < ws.length
    · by_cases hkk : k < keep.length
      · obtain ⟨kb', ko, rfl, hkb, _, hkc⟩ := HKV.out.at k (x := .bool keep[k]) (by simp [hkk])
        have hkcell : wr.cell? ⟨kb', ko + k, none⟩ = some (.bool keep[k]) := (HBW.out.cell (p := ⟨kb', ko + k, none⟩) hkb).trans (hkc k _ (by simp [hkk]))
        have hkp : ∀ x, keepP keep k x = keep[k] := fun x => by simp [keepP, List.getD, hkk]
        have hki2 : (k : Int) < (keep.length : Int) := by omega
        have hls := lets_step kept.length (keepP keep) ws k hlt
        rw [(thereB_iff _ _).2 (HRW.out ws[k] (List.getElem_mem hlt)).1, Bool.true_and, hkp] at hls
        clear hkc hkp
        generalize keep[k] = kv at *
        cases kv with
        | false =>
          have HLS := Lib.hid (show lets kept.length (keepP keep) 0 (ws.take (k + 1)) = lets kept.length (keepP keep) 0 (ws.take k) from by rw [hls]; simp)
          clear hls
          go_wp2_with fail
          go_roundw
          case rel => exact ⟨k + 1, by omega, by go_num, HTD.out, HTR.out, by rw [HLS.out]; exact HOWN.out, HBW.out⟩
          case measure => simp [intOf]; omega
        | true =>
          obtain ⟨b, off', rfl, hbk, _, hc0, hc1⟩ := HP.out.at k hlt
          have hget : ws[k]? = some ws[k] := List.getElem?_eq_getElem hlt
          have hst0 := doneL_step kept ws k hlt
          obtain ⟨⟨hw0, hw1⟩, hw2⟩ := HRW.out ws[k] (List.getElem_mem hlt)
          have hki : (k : Int) < (ws.length : Int) := by omega
          generalize ws[k] = x at *
          obtain ⟨i, s⟩ := x
          simp only at hc0 hc1 hw0 hw1 hw2 hst0 hls
          obtain ⟨q, rfl⟩ := Int.eq_ofNat_of_zero_le hw0
          rw [Int.toNat_natCast] at hst0
          have hqk : q < kept.length := by omega
          have HST0 := Lib.hid hst0
          have HC0 := Lib.hid (fun X (h : Below w.heap.size w X) => show X.cell? ⟨b, off' + k * 2, none⟩ = some (.int .i64 (q : Int)) from (h.cell (p := ⟨b, off' + k * 2, none⟩) hbk).trans hc0)
          have HC1 := Lib.hid (fun X (h : Below w.heap.size w X) => show X.cell? ⟨b, off' + k * 2 + 1, none⟩ = some (.string ⟨s.toArray⟩) from (h.cell (p := ⟨b, off' + k * 2 + 1, none⟩) hbk).trans hc1)
          clear hc0 hc1 hst0 hget
          have HST1 : Hid (doneL kept (lets kept.length (keepP keep) 0 (ws.take (k + 1))) = (doneL kept (lets kept.length (keepP keep) 0 (ws.take k))).set q s) := Lib.hid (by rw [hls]; simp [doneL])
          clear hls
          have hcl : (doneL kept (lets kept.length (keepP keep) 0 (ws.take k))).length = kept.length := doneL_len _ _
          generalize doneL kept (lets kept.length (keepP keep) 0 (ws.take k)) = cur at *
          have HH : Hid ((TBox wr.drew w.heap.size 25 #[.slice A kept.length c, .slice (some ⟨b, off', none⟩) ws.length eb, .bool off] ∧ (wr.drew.ownsRow W0.heap.size 9 1 (.slice (some ⟨g, 0, none⟩) kept.length cap) kept.length (cur.map strV) ∨ wr.drew.ownsRow W0.heap.size 9 1 (.slice (some ⟨g, 0, none⟩) kept.length cap) kept.length ((cur.set q s).map strV))) ∧ TBox wr.drew (w.heap.size + 1) 25 #[.slice none 0 0, .slice none 0 0, .bool false] ∧ Below w.heap.size w wr.drew) := Lib.hid ⟨⟨HTD.out, .inl HOWN.out⟩, HTR.out, below_dn HBW.out 1⟩
          go_wp2_with fail
          refine wp_region_held_drew (S := fun V => (TBox V w.heap.size 25 #[.slice A kept.length c, .slice (some ⟨b, off', none⟩) ws.length eb, .bool off] ∧ (V.ownsRow W0.heap.size 9 1 (.slice (some ⟨g, 0, none⟩) kept.length cap) kept.length (cur.map strV) ∨ V.ownsRow W0.heap.size 9 1 (.slice (some ⟨g, 0, none⟩) kept.length cap) kept.length ((cur.set q s).map strV))) ∧ TBox V (w.heap.size + 1) 25 #[.slice none 0 0, .slice none 0 0, .bool false] ∧ Below w.heap.size w V) (by kernel_rfl) (HH.out) (fun hHeld => ?_)
          refine wpAnyH_take (i := 0) (v := ?_) rfl (by kernel_rfl) (by kernel_rfl) (by kernel_rfl) (fun _ _ _ h => h) (Or.inl ⟨by rfl, ?_⟩) (by assumption) ?_
          rotate_left
          · intro X hSw
            go_simp
            try with_reducible rfl
          rotate_left
          try simp only [Act.put, List.setIfInBounds_toArray, List.set_cons_zero, List.set_cons_succ, List.getElem_toArray, List.getElem_cons_zero, List.getElem_cons_succ]
          refine wpAnyH_take (i := 1) (v := ?_) rfl (by kernel_rfl) (by kernel_rfl) (by kernel_rfl) (fun _ _ _ h => h) (Or.inl ⟨by rfl, ?_⟩) (by assumption) ?_
          rotate_left
          · intro X hSw
            go_simp
            try with_reducible rfl
          rotate_left
          try simp only [Act.put, List.setIfInBounds_toArray, List.set_cons_zero, List.set_cons_succ, List.getElem_toArray, List.getElem_cons_zero, List.getElem_cons_succ]
          refine wpAnyH_take (i := 2) (v := ?_) rfl (by kernel_rfl) (by kernel_rfl) (by kernel_rfl) (fun _ _ _ h => h) (Or.inl ⟨by rfl, ?_⟩) (by assumption) ?_
          rotate_left
          · intro X hSw
            have hd1 : X.cell? ⟨w.heap.size, 1, none⟩ = some (.slice (some ⟨b, off', none⟩) ws.length eb) := hSw.1.1.cell 1
            have hp0 := HC0.out X hSw.2.2
            have hp1 := HC1.out X hSw.2.2
            go_simp
            try with_reducible rfl
          rotate_left
          try simp only [Act.put, List.setIfInBounds_toArray, List.set_cons_zero, List.set_cons_succ, List.getElem_toArray, List.getElem_cons_zero, List.getElem_cons_succ]
          refine wpAnyH_take (i := 3) (v := ?_) rfl (by kernel_rfl) (by kernel_rfl) (by kernel_rfl) (fun _ _ _ h => h) (Or.inl ⟨by rfl, ?_⟩) (by assumption) ?_
          rotate_left
          · intro X hSw
            go_simp
            try with_reducible rfl
          rotate_left
          try simp only [Act.put, List.setIfInBounds_toArray, List.set_cons_zero, List.set_cons_succ, List.getElem_toArray, List.getElem_cons_zero, List.getElem_cons_succ]
          refine wpAnyH_take (i := 4) (v := ?_) rfl (by kernel_rfl) (by kernel_rfl) (by kernel_rfl) (fun _ _ _ h => h) (Or.inl ⟨by rfl, ?_⟩) (by assumption) ?_
          rotate_left
          · intro X hSw
            have hq1 : (q : Int) < (kept.length : Int) := by omega
            go_simp
            try with_reducible rfl
          rotate_left
          try simp only [Act.put, List.setIfInBounds_toArray, List.set_cons_zero, List.set_cons_succ, List.getElem_toArray, List.getElem_cons_zero, List.getElem_cons_succ]
          refine wpAnyH_take (i := 5) (v := ?_) rfl (by kernel_rfl) (by kernel_rfl) (by kernel_rfl) (fun _ _ _ h => h) (Or.inl ⟨by rfl, ?_⟩) (by assumption) ?_
          rotate_left
          · intro X hSw
            go_simp
            try with_reducible rfl
          rotate_left
          try simp only [Act.put, List.setIfInBounds_toArray, List.set_cons_zero, List.set_cons_succ, List.getElem_toArray, List.getElem_cons_zero, List.getElem_cons_succ]
          refine wpAnyH_take (i := 6) (v := ?_) rfl (by kernel_rfl) (by kernel_rfl) (by kernel_rfl) (fun _ _ _ h => h) (Or.inl ⟨by rfl, ?_⟩) (by assumption) ?_
          rotate_left
          · intro X hSw
            have hd1 : X.cell? ⟨w.heap.size, 1, none⟩ = some (.slice (some ⟨b, off', none⟩) ws.length eb) := hSw.1.1.cell 1
            have hp0 := HC0.out X hSw.2.2
            have hp1 := HC1.out X hSw.2.2
            go_simp
            try with_reducible rfl
          rotate_left
          try simp only [Act.put, List.setIfInBounds_toArray, List.set_cons_zero, List.set_cons_succ, List.getElem_toArray, List.getElem_cons_zero, List.getElem_cons_succ]
          refine wpAnyH_take (i := 7) (v := ?_) rfl (by kernel_rfl) (by kernel_rfl) (by kernel_rfl) (fun _ _ _ h => h) (Or.inl ⟨by rfl, ?_⟩) (by assumption) ?_
          rotate_left
          · intro X hSw
            go_simp
            try with_reducible rfl
          rotate_left
          try simp only [Act.put, List.setIfInBounds_toArray, List.set_cons_zero, List.set_cons_succ, List.getElem_toArray, List.getElem_cons_zero, List.getElem_cons_succ]
          refine wpAnyH_take (i := 8) (v := ?_) rfl (by kernel_rfl) (by kernel_rfl) (by kernel_rfl) (fun _ _ _ h => h) (Or.inl ⟨by rfl, ?_⟩) (by assumption) ?_
          rotate_left
          · intro X hSw
            have hd1 : X.cell? ⟨w.heap.size, 1, none⟩ = some (.slice (some ⟨b, off', none⟩) ws.length eb) := hSw.1.1.cell 1
            have hp0 := HC0.out X hSw.2.2
            have hp1 := HC1.out X hSw.2.2
            go_simp
            try with_reducible rfl
          rotate_left
          try simp only [Act.put, List.setIfInBounds_toArray, List.set_cons_zero, List.set_cons_succ, List.getElem_toArray, List.getElem_cons_zero, List.getElem_cons_succ]
          refine wpAnyH_take (i := 9) (v := ?_) rfl (by kernel_rfl) (by kernel_rfl) (by kernel_rfl) (fun _ _ _ h => h) (Or.inl ⟨by rfl, ?_⟩) (by assumption) ?_
          rotate_left
          · intro X hSw
            go_simp
            try with_reducible rfl
          rotate_left
          try simp only [Act.put, List.setIfInBounds_toArray, List.set_cons_zero, List.set_cons_succ, List.getElem_toArray, List.getElem_cons_zero, List.getElem_cons_succ]
          refine wpAnyH_take (i := 10) (v := ?_) rfl (by kernel_rfl) (by kernel_rfl) (by kernel_rfl) (fun _ _ _ h => h) (Or.inl ⟨by rfl, ?_⟩) (by assumption) ?_
          rotate_left
          · intro X hSw
            have hq1 : (q : Int) < (kept.length : Int) := by omega
            go_simp
            try with_reducible rfl
          rotate_left
          try simp only [Act.put, List.setIfInBounds_toArray, List.set_cons_zero, List.set_cons_succ, List.getElem_toArray, List.getElem_cons_zero, List.getElem_cons_succ]
          refine wpAnyH_take (i := 11) (v := ?_) rfl (by kernel_rfl) (by kernel_rfl) (by kernel_rfl) (fun _ _ _ h => h) (Or.inl ⟨by rfl, ?_⟩) (by assumption) ?_
          rotate_left
          · intro X hSw
            go_simp
            try with_reducible rfl
          rotate_left
          try simp only [Act.put, List.setIfInBounds_toArray, List.set_cons_zero, List.set_cons_succ, List.getElem_toArray, List.getElem_cons_zero, List.getElem_cons_succ]
          refine wpAnyH_take (i := 12) (v := ?_) rfl (by kernel_rfl) (by kernel_rfl) (by kernel_rfl) (fun _ _ _ h => h) (Or.inl ⟨by rfl, ?_⟩) (by assumption) ?_
          rotate_left
          · intro X hSw
            have hd1 : X.cell? ⟨w.heap.size, 1, none⟩ = some (.slice (some ⟨b, off', none⟩) ws.length eb) := hSw.1.1.cell 1
            have hp0 := HC0.out X hSw.2.2
            have hp1 := HC1.out X hSw.2.2
            go_simp
            try with_reducible rfl
          rotate_left
          try simp only [Act.put, List.setIfInBounds_toArray, List.set_cons_zero, List.set_cons_succ, List.getElem_toArray, List.getElem_cons_zero, List.getElem_cons_succ]
          refine wpAnyH_take (i := 13) (v := ?_) rfl (by kernel_rfl) (by kernel_rfl) (by kernel_rfl) (fun _ _ _ h => h) (Or.inl ⟨by rfl, ?_⟩) (by assumption) ?_
          rotate_left
          · intro X hSw
            have hq1 : (q : Int) < (kept.length : Int) := by omega
            go_simp
            try with_reducible rfl
          rotate_left
          try simp only [Act.put, List.setIfInBounds_toArray, List.set_cons_zero, List.set_cons_succ, List.getElem_toArray, List.getElem_cons_zero, List.getElem_cons_succ]
          refine wpAnyH_ready (rs := [14]) (by kernel_rfl) (by simp) ?_
          refine (AllReadyH.cons rfl (fun K hK => ?_) AllReadyH.nil)
          rw [if_pos (by rfl)]
          obtain ⟨ys, hys, hyo⟩ : ∃ ys : List (List UInt8), ys.set q s = cur.set q s ∧ wr.drew.ownsRow W0.heap.size 9 1 (.slice (some ⟨g, 0, none⟩) kept.length cap) kept.length (ys.map strV) := hHeld.1.2.elim (fun h => ⟨cur, rfl, h⟩) (fun h => ⟨cur.set q s, by simp, h⟩)
          have hyl : ys.length = kept.length := by have := hyo.1; simpa using this
          have hcu : wr.drew.cell? ⟨g, q, none⟩ = some (strV (ys[q]'(by omega))) := by
            rw [hyo.cellAt q (by omega), List.getElem?_map, List.getElem?_eq_getElem (by omega)]; rfl
          have hfr := hyo.frozenAt q
          have hst := (hyo.stored q (.string ⟨s.toArray⟩)).1
          rw [show (ys.map strV).set q (.string ⟨s.toArray⟩) = (cur.set q s).map strV from by rw [← hys, List.map_set]; rfl] at hst
          have hgl := HG.out
          have hlt0 := HL0.out
          have HST := Lib.hid (show (wr.setCell ⟨g, q, none⟩ (.string ⟨s.toArray⟩)).drew.ownsRow W0.heap.size 9 1 (.slice (some ⟨g, 0, none⟩) kept.length cap) kept.length ((cur.set q s).map strV) from hst)
          have HSV := Lib.hid (show TBox (wr.setCell ⟨g, q, none⟩ (.string ⟨s.toArray⟩)).drew w.heap.size 25 #[.slice A kept.length c, .slice (some ⟨b, off', none⟩) ws.length eb, .bool off] from hHeld.1.1.far _ _ _ (by omega))
          have hs1 := HS0.out
          have HRV := Lib.hid (show TBox (wr.setCell ⟨g, q, none⟩ (.string ⟨s.toArray⟩)).drew (w.heap.size + 1) 25 #[.slice none 0 0, .slice none 0 0, .bool false] from hHeld.2.1.far g q (.string ⟨s.toArray⟩) (by omega))
          have HBS := Lib.hid (show Below w.heap.size w (wr.setCell ⟨g, q, none⟩ (.string ⟨s.toArray⟩)).drew from hHeld.2.2.setCell (p := ⟨g, q, none⟩) (by simp; omega) _)
          clear hst hyo hHeld
          go_wp2_with fail
          generalize (wr.setCell ⟨g, q, none⟩ (.string ⟨s.toArray⟩)).drew = W5 at *
          have hHeld := And.intro (And.intro HSV.out (Or.inr (a := W5.ownsRow W0.heap.size 9 1 (.slice (some ⟨g, 0, none⟩) kept.length cap) kept.length (cur.map strV)) HST.out)) (And.intro HRV.out HBS.out)
          refine hK.out _ _ hHeld (fun _ => ?_)
          clear hK K
          try simp only [Act.put, List.setIfInBounds_toArray, List.set_cons_zero, List.set_cons_succ, List.getElem_toArray, List.getElem_cons_zero, List.getElem_cons_succ]
          refine wpAnyH_done (by kernel_rfl) ?_ _
          go_wp2_with fail
          go_roundw
          case rel => exact ⟨k + 1, by omega, by go_num, hHeld.1.1, hHeld.2.1, by rw [HST1.out]; exact HST.out, hHeld.2.2⟩
          case measure => simp [intOf]; omega
      · have hown := HOWN.out
        rw [lets_cut _ _ _ k (by omega) hk] at hown
        have tr := HTR.out
        have r0 : wr.cell? ⟨w.heap.size + 1, 0, none⟩ = some (.slice none 0 0) := tr.cell 0
        have r1 : wr.cell? ⟨w.heap.size + 1, 1, none⟩ = some (.slice none 0 0) := tr.cell 1
        have r2 : wr.cell? ⟨w.heap.size + 1, 2, none⟩ = some (.bool false) := tr.cell 2
        have f0 := tr.free 0
        have f1 := tr.free 1
        have f2 := tr.free 2
        have hil : (doneL kept (lets kept.length (keepP keep) 0 ws)).length = kept.length := doneL_len _ _
        generalize doneL kept (lets kept.length (keepP keep) 0 ws) = im at *
        have hs0 := HS0.out
        have hrr := Row.of_owns (owns_setCell (owns_setCell (owns_setCell hown ⟨w.heap.size + 1, 0, none⟩ (.slice (some ⟨g, 0, none⟩) kept.length cap) (by simp; omega)) ⟨w.heap.size + 1, 1, none⟩ (.slice none 0 0) (by simp; omega)) ⟨w.heap.size + 1, 2, none⟩ (.bool false) (by simp; omega))
        rw [← hil] at hrr
        have hbb := ((HBW.out.setCell (p := ⟨w.heap.size + 1, 0, none⟩) (by simp) (.slice (some ⟨g, 0, none⟩) im.length cap)).setCell (p := ⟨w.heap.size + 1, 1, none⟩) (by simp) (.slice none 0 0)).setCell (p := ⟨w.heap.size + 1, 2, none⟩) (by simp) (.bool false)
        have HFIN := Lib.hid (show RetD w ⟨im, [], false⟩ (.returned (.agg #[.slice (some ⟨g, 0, none⟩) im.length cap, .slice none 0 0, .bool false])) _ from ⟨_, rfl, DiskV.row hrr, hbb⟩)
        rw [hil] at HFIN
        clear hown tr hrr hbb
        go_wp2_with fail
        refine bodyPost_ret (v := .agg #[.slice (some ⟨g, 0, none⟩) kept.length cap, .slice none 0 0, .bool false]) (by simp [results, Try.results28, go_sem, r0, r1, r2]) rfl HFIN.out
    · obtain rfl : k = ws.length := by omega
      have hown := HOWN.out
      rw [List.take_length] at hown
      have tr := HTR.out
      have r0 : wr.cell? ⟨w.heap.size + 1, 0, none⟩ = some (.slice none 0 0) := tr.cell 0
      have r1 : wr.cell? ⟨w.heap.size + 1, 1, none⟩ = some (.slice none 0 0) := tr.cell 1
      have r2 : wr.cell? ⟨w.heap.size + 1, 2, none⟩ = some (.bool false) := tr.cell 2
      have f0 := tr.free 0
      have f1 := tr.free 1
      have f2 := tr.free 2
      have hil : (doneL kept (lets kept.length (keepP keep) 0 ws)).length = kept.length := doneL_len _ _
      generalize doneL kept (lets kept.length (keepP keep) 0 ws) = im at *
      have hs0 := HS0.out
      have hrr := Row.of_owns (owns_setCell (owns_setCell (owns_setCell hown ⟨w.heap.size + 1, 0, none⟩ (.slice (some ⟨g, 0, none⟩) kept.length cap) (by simp; omega)) ⟨w.heap.size + 1, 1, none⟩ (.slice none 0 0) (by simp; omega)) ⟨w.heap.size + 1, 2, none⟩ (.bool false) (by simp; omega))
      rw [← hil] at hrr
      have hbb := ((HBW.out.setCell (p := ⟨w.heap.size + 1, 0, none⟩) (by simp) (.slice (some ⟨g, 0, none⟩) im.length cap)).setCell (p := ⟨w.heap.size + 1, 1, none⟩) (by simp) (.slice none 0 0)).setCell (p := ⟨w.heap.size + 1, 2, none⟩) (by simp) (.bool false)
      have HFIN := Lib.hid (show RetD w ⟨im, [], false⟩ (.returned (.agg #[.slice (some ⟨g, 0, none⟩) im.length cap, .slice none 0 0, .bool false])) _ from ⟨_, rfl, DiskV.row hrr, hbb⟩)
      rw [hil] at HFIN
      clear hown tr hrr hbb
      go_wp2_with fail
      refine bodyPost_ret (v := .agg #[.slice (some ⟨g, 0, none⟩) kept.length cap, .slice none 0 0, .bool false]) (by simp [results, Try.results28, go_sem, r0, r1, r2]) rfl HFIN.out
end Go.Proofs.Ytahnkkmngbckdaa
