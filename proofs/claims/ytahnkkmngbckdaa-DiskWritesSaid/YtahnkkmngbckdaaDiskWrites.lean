/- Proved: copyholdlaw04.DiskWrites returns true for every disk, number, text and marks, and leaves them as they were: what is written, flushed, and left by a crash, is as the document says. No condition beyond the form's own reach. -/
import Derived.Test.YtahnkkmngbckdaaDisk15
namespace Go.Proofs.Ytahnkkmngbckdaa.diskWrites
open Go.ChangeShapes Go.WideShapes Go.ChangeAt Go.RowKit Copyhold Copyhold.Disk
open Go.ChangeMaps (open_string shut_string)
set_option linter.unusedVariables false
set_option linter.unusedSimpArgs false

set_option maxRecDepth 100000 in
set_option maxHeartbeats 16000000 in
theorem walk (w : World) (kv : Value) (kept : List (List UInt8)) (hk : Row w kv (kept.map strV)) (hkl : kept.length ≤ 8796093022207 ∧ ∀ l ∈ kept, l.length ≤ 140737488351232) (pv : Value) (ws : List PutW) (hp : Puts w pv ws) (hpo : OkPuts ws) (hpl : ws.length ≤ 5864062014634) (off : Bool) (at' : Int) (wa : (Lit.int .i64 at').wf = true) (s : List UInt8) (zs : s.length ≤ 140737488351232) (mv : Value) (keep : List Bool) (hkv : Row w mv (keep.map Value.bool)) (hkn : keep.length ≤ 140737488351232) :
    Calls Try.prog 4 #[.agg #[kv, pv, .bool off, .int .i64 at', .string ⟨s.toArray⟩, mv]] w fun e w' => e = .returned (.bool true) ∧ Below w.heap.size w w' := by
  obtain ⟨K, kc, rfl⟩ := hkv.shape
  rw [List.length_map] at hkv ⊢
  obtain ⟨A, c, rfl⟩ := hk.shape
  obtain ⟨B, e0, rfl, -⟩ := hp.shape
  rw [List.length_map] at hk ⊢
  have hv : DiskV w (.agg #[.slice A kept.length c, .slice B ws.length e0, .bool off]) ⟨kept, ws, off⟩ := ⟨A, c, B, e0, rfl, hk, hp⟩
  have hok : OkD ⟨kept, ws, off⟩ := ⟨by have := hkl.1; simp only; omega, hkl.2, hpo, hpl⟩
  have hn : kept.length ≤ 8796093022208 := hok.1
  have ba := i64_of wa
  clear wa
  have HFW := Lib.hid (fun v W hv => law_few ⟨kept, ws, off⟩ v W hv hok)
  obtain ⟨wu1, hu1⟩ : ∃ u, u = w.alloc (.cells #[.slice A kept.length c, .slice B ws.length e0, .bool off, .int .i64 at', .string ⟨s.toArray⟩, .slice K keep.length kc] 45) := ⟨_, rfl⟩
  have su1 : wu1.heap.size = w.heap.size + 1 := by rw [hu1]; simp
  have tu1 : TBox wu1 (w.heap.size) 45 #[.slice A kept.length c, .slice B ws.length e0, .bool off, .int .i64 at', .string ⟨s.toArray⟩, .slice K keep.length kc] := by rw [hu1]; exact TBox.new _ _ _
  have bu1 : Below w.heap.size w wu1 := by rw [hu1]; exact (Below.refl _ _).alloc (Nat.le_refl _) _
  have BU1 := bu1
  obtain ⟨wu2, hu2⟩ : ∃ u, u = wu1.alloc (.cells #[.slice A kept.length c, .slice B ws.length e0, .bool off] 25) := ⟨_, rfl⟩
  have su2 : wu2.heap.size = w.heap.size + 2 := by rw [hu2]; simp [su1]
  have tu2 : TBox wu2 (w.heap.size + 1) 25 #[.slice A kept.length c, .slice B ws.length e0, .bool off] := by rw [hu2, ← su1]; exact TBox.new _ _ _
  have bu2 : Below wu1.heap.size wu1 wu2 := by rw [hu2]; exact (Below.refl _ _).alloc (Nat.le_refl _) _
  have BU2 := below_trans BU1 bu2 BU1.size
  have Hs0 := Lib.hid (tu1.below bu2)
  have Hd0 := Lib.hid tu2
  have BW_0 := Lib.hid BU2
  have HW : Hid (wu2 = ((w.alloc (.cells #[.slice A kept.length c, .slice B ws.length e0, .bool off, .int .i64 at', .string ⟨s.toArray⟩, .slice K keep.length kc] 45)).alloc (.cells #[.slice A kept.length c, .slice B ws.length e0, .bool off] 25))) := Lib.hid (by rw [hu2, hu1])
  have HSZ := Lib.hid su2
  obtain ⟨W0, hW0⟩ : ∃ u, u = wu2 := ⟨_, rfl⟩
  rw [← hW0] at Hs0 Hd0 BW_0 HW HSZ
  clear hW0 hu1 su1 tu1 bu1 BU1 hu2 su2 tu2 bu2 BU2
  have Rd0 := Lib.hid (hv.below BW_0.out)
  have Rk0 := Lib.hid (hkv.below BW_0.out)
  clear hkv
  clear hv hk hp
  go_enter Try.func4, Try.ntmps4
  go_wp2_with fail
  rw [← HW.out]
  refine (law_shown _).mono ?_
  rintro e w1 ⟨rfl, hb⟩
  have Hd_1 := Lib.hid (Hd0.out.below hb)
  have Rd_1 := Lib.hid (Rd0.out.below hb)
  have Rk_1 := Lib.hid (Rk0.out.below hb)
  have BW_1 := Lib.hid (below_trans BW_0.out hb BW_0.out.size)
  clear hb 
  have cd_0 : w1.cell? ⟨(w.heap.size + 1), 0, none⟩ = some (.slice A kept.length c) := Hd_1.out.cell 0
  have cd_1 : w1.cell? ⟨(w.heap.size + 1), 1, none⟩ = some (.slice B ws.length e0) := Hd_1.out.cell 1
  have cd_2 : w1.cell? ⟨(w.heap.size + 1), 2, none⟩ = some (.bool off) := Hd_1.out.cell 2
  go_wp2_with fail
  refine (HFW.out _ _ Rd_1.out).mono ?_
  rintro e w2 ⟨rfl, hb⟩
  have Hd_2 := Lib.hid (Hd_1.out.below hb)
  have Rd_2 := Lib.hid (Rd_1.out.below hb)
  have Rk_2 := Lib.hid (Rk_1.out.below hb)
  have BW_2 := Lib.hid (below_trans BW_1.out hb BW_1.out.size)
  clear hb 
  clear cd_0 cd_1 cd_2
  cases hf : fewB ⟨kept, ws, off⟩ with
  | false =>
    have HFF := Lib.hid hf
    clear hf
    go_wp2_with fail
    go_ret
    exact ⟨rfl, BW_2.out⟩
  | true =>
    obtain ⟨hk50, hw50, hR⟩ : kept.length ≤ 50 ∧ ws.length ≤ 50 ∧ Right ⟨kept, ws, off⟩ := of_decide_eq_true hf
    clear hf
    have okw := write_ok hok (by simp only; omega) at' ba s
    have okf := flush_ok hok
    have okc := crash_ok hok keep
    have HW1 := Lib.hid (fun v W hv => disk_Write _ v at' s W hv hok zs)
    have HW2 := Lib.hid (fun v W hv => ref04_Write _ v at' s W hv hok (by simp only; omega) zs)
    have HF1 := Lib.hid (fun v W hv => disk_Flush _ v W hv hok)
    have HF2 := Lib.hid (fun v W hv => ref04_Flush _ v W hv hok hR)
    have HC1 := Lib.hid (fun v kv W hv hk => disk_Crash _ v kv keep W hv hok hk hkn)
    have HC2 := Lib.hid (fun v kv W hv hk => ref04_Crash _ v kv keep W hv hok hR hk hkn)
    generalize writeD ⟨kept, ws, off⟩ at' s = wd at *
    generalize flushD ⟨kept, ws, off⟩ = fd at *
    generalize crashL ⟨kept, ws, off⟩ keep = cl at *
    obtain ⟨wd, we⟩ := wd
    obtain ⟨fd, fe⟩ := fd
    simp only at okw okf HW1 HW2 HF1 HF2
    have HS1 := Lib.hid (fun va vb W ha hb => ref04_Same wd va vb W ha hb okw)
    have HS2 := Lib.hid (fun va vb W ha hb => ref04_Same fd va vb W ha hb okf)
    have HS3 := Lib.hid (fun va vb W ha hb => ref04_Same ⟨cl, [], false⟩ va vb W ha hb okc)
    clear okw okf okc hR
    have cd_0 : w2.cell? ⟨(w.heap.size + 1), 0, none⟩ = some (.slice A kept.length c) := Hd_2.out.cell 0
    have cd_1 : w2.cell? ⟨(w.heap.size + 1), 1, none⟩ = some (.slice B ws.length e0) := Hd_2.out.cell 1
    have cd_2 : w2.cell? ⟨(w.heap.size + 1), 2, none⟩ = some (.bool off) := Hd_2.out.cell 2
    go_wp2_with fail
    clear cd_0 cd_1 cd_2
    refine (HW1.out _ _ Rd_2.out).mono ?_
    rintro e w3 ⟨v, rfl, hdv, hb⟩
    have Hd_3 := Lib.hid (Hd_2.out.below hb)
    have Rd_3 := Lib.hid (Rd_2.out.below hb)
    have Rk_3 := Lib.hid (Rk_2.out.below hb)
    have BW_3 := Lib.hid (below_trans BW_2.out hb BW_2.out.size)
    clear hb 
    obtain ⟨Aa, ca, Ba, ea, rfl⟩ := hdv.opn (n := wd.kept.length) (m := wd.w.length) rfl rfl
    have Ra := Lib.hid hdv
    clear hdv
    obtain ⟨v4, hW⟩ : ∃ W, W = w3.alloc (.cells #[.slice Aa wd.kept.length ca, .slice Ba wd.w.length ea, .bool wd.off] 25) := ⟨_, rfl⟩
    have hbn : Below w3.heap.size w3 v4 := by rw [hW]; exact (Below.refl _ _).alloc (Nat.le_refl _) _
    have Ha := Lib.hid (show TBox v4 w3.heap.size 25 #[.slice Aa wd.kept.length ca, .slice Ba wd.w.length ea, .bool wd.off] from by rw [hW]; exact TBox.new _ _ _)
    have HWv4 := Lib.hid hW
    clear hW
    have Hd_v4 := Lib.hid (Hd_3.out.below hbn)
    have Rd_v4 := Lib.hid (Rd_3.out.below hbn)
    have Rk_v4 := Lib.hid (Rk_3.out.below hbn)
    have Ra_v4 := Lib.hid (Ra.out.below hbn)
    have BW_v4 := Lib.hid (below_trans BW_3.out hbn BW_3.out.size)
    clear hbn
    have ltd := Hd_3.out.lt
    have cd_0 : w3.cell? ⟨(w.heap.size + 1), 0, none⟩ = some (.slice A kept.length c) := Hd_3.out.cell 0
    have cd_1 : w3.cell? ⟨(w.heap.size + 1), 1, none⟩ = some (.slice B ws.length e0) := Hd_3.out.cell 1
    have cd_2 : w3.cell? ⟨(w.heap.size + 1), 2, none⟩ = some (.bool off) := Hd_3.out.cell 2
    go_wp2_with fail
    rw [← HWv4.out]
    refine (HW2.out _ _ Rd_v4.out).mono ?_
    rintro e w5 ⟨v, rfl, hdv, hb⟩
    have Hd_5 := Lib.hid (Hd_v4.out.below hb)
    have Ha_5 := Lib.hid (Ha.out.below hb)
    have Rd_5 := Lib.hid (Rd_v4.out.below hb)
    have Rk_5 := Lib.hid (Rk_v4.out.below hb)
    have Ra_5 := Lib.hid (Ra_v4.out.below hb)
    have BW_5 := Lib.hid (below_trans BW_v4.out hb BW_v4.out.size)
    clear hb 
    clear cd_0 cd_1 cd_2
    obtain ⟨Ab, cb, Bb, eb, rfl⟩ := hdv.opn (n := wd.kept.length) (m := wd.w.length) rfl rfl
    have Rb := Lib.hid hdv
    clear hdv
    obtain ⟨v6, hW⟩ : ∃ W, W = w5.alloc (.cells #[.slice Ab wd.kept.length cb, .slice Bb wd.w.length eb, .bool wd.off] 25) := ⟨_, rfl⟩
    have hbn : Below w5.heap.size w5 v6 := by rw [hW]; exact (Below.refl _ _).alloc (Nat.le_refl _) _
    have Hb := Lib.hid (show TBox v6 w5.heap.size 25 #[.slice Ab wd.kept.length cb, .slice Bb wd.w.length eb, .bool wd.off] from by rw [hW]; exact TBox.new _ _ _)
    have HWv6 := Lib.hid hW
    clear hW
    have Hd_v6 := Lib.hid (Hd_5.out.below hbn)
    have Ha_v6 := Lib.hid (Ha_5.out.below hbn)
    have Rd_v6 := Lib.hid (Rd_5.out.below hbn)
    have Rk_v6 := Lib.hid (Rk_5.out.below hbn)
    have Ra_v6 := Lib.hid (Ra_5.out.below hbn)
    have Rb_v6 := Lib.hid (Rb.out.below hbn)
    have BW_v6 := Lib.hid (below_trans BW_5.out hbn BW_5.out.size)
    clear hbn
    have ltd := Hd_5.out.lt
    have lta := Ha_5.out.lt
    have cd_0 : w5.cell? ⟨(w.heap.size + 1), 0, none⟩ = some (.slice A kept.length c) := Hd_5.out.cell 0
    have cd_1 : w5.cell? ⟨(w.heap.size + 1), 1, none⟩ = some (.slice B ws.length e0) := Hd_5.out.cell 1
    have cd_2 : w5.cell? ⟨(w.heap.size + 1), 2, none⟩ = some (.bool off) := Hd_5.out.cell 2
    go_wp2_with fail
    rw [← HWv6.out]
    refine (HF1.out _ _ Rd_v6.out).mono ?_
    rintro e w7 ⟨v, rfl, hdv, hb⟩
    have Hd_7 := Lib.hid (Hd_v6.out.below hb)
    have Ha_7 := Lib.hid (Ha_v6.out.below hb)
    have Hb_7 := Lib.hid (Hb.out.below hb)
    have Rd_7 := Lib.hid (Rd_v6.out.below hb)
    have Rk_7 := Lib.hid (Rk_v6.out.below hb)
    have Ra_7 := Lib.hid (Ra_v6.out.below hb)
    have Rb_7 := Lib.hid (Rb_v6.out.below hb)
    have BW_7 := Lib.hid (below_trans BW_v6.out hb BW_v6.out.size)
    clear hb 
    clear cd_0 cd_1 cd_2
    obtain ⟨Ax, cx, Bx, ex, rfl⟩ := hdv.opn (n := fd.kept.length) (m := fd.w.length) rfl rfl
    have Rx := Lib.hid hdv
    clear hdv
    obtain ⟨v8, hW⟩ : ∃ W, W = w7.alloc (.cells #[.slice Ax fd.kept.length cx, .slice Bx fd.w.length ex, .bool fd.off] 25) := ⟨_, rfl⟩
    have hbn : Below w7.heap.size w7 v8 := by rw [hW]; exact (Below.refl _ _).alloc (Nat.le_refl _) _
    have Hx := Lib.hid (show TBox v8 w7.heap.size 25 #[.slice Ax fd.kept.length cx, .slice Bx fd.w.length ex, .bool fd.off] from by rw [hW]; exact TBox.new _ _ _)
    have HWv8 := Lib.hid hW
    clear hW
    have Hd_v8 := Lib.hid (Hd_7.out.below hbn)
    have Ha_v8 := Lib.hid (Ha_7.out.below hbn)
    have Hb_v8 := Lib.hid (Hb_7.out.below hbn)
    have Rd_v8 := Lib.hid (Rd_7.out.below hbn)
    have Rk_v8 := Lib.hid (Rk_7.out.below hbn)
    have Ra_v8 := Lib.hid (Ra_7.out.below hbn)
    have Rb_v8 := Lib.hid (Rb_7.out.below hbn)
    have Rx_v8 := Lib.hid (Rx.out.below hbn)
    have BW_v8 := Lib.hid (below_trans BW_7.out hbn BW_7.out.size)
    clear hbn
    have ltd := Hd_7.out.lt
    have lta := Ha_7.out.lt
    have ltb := Hb_7.out.lt
    have cd_0 : w7.cell? ⟨(w.heap.size + 1), 0, none⟩ = some (.slice A kept.length c) := Hd_7.out.cell 0
    have cd_1 : w7.cell? ⟨(w.heap.size + 1), 1, none⟩ = some (.slice B ws.length e0) := Hd_7.out.cell 1
    have cd_2 : w7.cell? ⟨(w.heap.size + 1), 2, none⟩ = some (.bool off) := Hd_7.out.cell 2
    go_wp2_with fail
    rw [← HWv8.out]
    refine (HF2.out _ _ Rd_v8.out).mono ?_
    rintro e w9 ⟨v, rfl, hdv, hb⟩
    have Hd_9 := Lib.hid (Hd_v8.out.below hb)
    have Ha_9 := Lib.hid (Ha_v8.out.below hb)
    have Hb_9 := Lib.hid (Hb_v8.out.below hb)
    have Hx_9 := Lib.hid (Hx.out.below hb)
    have Rd_9 := Lib.hid (Rd_v8.out.below hb)
    have Rk_9 := Lib.hid (Rk_v8.out.below hb)
    have Ra_9 := Lib.hid (Ra_v8.out.below hb)
    have Rb_9 := Lib.hid (Rb_v8.out.below hb)
    have Rx_9 := Lib.hid (Rx_v8.out.below hb)
    have BW_9 := Lib.hid (below_trans BW_v8.out hb BW_v8.out.size)
    clear hb 
    clear cd_0 cd_1 cd_2
    obtain ⟨Ay, cy, By, ey, rfl⟩ := hdv.opn (n := fd.kept.length) (m := fd.w.length) rfl rfl
    have Ry := Lib.hid hdv
    clear hdv
    obtain ⟨v10, hW⟩ : ∃ W, W = w9.alloc (.cells #[.slice Ay fd.kept.length cy, .slice By fd.w.length ey, .bool fd.off] 25) := ⟨_, rfl⟩
    have hbn : Below w9.heap.size w9 v10 := by rw [hW]; exact (Below.refl _ _).alloc (Nat.le_refl _) _
    have Hy := Lib.hid (show TBox v10 w9.heap.size 25 #[.slice Ay fd.kept.length cy, .slice By fd.w.length ey, .bool fd.off] from by rw [hW]; exact TBox.new _ _ _)
    have HWv10 := Lib.hid hW
    clear hW
    have Hd_v10 := Lib.hid (Hd_9.out.below hbn)
    have Ha_v10 := Lib.hid (Ha_9.out.below hbn)
    have Hb_v10 := Lib.hid (Hb_9.out.below hbn)
    have Hx_v10 := Lib.hid (Hx_9.out.below hbn)
    have Rd_v10 := Lib.hid (Rd_9.out.below hbn)
    have Rk_v10 := Lib.hid (Rk_9.out.below hbn)
    have Ra_v10 := Lib.hid (Ra_9.out.below hbn)
    have Rb_v10 := Lib.hid (Rb_9.out.below hbn)
    have Rx_v10 := Lib.hid (Rx_9.out.below hbn)
    have Ry_v10 := Lib.hid (Ry.out.below hbn)
    have BW_v10 := Lib.hid (below_trans BW_9.out hbn BW_9.out.size)
    clear hbn
    go_wp2_with fail
    rw [← HWv10.out]
    refine wp_region_held_drew (S := fun V => Below v10.heap.size v10 V) (by kernel_rfl) (below_dn (Below.refl _ _) 1) (fun hHeld => ?_)
    refine wpAnyH_take (i := 0) (v := ?_) rfl (by kernel_rfl) (by kernel_rfl) (by kernel_rfl) (fun _ _ _ h => h) (Or.inl ⟨by rfl, ?_⟩) (by assumption) ?_
    rotate_left
    · intro X hSw
      have hc0 : X.cell? ⟨w3.heap.size, 0, none⟩ = some (.slice Aa wd.kept.length ca) := (Ha_v10.out.below hSw).cell 0
      have hc1 : X.cell? ⟨w3.heap.size, 1, none⟩ = some (.slice Ba wd.w.length ea) := (Ha_v10.out.below hSw).cell 1
      have hc2 : X.cell? ⟨w3.heap.size, 2, none⟩ = some (.bool wd.off) := (Ha_v10.out.below hSw).cell 2
      go_simp
      try with_reducible rfl
    rotate_left
    try simp only [Act.put, List.setIfInBounds_toArray, List.set_cons_zero, List.set_cons_succ, List.getElem_toArray, List.getElem_cons_zero, List.getElem_cons_succ]
    refine wpAnyH_take (i := 1) (v := ?_) rfl (by kernel_rfl) (by kernel_rfl) (by kernel_rfl) (fun _ _ _ h => h) (Or.inl ⟨by rfl, ?_⟩) (by assumption) ?_
    rotate_left
    · intro X hSw
      have hc0 : X.cell? ⟨w5.heap.size, 0, none⟩ = some (.slice Ab wd.kept.length cb) := (Hb_v10.out.below hSw).cell 0
      have hc1 : X.cell? ⟨w5.heap.size, 1, none⟩ = some (.slice Bb wd.w.length eb) := (Hb_v10.out.below hSw).cell 1
      have hc2 : X.cell? ⟨w5.heap.size, 2, none⟩ = some (.bool wd.off) := (Hb_v10.out.below hSw).cell 2
      go_simp
      try with_reducible rfl
    rotate_left
    try simp only [Act.put, List.setIfInBounds_toArray, List.set_cons_zero, List.set_cons_succ, List.getElem_toArray, List.getElem_cons_zero, List.getElem_cons_succ]
    refine wpAnyH_ready (rs := [2]) (by kernel_rfl) (by simp) ?_
    refine (AllReadyH.cons rfl (fun K hK => ?_) AllReadyH.nil)
    rw [if_pos (by rfl)]
    go_wp2_with fail
    refine (HS1.out _ _ _ (Ra_v10.out.below hHeld) (Rb_v10.out.below hHeld)).mono ?_
    rintro e wz ⟨rfl, hb⟩
    replace hHeld := below_trans hHeld hb (Below.size hHeld)
    clear hb
    refine hK.out _ _ hHeld (fun _ => ?_)
    clear hK K
    try simp only [Act.put, List.setIfInBounds_toArray, List.set_cons_zero, List.set_cons_succ, List.getElem_toArray, List.getElem_cons_zero, List.getElem_cons_succ]
    refine wpAnyH_take (i := 3) (v := ?_) rfl (by kernel_rfl) (by kernel_rfl) (by kernel_rfl) (fun _ _ _ h => h) (Or.inl ⟨by rfl, ?_⟩) (by assumption) ?_
    rotate_left
    · intro X hSw
      go_simp
      try with_reducible rfl
    rotate_left
    try simp only [Act.put, List.setIfInBounds_toArray, List.set_cons_zero, List.set_cons_succ, List.getElem_toArray, List.getElem_cons_zero, List.getElem_cons_succ]
    refine wpAnyH_take (i := 4) (v := ?_) rfl (by kernel_rfl) (by kernel_rfl) (by kernel_rfl) (fun _ _ _ h => h) (Or.inl ⟨by rfl, ?_⟩) (by assumption) ?_
    rotate_left
    · intro X hSw
      have hc0 : X.cell? ⟨w7.heap.size, 0, none⟩ = some (.slice Ax fd.kept.length cx) := (Hx_v10.out.below hSw).cell 0
      have hc1 : X.cell? ⟨w7.heap.size, 1, none⟩ = some (.slice Bx fd.w.length ex) := (Hx_v10.out.below hSw).cell 1
      have hc2 : X.cell? ⟨w7.heap.size, 2, none⟩ = some (.bool fd.off) := (Hx_v10.out.below hSw).cell 2
      go_simp
      try with_reducible rfl
    rotate_left
    try simp only [Act.put, List.setIfInBounds_toArray, List.set_cons_zero, List.set_cons_succ, List.getElem_toArray, List.getElem_cons_zero, List.getElem_cons_succ]
    refine wpAnyH_take (i := 5) (v := ?_) rfl (by kernel_rfl) (by kernel_rfl) (by kernel_rfl) (fun _ _ _ h => h) (Or.inl ⟨by rfl, ?_⟩) (by assumption) ?_
    rotate_left
    · intro X hSw
      have hc0 : X.cell? ⟨w9.heap.size, 0, none⟩ = some (.slice Ay fd.kept.length cy) := (Hy.out.below hSw).cell 0
      have hc1 : X.cell? ⟨w9.heap.size, 1, none⟩ = some (.slice By fd.w.length ey) := (Hy.out.below hSw).cell 1
      have hc2 : X.cell? ⟨w9.heap.size, 2, none⟩ = some (.bool fd.off) := (Hy.out.below hSw).cell 2
      go_simp
      try with_reducible rfl
    rotate_left
    try simp only [Act.put, List.setIfInBounds_toArray, List.set_cons_zero, List.set_cons_succ, List.getElem_toArray, List.getElem_cons_zero, List.getElem_cons_succ]
    refine wpAnyH_ready (rs := [6]) (by kernel_rfl) (by simp) ?_
    refine (AllReadyH.cons rfl (fun K hK => ?_) AllReadyH.nil)
    rw [if_pos (by rfl)]
    go_wp2_with fail
    refine (HS2.out _ _ _ (Rx_v10.out.below hHeld) (Ry_v10.out.below hHeld)).mono ?_
    rintro e wz ⟨rfl, hb⟩
    replace hHeld := below_trans hHeld hb (Below.size hHeld)
    clear hb
    refine hK.out _ _ hHeld (fun _ => ?_)
    clear hK K
    try simp only [Act.put, List.setIfInBounds_toArray, List.set_cons_zero, List.set_cons_succ, List.getElem_toArray, List.getElem_cons_zero, List.getElem_cons_succ]
    refine wpAnyH_take (i := 7) (v := ?_) rfl (by kernel_rfl) (by kernel_rfl) (by kernel_rfl) (fun _ _ _ h => h) (Or.inl ⟨by rfl, ?_⟩) (by assumption) ?_
    rotate_left
    · intro X hSw
      go_simp
      try with_reducible rfl
    rotate_left
    try simp only [Act.put, List.setIfInBounds_toArray, List.set_cons_zero, List.set_cons_succ, List.getElem_toArray, List.getElem_cons_zero, List.getElem_cons_succ]
    refine wpAnyH_take (i := 8) (v := ?_) rfl (by kernel_rfl) (by kernel_rfl) (by kernel_rfl) (fun _ _ _ h => h) (Or.inl ⟨by rfl, ?_⟩) (by assumption) ?_
    rotate_left
    · intro X hSw
      go_simp
      try with_reducible rfl
    rotate_left
    try simp only [Act.put, List.setIfInBounds_toArray, List.set_cons_zero, List.set_cons_succ, List.getElem_toArray, List.getElem_cons_zero, List.getElem_cons_succ]
    refine wpAnyH_take (i := 9) (v := ?_) rfl (by kernel_rfl) (by kernel_rfl) (by kernel_rfl) (fun _ _ _ h => h) (Or.inl ⟨by rfl, ?_⟩) (by assumption) ?_
    rotate_left
    · intro X hSw
      have hc0 : X.cell? ⟨(w.heap.size + 1), 0, none⟩ = some (.slice A kept.length c) := (Hd_v10.out.below hSw).cell 0
      have hc1 : X.cell? ⟨(w.heap.size + 1), 1, none⟩ = some (.slice B ws.length e0) := (Hd_v10.out.below hSw).cell 1
      have hc2 : X.cell? ⟨(w.heap.size + 1), 2, none⟩ = some (.bool off) := (Hd_v10.out.below hSw).cell 2
      go_simp
      try with_reducible rfl
    rotate_left
    try simp only [Act.put, List.setIfInBounds_toArray, List.set_cons_zero, List.set_cons_succ, List.getElem_toArray, List.getElem_cons_zero, List.getElem_cons_succ]
    refine wpAnyH_take (i := 10) (v := ?_) rfl (by kernel_rfl) (by kernel_rfl) (by kernel_rfl) (fun _ _ _ h => h) (Or.inl ⟨by rfl, ?_⟩) (by assumption) ?_
    rotate_left
    · intro X hSw
      go_simp
      try with_reducible rfl
    rotate_left
    try simp only [Act.put, List.setIfInBounds_toArray, List.set_cons_zero, List.set_cons_succ, List.getElem_toArray, List.getElem_cons_zero, List.getElem_cons_succ]
    refine wpAnyH_take (i := 12) (v := ?_) rfl (by kernel_rfl) (by kernel_rfl) (by kernel_rfl) (fun _ _ _ h => h) (Or.inl ⟨by rfl, ?_⟩) (by assumption) ?_
    rotate_left
    · intro X hSw
      have hc0 : X.cell? ⟨(w.heap.size + 1), 0, none⟩ = some (.slice A kept.length c) := (Hd_v10.out.below hSw).cell 0
      have hc1 : X.cell? ⟨(w.heap.size + 1), 1, none⟩ = some (.slice B ws.length e0) := (Hd_v10.out.below hSw).cell 1
      have hc2 : X.cell? ⟨(w.heap.size + 1), 2, none⟩ = some (.bool off) := (Hd_v10.out.below hSw).cell 2
      go_simp
      try with_reducible rfl
    rotate_left
    try simp only [Act.put, List.setIfInBounds_toArray, List.set_cons_zero, List.set_cons_succ, List.getElem_toArray, List.getElem_cons_zero, List.getElem_cons_succ]
    refine wpAnyH_take (i := 13) (v := ?_) rfl (by kernel_rfl) (by kernel_rfl) (by kernel_rfl) (fun _ _ _ h => h) (Or.inl ⟨by rfl, ?_⟩) (by assumption) ?_
    rotate_left
    · intro X hSw
      go_simp
      try with_reducible rfl
    rotate_left
    try simp only [Act.put, List.setIfInBounds_toArray, List.set_cons_zero, List.set_cons_succ, List.getElem_toArray, List.getElem_cons_zero, List.getElem_cons_succ]
    refine wpAnyH_ready (rs := [11]) (by kernel_rfl) (by simp) ?_
    refine (AllReadyH.cons rfl (fun K hK => ?_) AllReadyH.nil)
    rw [if_pos (by rfl)]
    go_wp2_with fail
    refine (HC1.out _ _ _ (Rd_v10.out.below hHeld) (Rk_v10.out.below hHeld)).mono ?_
    rintro e wz ⟨v1, rfl, hd1, hb⟩
    replace hHeld := below_trans hHeld hb (Below.size hHeld)
    obtain ⟨A7, c7, B7, e7, rfl⟩ := hd1.opn (n := cl.length) (m := 0) rfl rfl
    clear hb
    refine hK.out _ _ hHeld (fun _ => ?_)
    clear hK K
    try simp only [Act.put, List.setIfInBounds_toArray, List.set_cons_zero, List.set_cons_succ, List.getElem_toArray, List.getElem_cons_zero, List.getElem_cons_succ]
    refine wpAnyH_ready (rs := [14]) (by kernel_rfl) (by simp) ?_
    refine (AllReadyH.cons rfl (fun K hK => ?_) AllReadyH.nil)
    rw [if_pos (by rfl)]
    go_wp2_with fail
    refine (HC2.out _ _ _ (Rd_v10.out.below hHeld) (Rk_v10.out.below hHeld)).mono ?_
    rintro e wz ⟨v2, rfl, hd2, hb⟩
    replace hHeld := below_trans hHeld hb (Below.size hHeld)
    obtain ⟨A8, c8, B8, e8, rfl⟩ := hd2.opn (n := cl.length) (m := 0) rfl rfl
    replace hd1 := hd1.below hb
    clear hb
    refine hK.out _ _ hHeld (fun _ => ?_)
    clear hK K
    try simp only [Act.put, List.setIfInBounds_toArray, List.set_cons_zero, List.set_cons_succ, List.getElem_toArray, List.getElem_cons_zero, List.getElem_cons_succ]
    refine wpAnyH_ready (rs := [15]) (by kernel_rfl) (by simp) ?_
    refine (AllReadyH.cons rfl (fun K hK => ?_) AllReadyH.nil)
    rw [if_pos (by rfl)]
    go_wp2_with fail
    refine (HS3.out _ _ _ hd1 hd2).mono ?_
    rintro e wz ⟨rfl, hb⟩
    replace hHeld := below_trans hHeld hb (Below.size hHeld)
    clear hb
    refine hK.out _ _ hHeld (fun _ => ?_)
    clear hK K
    try simp only [Act.put, List.setIfInBounds_toArray, List.set_cons_zero, List.set_cons_succ, List.getElem_toArray, List.getElem_cons_zero, List.getElem_cons_succ]
    refine wpAnyH_take (i := 16) (v := ?_) rfl (by kernel_rfl) (by kernel_rfl) (by kernel_rfl) (fun _ _ _ h => h) (Or.inl ⟨by rfl, ?_⟩) (by assumption) ?_
    rotate_left
    · intro X hSw
      go_simp
      try with_reducible rfl
    rotate_left
    try simp only [Act.put, List.setIfInBounds_toArray, List.set_cons_zero, List.set_cons_succ, List.getElem_toArray, List.getElem_cons_zero, List.getElem_cons_succ]
    refine wpAnyH_take (i := 17) (v := ?_) rfl (by kernel_rfl) (by kernel_rfl) (by kernel_rfl) (fun _ _ _ h => h) (Or.inl ⟨by rfl, ?_⟩) (by assumption) ?_
    rotate_left
    · intro X hSw
      go_simp
      try with_reducible rfl
    rotate_left
    try simp only [Act.put, List.setIfInBounds_toArray, List.set_cons_zero, List.set_cons_succ, List.getElem_toArray, List.getElem_cons_zero, List.getElem_cons_succ]
    refine wpAnyH_done (by kernel_rfl) ?_ _
    go_wp2_with fail
    go_ret
    exact ⟨rfl, below_trans BW_v10.out hHeld BW_v10.out.size⟩
theorem own : ownKnob Try.prog.godebug = none := by kernel_rfl
theorem laidOut : laidOutB Try.prog = true := by kernel_rfl
theorem cellscopyhold_copyholdlaw04_DiskWritesIn : Try.prog.cellsOf 45 = 6 := by kernel_rfl
theorem cellscopyhold_api_Disk : Try.prog.cellsOf 25 = 3 := by kernel_rfl
theorem cells__string : Try.prog.cellsOf 22 = 1 := by kernel_rfl
theorem cells__api_Put : Try.prog.cellsOf 23 = 1 := by kernel_rfl
theorem cellsbool : Try.prog.cellsOf 4 = 1 := by kernel_rfl
theorem cellsint : Try.prog.cellsOf 3 = 1 := by kernel_rfl
theorem cellsstring : Try.prog.cellsOf 9 = 1 := by kernel_rfl
theorem cells__bool : Try.prog.cellsOf 43 = 1 := by kernel_rfl

set_option maxRecDepth 100000 in
set_option maxHeartbeats 1000000 in
theorem lifted (os : Os) (started : os.Started) (H : Type) (enc : TypeId × Value → H) :
    ReturnsInHanded {} Try.checked os 4 .any (Rows.diskWritesSpec.pre6 enc Try.prog Try.f4 Rows.diskWritesRow.domain false) (Rows.diskWritesSpec.post enc Try.prog Try.f4 false true false false) := by
  refine returnsInHanded_of_change_sized (C := Try.checked) own started (by kernel_rfl) Try.func4
    (ChangeSpec.witness6 (enc := enc) (C := Try.checked) false ⟨#[], #[.agg #[.slice none 0 0, .slice none 0 0, .bool false, .int .i64 0, .string ByteArray.empty, .slice none 0 0]], []⟩ 8 (by kernel_rfl) (by kernel_rfl) (by kernel_rfl) (by kernel_rfl)) ?_
  intro W base args ds gs before hval0 hW hcnd hsz0 _
  have hsz : (DataW.weightsEach Try.prog (Try.f4.params.toList ++ []) (ds ++ gs)).all (· ≤ reachBytes) = true := hsz0
  clear hsz0
  have hval : ∀ (j : Nat) t v, Try.f4.params[j]? = some t → args[j]? = some v → Value.okWide Try.prog W .any base t v := hval0
  have hW' := hW
  have hlt := hW.lt
  obtain ⟨p, q, hA0, hV, rfl, hfz, hnd⟩ := hW
  have hA : DataW.TrodAll enc Try.prog W 0 (fun _ => true) true Try.f4.params.toList args.toList ds p := hA0
  rw [Try.params4] at hA hval
  obtain ⟨v0, vs0, d0, ds0, p0, q0, hargs, rfl, rfl, h0, r0⟩ := trodAll_cons hA
  obtain ⟨rfl, rfl, rfl⟩ := trodAll_nil r0
  obtain rfl : args = #[v0] := by cases args; simp_all
  obtain ⟨rfl, rfl⟩ := trodVars_none hV
  obtain ⟨cs0, rfl, hcz0⟩ := okWide_struct Try.underlying45 (hval 0 45 v0 rfl rfl)
  rw [cellscopyhold_copyholdlaw04_DiskWritesIn] at hcz0
  obtain ⟨c0_0_0, c0_0_1, c0_0_2, c0_1, c0_2, c0_3, rfl⟩ := array6_of hcz0
  obtain ⟨fuel0, hf0⟩ := h0
  obtain ⟨xs0, m0, _, hx0, _, hlen0, hfl0⟩ := DataW.trod_struct Try.underlying45 hf0
  obtain ⟨y0_0, y0_1, y0_2, y0_3, rfl⟩ := list4 hlen0
  have g0_0 : DataW.trod enc Try.prog W 0 (fun _ => true) true m0 25 [c0_0_0, c0_0_1, c0_0_2] = some y0_0 := by have h := hfl0 0 _ rfl; simpa [Value.cells, cellscopyhold_api_Disk] using h
  have g0_1 : DataW.trod enc Try.prog W 0 (fun _ => true) true m0 3 [c0_1] = some y0_1 := by have h := hfl0 1 _ rfl; simpa [Value.cells, cellsint] using h
  have g0_2 : DataW.trod enc Try.prog W 0 (fun _ => true) true m0 9 [c0_2] = some y0_2 := by have h := hfl0 2 _ rfl; simpa [Value.cells, cellsstring] using h
  have g0_3 : DataW.trod enc Try.prog W 0 (fun _ => true) true m0 43 [c0_3] = some y0_3 := by have h := hfl0 3 _ rfl; simpa [Value.cells, cells__bool] using h
  simp only [Prod.mk.injEq] at hx0
  obtain ⟨rfl, hp0⟩ := hx0
  subst hp0
  obtain ⟨xs0_0, m0_0, _, hx0_0, _, hlen0_0, hfl0_0⟩ := DataW.trod_struct Try.underlying25 g0_0
  obtain ⟨y0_0_0, y0_0_1, y0_0_2, rfl⟩ := list3 hlen0_0
  have g0_0_0 : DataW.trod enc Try.prog W 0 (fun _ => true) true m0_0 22 [c0_0_0] = some y0_0_0 := by have h := hfl0_0 0 _ rfl; simpa [Value.cells, cells__string] using h
  have g0_0_1 : DataW.trod enc Try.prog W 0 (fun _ => true) true m0_0 23 [c0_0_1] = some y0_0_1 := by have h := hfl0_0 1 _ rfl; simpa [Value.cells, cells__api_Put] using h
  have g0_0_2 : DataW.trod enc Try.prog W 0 (fun _ => true) true m0_0 4 [c0_0_2] = some y0_0_2 := by have h := hfl0_0 2 _ rfl; simpa [Value.cells, cellsbool] using h
  subst hx0_0
  have hw0_0_0 : ∀ n ∈ DataW.weights Try.prog 22 y0_0_0.1, n ≤ 140737488351232 := fun n hn => sized_deep hsz (by rw [Try.params4]; simp [DataW.weightsEach, DataW.weights, Try.underlying45, Try.underlying25, hn])
  obtain ⟨u0_0_0, a0_0_0, ev0_0_0, w0_0_0, e0_0_0⟩ := open_texts_at Try.underlying22 Try.underlying9 (by kernel_rfl) g0_0_0 (fun x hx => hlt x (by simp [hx]))
  obtain rfl : c0_0_0 = _ := by simpa using ev0_0_0
  have z0_0_0 := texts_sized Try.underlying22 (by kernel_rfl) e0_0_0 hw0_0_0
  have hw0_0_1 : ∀ n ∈ DataW.weights Try.prog 23 y0_0_1.1, n ≤ 140737488351232 := fun n hn => sized_deep hsz (by rw [Try.params4]; simp [DataW.weightsEach, DataW.weights, Try.underlying45, Try.underlying25, hn])
  obtain ⟨u0_0_1, a0_0_1, ev0_0_1, f0_0_1_0, f0_0_1_1, f0_0_1_2⟩ := open_puts g0_0_1 (fun x hx => hlt x (by simp [hx])) hw0_0_1
  obtain rfl : c0_0_1 = _ := by simpa using ev0_0_1
  obtain ⟨a0_0_2, ev0_0_2, ey0_0_2⟩ := DataW.trod_bool Try.underlying4 g0_0_2
  obtain rfl : c0_0_2 = _ := by simpa using ev0_0_2
  subst ey0_0_2
  obtain ⟨a0_1, ev0_1, ey0_1, w0_1⟩ := DataW.trod_int Try.underlying3 g0_1
  obtain rfl : c0_1 = _ := by simpa using ev0_1
  subst ey0_1
  obtain ⟨s0_2, ev0_2, ey0_2, w0_2⟩ := DataW.trod_string Try.underlying9 g0_2
  obtain rfl : c0_2 = _ := by simpa using ev0_2
  subst ey0_2
  have z0_2 : s0_2.data.toList.length ≤ 140737488351232 := sized_deep hsz (by rw [Try.params4]; simp [DataW.weightsEach, DataW.weights, Try.underlying45, Try.underlying25])
  obtain ⟨a0_2, rfl⟩ : ∃ l : List UInt8, s0_2 = ⟨l.toArray⟩ := ⟨s0_2.data.toList, rfl⟩
  have hw0_3 : ∀ n ∈ DataW.weights Try.prog 43 y0_3.1, n ≤ 140737488351232 := fun n hn => sized_deep hsz (by rw [Try.params4]; simp [DataW.weightsEach, DataW.weights, Try.underlying45, Try.underlying25, hn])
  obtain ⟨u0_3, a0_3, ev0_3, f0_3_0, f0_3_1⟩ := open_bools g0_3 (fun x hx => hlt x (by simp [hx])) hw0_3
  obtain rfl : c0_3 = _ := by simpa using ev0_3
  refine (walk W c0_0_0 a0_0_0 w0_0_0 z0_0_0 c0_0_1 a0_0_1 f0_0_1_0 f0_0_1_1 f0_0_1_2 a0_0_2 a0_1 w0_1 a0_2 z0_2 c0_3 a0_3 f0_3_0 f0_3_1).mono fun e W' ⟨he, hg⟩ => ?_
  subst he
  exact ⟨_, rfl, Copyhold.law_post laidOut (by kernel_rfl) (by kernel_rfl) Try.underlying4 rfl rfl rfl rfl hW' hg⟩

theorem over : Rows.diskWritesRow.holds Try.pinned (OpenSpec.ofChange Rows.diskWritesSpec) :=
  OpenClaim.holds_of_wide 4 Try.f4 rfl rfl rfl rfl rfl rfl rfl ⟨rfl, rfl, rfl, rfl, rfl⟩ rfl rfl rfl rfl rfl (by kernel_rfl) Try.func4 (by kernel_rfl)
    (of_decide_eq_true (by kernel_rfl)) (by unfold Func.isWrapper; first | (rw [if_pos (by decide +kernel)]; kernel_rfl) | (rw [if_neg (by decide +kernel)]; exact ⟨rfl, rfl⟩))
    (fun os started H enc _ => lifted os started H enc)

theorem proved : Rows.DiskWritesSaid :=
  over
end Go.Proofs.Ytahnkkmngbckdaa.diskWrites
