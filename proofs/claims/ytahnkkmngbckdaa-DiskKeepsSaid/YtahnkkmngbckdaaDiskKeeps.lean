/- Proved: copyholdlaw04.DiskKeeps returns true for every disk, marks, number and text, and leaves them as they were: what was flushed stays behind each crash; with all writes kept a crash leaves the image; a disk stays right. No condition beyond the form's own reach. -/
import Derived.Test.YtahnkkmngbckdaaDisk15
import Derived.Test.YtahnkkmngbckdaaDisk16
namespace Go.Proofs.Ytahnkkmngbckdaa.diskKeeps
open Go.ChangeShapes Go.WideShapes Go.ChangeAt Go.RowKit Copyhold Copyhold.Disk
open Go.ChangeMaps (open_string shut_string)
set_option linter.unusedVariables false
set_option linter.unusedSimpArgs false

set_option maxRecDepth 100000 in
set_option maxHeartbeats 16000000 in
theorem walk (w : World) (kv : Value) (kept : List (List UInt8)) (hk : Row w kv (kept.map strV)) (hkl : kept.length ≤ 8796093022207 ∧ ∀ l ∈ kept, l.length ≤ 140737488351232) (pv : Value) (ws : List PutW) (hp : Puts w pv ws) (hpo : OkPuts ws) (hpl : ws.length ≤ 5864062014634) (off : Bool) (mv : Value) (keep : List Bool) (hkv : Row w mv (keep.map Value.bool)) (hkn : keep.length ≤ 140737488351232) (at' : Int) (wa : (Lit.int .i64 at').wf = true) (s : List UInt8) (zs : s.length ≤ 140737488351232) :
    Calls Try.prog 5 #[.agg #[kv, pv, .bool off, mv, .int .i64 at', .string ⟨s.toArray⟩]] w fun e w' => e = .returned (.bool true) ∧ Below w.heap.size w w' := by
  obtain ⟨K, kc, rfl⟩ := hkv.shape
  rw [List.length_map] at hkv ⊢
  obtain ⟨A, c, rfl⟩ := hk.shape
  obtain ⟨B, e0, rfl, -⟩ := hp.shape
  rw [List.length_map] at hk ⊢
  have hv : DiskV w (.agg #[.slice A kept.length c, .slice B ws.length e0, .bool off]) ⟨kept, ws, off⟩ := ⟨A, c, B, e0, rfl, hk, hp⟩
  have hok : OkD ⟨kept, ws, off⟩ := ⟨by have := hkl.1; simp only; omega, hkl.2, hpo, hpl⟩
  have hn : kept.length ≤ 8796093022208 := hok.1
  have ba := i64_of wa
  clear wa
  have HFW := Lib.hid (fun v W hv => law_few ⟨kept, ws, off⟩ v W hv hok)
  obtain ⟨wu1, hu1⟩ : ∃ u, u = w.alloc (.cells #[.slice A kept.length c, .slice B ws.length e0, .bool off, .slice K keep.length kc, .int .i64 at', .string ⟨s.toArray⟩] 53) := ⟨_, rfl⟩
  have su1 : wu1.heap.size = w.heap.size + 1 := by rw [hu1]; simp
  have tu1 : TBox wu1 (w.heap.size) 53 #[.slice A kept.length c, .slice B ws.length e0, .bool off, .slice K keep.length kc, .int .i64 at', .string ⟨s.toArray⟩] := by rw [hu1]; exact TBox.new _ _ _
  have bu1 : Below w.heap.size w wu1 := by rw [hu1]; exact (Below.refl _ _).alloc (Nat.le_refl _) _
  have BU1 := bu1
  obtain ⟨wu2, hu2⟩ : ∃ u, u = wu1.alloc (.cells #[.slice A kept.length c, .slice B ws.length e0, .bool off] 25) := ⟨_, rfl⟩
  have su2 : wu2.heap.size = w.heap.size + 2 := by rw [hu2]; simp [su1]
  have tu2 : TBox wu2 (w.heap.size + 1) 25 #[.slice A kept.length c, .slice B ws.length e0, .bool off] := by rw [hu2, ← su1]; exact TBox.new _ _ _
  have bu2 : Below wu1.heap.size wu1 wu2 := by rw [hu2]; exact (Below.refl _ _).alloc (Nat.le_refl _) _
  have BU2 := below_trans BU1 bu2 BU1.size
  have Hs0 := Lib.hid (tu1.below bu2)
  have Hd0 := Lib.hid tu2
  have BW_0 := Lib.hid BU2
  have HW : Hid (wu2 = ((w.alloc (.cells #[.slice A kept.length c, .slice B ws.length e0, .bool off, .slice K keep.length kc, .int .i64 at', .string ⟨s.toArray⟩] 53)).alloc (.cells #[.slice A kept.length c, .slice B ws.length e0, .bool off] 25))) := Lib.hid (by rw [hu2, hu1])
  have HSZ := Lib.hid su2
  obtain ⟨W0, hW0⟩ : ∃ u, u = wu2 := ⟨_, rfl⟩
  rw [← hW0] at Hs0 Hd0 BW_0 HW HSZ
  clear hW0 hu1 su1 tu1 bu1 BU1 hu2 su2 tu2 bu2 BU2
  have Rd0 := Lib.hid (hv.below BW_0.out)
  have Rk0 := Lib.hid (hkv.below BW_0.out)
  clear hkv
  clear hv hk hp
  go_enter Try.func5, Try.ntmps5
  go_wp2_with fail
  rw [← HW.out]
  refine (law_shown _).mono ?_
  rintro e w1 ⟨rfl, hb⟩
  have Hd_1 := Lib.hid (Hd0.out.below hb)
  have Rd_1 := Lib.hid (Rd0.out.below hb)
  have Rk_1 := Lib.hid (Rk0.out.below hb)
  have BW_1 := Lib.hid (below_trans BW_0.out hb BW_0.out.size)
  clear hb 
  have cd_0 : w1.cell? ⟨(w.heap.size + 1), 0, none⟩ = some (.slice A kept.length c) := Hd_1.out.cell 0
  have cd_1 : w1.cell? ⟨(w.heap.size + 1), 1, none⟩ = some (.slice B ws.length e0) := Hd_1.out.cell 1
  have cd_2 : w1.cell? ⟨(w.heap.size + 1), 2, none⟩ = some (.bool off) := Hd_1.out.cell 2
  go_wp2_with fail
  refine (HFW.out _ _ Rd_1.out).mono ?_
  rintro e w2 ⟨rfl, hb⟩
  have Hd_2 := Lib.hid (Hd_1.out.below hb)
  have Rd_2 := Lib.hid (Rd_1.out.below hb)
  have Rk_2 := Lib.hid (Rk_1.out.below hb)
  have BW_2 := Lib.hid (below_trans BW_1.out hb BW_1.out.size)
  clear hb 
  clear cd_0 cd_1 cd_2
  cases hf : fewB ⟨kept, ws, off⟩ with
  | false =>
    have HFF := Lib.hid hf
    clear hf
    have cd_0 : w2.cell? ⟨(w.heap.size + 1), 0, none⟩ = some (.slice A kept.length c) := Hd_2.out.cell 0
    have cd_1 : w2.cell? ⟨(w.heap.size + 1), 1, none⟩ = some (.slice B ws.length e0) := Hd_2.out.cell 1
    have cd_2 : w2.cell? ⟨(w.heap.size + 1), 2, none⟩ = some (.bool off) := Hd_2.out.cell 2
    go_wp2_with fail
    go_ret
    exact ⟨rfl, BW_2.out⟩
  | true =>
    obtain ⟨hk50, hw50, hR⟩ : kept.length ≤ 50 ∧ ws.length ≤ 50 ∧ Right ⟨kept, ws, off⟩ := of_decide_eq_true hf
    clear hf
    cases off with
    | true =>
      clear hR
      have cd_0 : w2.cell? ⟨(w.heap.size + 1), 0, none⟩ = some (.slice A kept.length c) := Hd_2.out.cell 0
      have cd_1 : w2.cell? ⟨(w.heap.size + 1), 1, none⟩ = some (.slice B ws.length e0) := Hd_2.out.cell 1
      have cd_2 : w2.cell? ⟨(w.heap.size + 1), 2, none⟩ = some (.bool true) := Hd_2.out.cell 2
      go_wp2_with fail
      go_ret
      exact ⟨rfl, BW_2.out⟩
    | false =>
      have okw := write_ok hok (by simp only; omega) at' ba s
      have okf := image_ok hok
      have okc := crash_ok hok keep
      have hRf := right_image hR
      have hRw := right_write hR at' s
      have hRc := right_crash hR keep
      have hfl : flushD ⟨kept, ws, false⟩ = (⟨imageL ⟨kept, ws, false⟩, [], false⟩, 0) := rfl
      have HF1 := Lib.hid (fun v W hv => disk_Flush ⟨kept, ws, false⟩ v W hv hok)
      rw [hfl] at HF1
      have HW1 := Lib.hid (fun v W hv => disk_Write _ v at' s W hv hok zs)
      have HI := Lib.hid (fun v W hv => disk_Image _ v W hv hok)
      have HC1 := Lib.hid (fun v kv W hv hk => disk_Crash ⟨imageL ⟨kept, ws, false⟩, [], false⟩ v kv keep W hv okf hk hkn)
      rw [show crashL ⟨imageL ⟨kept, ws, false⟩, [], false⟩ keep = imageL ⟨kept, ws, false⟩ from rfl] at HC1
      have HC2 := Lib.hid (fun v kv W hv hk => disk_Crash ⟨kept, ws, false⟩ v kv (List.replicate ws.length true) W hv hok hk (by simp; omega))
      rw [show crashL ⟨kept, ws, false⟩ (List.replicate ws.length true) = imageL ⟨kept, ws, false⟩ from crash_all _] at HC2
      have HC3 := Lib.hid (fun v kv W hv hk => disk_Crash ⟨kept, ws, false⟩ v kv keep W hv hok hk hkn)
      have HRf := Lib.hid (fun v W hv => ref04_Right _ v W hv okf)
      rw [show decide (Right ⟨imageL ⟨kept, ws, false⟩, [], false⟩) = true from decide_eq_true hRf] at HRf
      have HRw := Lib.hid (fun v W hv => ref04_Right _ v W hv okw)
      rw [show decide (Right (writeD ⟨kept, ws, false⟩ at' s).1) = true from decide_eq_true hRw] at HRw
      have HRc := Lib.hid (fun v W hv => ref04_Right _ v W hv okc)
      rw [show decide (Right ⟨crashL ⟨kept, ws, false⟩ keep, [], false⟩) = true from decide_eq_true hRc] at HRc
      have hil := okf.1
      simp only at hil
      clear okw okf okc hR hRf hRw hRc hfl
      generalize writeD ⟨kept, ws, false⟩ at' s = wd at *
      generalize crashL ⟨kept, ws, false⟩ keep = cl at *
      generalize imageL ⟨kept, ws, false⟩ = im at *
      obtain ⟨wd, we⟩ := wd
      simp only at HW1 HRw
      have cd_0 : w2.cell? ⟨(w.heap.size + 1), 0, none⟩ = some (.slice A kept.length c) := Hd_2.out.cell 0
      have cd_1 : w2.cell? ⟨(w.heap.size + 1), 1, none⟩ = some (.slice B ws.length e0) := Hd_2.out.cell 1
      have cd_2 : w2.cell? ⟨(w.heap.size + 1), 2, none⟩ = some (.bool false) := Hd_2.out.cell 2
      go_wp2_with fail
      clear cd_0 cd_1 cd_2
      refine (HF1.out _ _ Rd_2.out).mono ?_
      rintro e w3 ⟨v, rfl, hdv, hb⟩
      have Hd_3 := Lib.hid (Hd_2.out.below hb)
      have Rd_3 := Lib.hid (Rd_2.out.below hb)
      have Rk_3 := Lib.hid (Rk_2.out.below hb)
      have BW_3 := Lib.hid (below_trans BW_2.out hb BW_2.out.size)
      clear hb 
      obtain ⟨Af, cf, Bf, ef, rfl⟩ := hdv.opn (n := im.length) (m := 0) rfl rfl
      have Rf := Lib.hid hdv
      clear hdv
      obtain ⟨v4, hW⟩ : ∃ W, W = w3.alloc (.cells #[.slice Af im.length cf, .slice Bf 0 ef, .bool false] 25) := ⟨_, rfl⟩
      have hbn : Below w3.heap.size w3 v4 := by rw [hW]; exact (Below.refl _ _).alloc (Nat.le_refl _) _
      have Hf := Lib.hid (show TBox v4 w3.heap.size 25 #[.slice Af im.length cf, .slice Bf 0 ef, .bool false] from by rw [hW]; exact TBox.new _ _ _)
      have HWv4 := Lib.hid hW
      clear hW
      have Hd_v4 := Lib.hid (Hd_3.out.below hbn)
      have Rd_v4 := Lib.hid (Rd_3.out.below hbn)
      have Rk_v4 := Lib.hid (Rk_3.out.below hbn)
      have Rf_v4 := Lib.hid (Rf.out.below hbn)
      have BW_v4 := Lib.hid (below_trans BW_3.out hbn BW_3.out.size)
      clear hbn
      have ltd := Hd_3.out.lt
      have cd_0 : w3.cell? ⟨(w.heap.size + 1), 0, none⟩ = some (.slice A kept.length c) := Hd_3.out.cell 0
      have cd_1 : w3.cell? ⟨(w.heap.size + 1), 1, none⟩ = some (.slice B ws.length e0) := Hd_3.out.cell 1
      have cd_2 : w3.cell? ⟨(w.heap.size + 1), 2, none⟩ = some (.bool false) := Hd_3.out.cell 2
      go_wp2_with fail
      rw [← HWv4.out]
      clear cd_0 cd_1 cd_2
      go_loopw [11, 12] (fun sv iv wr => ∃ (k : Nat) (v : Value), k ≤ ws.length ∧ iv = .int .i64 (k : Int) ∧ sv = v ∧ wr.ownsRow v4.heap.size 4 1 v k ((List.replicate k true).map Value.bool) ∧ Below v4.heap.size v4 wr) (fun _ iv _ => ws.length - (intOf iv).toNat)
      case atStart => exact ⟨0, _, Nat.zero_le _, rfl, rfl, World.ownsRow_nil _ _ _ _, Below.refl _ _⟩
      case round =>
        obtain ⟨k, v, hk, rfl, rfl, hown, hbw⟩ := hrel
        have d1 : wr.cell? ⟨(w.heap.size + 1), 1, none⟩ = some (.slice B ws.length e0) := (Hd_v4.out.below hbw).cell 1
        by_cases hlt : k < ws.length
        · obtain ⟨v', W4, hrun, hown4, hb4⟩ := app_bool true hown (by omega) hbw.size
          have hnew : (List.replicate k true).map Value.bool ++ [.bool true] = (List.replicate (k + 1) true).map Value.bool := by rw [List.replicate_succ']; simp
          rw [hnew] at hown4
          obtain ⟨A5, c5, rfl, -, -⟩ := (Sl.of_owns hown).shape
          obtain ⟨A6, c6, rfl, -, -⟩ := (Sl.of_owns hown4).shape
          have HO4 := Lib.hid hown4
          have HB4 := Lib.hid (hb4 _ _ hbw (Nat.le_refl _))
          have dlt := (Hd_v4.out.below hbw).lt
          clear hown hown4 hb4 hbw hnew
          go_wp2_with (at_builtin; refine wpList_append_run rfl _ _ _ rfl _ _ _ _ rfl rfl hrun ?_)
          go_roundw
          case rel => exact ⟨k + 1, _, by omega, by go_num, rfl, HO4.out, HB4.out⟩
          case measure => simp [intOf]; omega
        · obtain rfl : k = ws.length := by omega
          have Rall := Lib.hid (Row.of_owns hown)
          obtain ⟨A5, c5, rfl⟩ := (Row.of_owns hown).shape
          rw [List.length_map, List.length_replicate] at Rall ⊢
          clear hown d1
          have Hd_lp := Lib.hid (Hd_v4.out.below hbw)
          have Hf_lp := Lib.hid (Hf.out.below hbw)
          have Rd_lp := Lib.hid (Rd_v4.out.below hbw)
          have Rk_lp := Lib.hid (Rk_v4.out.below hbw)
          have Rf_lp := Lib.hid (Rf_v4.out.below hbw)
          have BW_lp := Lib.hid (below_trans BW_v4.out hbw BW_v4.out.size)
          clear hbw
          have cd_0 : wr.cell? ⟨(w.heap.size + 1), 0, none⟩ = some (.slice A kept.length c) := Hd_lp.out.cell 0
          have cd_1 : wr.cell? ⟨(w.heap.size + 1), 1, none⟩ = some (.slice B ws.length e0) := Hd_lp.out.cell 1
          have cd_2 : wr.cell? ⟨(w.heap.size + 1), 2, none⟩ = some (.bool false) := Hd_lp.out.cell 2
          go_wp2_with fail
          clear cd_0 cd_1 cd_2
          refine (HW1.out _ _ Rd_lp.out).mono ?_
          rintro e w5 ⟨v, rfl, hdv, hb⟩
          have Hd_5 := Lib.hid (Hd_lp.out.below hb)
          have Hf_5 := Lib.hid (Hf_lp.out.below hb)
          have Rd_5 := Lib.hid (Rd_lp.out.below hb)
          have Rk_5 := Lib.hid (Rk_lp.out.below hb)
          have Rf_5 := Lib.hid (Rf_lp.out.below hb)
          have Rall_5 := Lib.hid (Rall.out.below hb)
          have BW_5 := Lib.hid (below_trans BW_lp.out hb BW_lp.out.size)
          clear hb 
          obtain ⟨Aa, ca, Ba, ea, rfl⟩ := hdv.opn (n := wd.kept.length) (m := wd.w.length) rfl rfl
          have Ra := Lib.hid hdv
          clear hdv
          obtain ⟨v6, hW⟩ : ∃ W, W = w5.alloc (.cells #[.slice Aa wd.kept.length ca, .slice Ba wd.w.length ea, .bool wd.off] 25) := ⟨_, rfl⟩
          have hbn : Below w5.heap.size w5 v6 := by rw [hW]; exact (Below.refl _ _).alloc (Nat.le_refl _) _
          have Ha := Lib.hid (show TBox v6 w5.heap.size 25 #[.slice Aa wd.kept.length ca, .slice Ba wd.w.length ea, .bool wd.off] from by rw [hW]; exact TBox.new _ _ _)
          have HWv6 := Lib.hid hW
          clear hW
          have Hd_v6 := Lib.hid (Hd_5.out.below hbn)
          have Hf_v6 := Lib.hid (Hf_5.out.below hbn)
          have Rd_v6 := Lib.hid (Rd_5.out.below hbn)
          have Rk_v6 := Lib.hid (Rk_5.out.below hbn)
          have Rf_v6 := Lib.hid (Rf_5.out.below hbn)
          have Rall_v6 := Lib.hid (Rall_5.out.below hbn)
          have Ra_v6 := Lib.hid (Ra.out.below hbn)
          have BW_v6 := Lib.hid (below_trans BW_5.out hbn BW_5.out.size)
          clear hbn
          go_wp2_with fail
          rw [← HWv6.out]
          refine wp_region_held_drew (S := fun V => Below v6.heap.size v6 V) (by kernel_rfl) (below_dn (Below.refl _ _) 1) (fun hHeld => ?_)
          refine wpAnyH_take (i := 0) (v := ?_) rfl (by kernel_rfl) (by kernel_rfl) (by kernel_rfl) (fun _ _ _ h => h) (Or.inl ⟨by rfl, ?_⟩) (by assumption) ?_
          rotate_left
          · intro X hSw
            have hc0 : X.cell? ⟨w3.heap.size, 0, none⟩ = some (.slice Af im.length cf) := (Hf_v6.out.below hSw).cell 0
            have hc1 : X.cell? ⟨w3.heap.size, 1, none⟩ = some (.slice Bf 0 ef) := (Hf_v6.out.below hSw).cell 1
            have hc2 : X.cell? ⟨w3.heap.size, 2, none⟩ = some (.bool false) := (Hf_v6.out.below hSw).cell 2
            go_simp
            try with_reducible rfl
          rotate_left
          try simp only [Act.put, List.setIfInBounds_toArray, List.set_cons_zero, List.set_cons_succ, List.getElem_toArray, List.getElem_cons_zero, List.getElem_cons_succ]
          refine wpAnyH_take (i := 1) (v := ?_) rfl (by kernel_rfl) (by kernel_rfl) (by kernel_rfl) (fun _ _ _ h => h) (Or.inl ⟨by rfl, ?_⟩) (by assumption) ?_
          rotate_left
          · intro X hSw
            go_simp
            try with_reducible rfl
          rotate_left
          try simp only [Act.put, List.setIfInBounds_toArray, List.set_cons_zero, List.set_cons_succ, List.getElem_toArray, List.getElem_cons_zero, List.getElem_cons_succ]
          refine wpAnyH_take (i := 4) (v := ?_) rfl (by kernel_rfl) (by kernel_rfl) (by kernel_rfl) (fun _ _ _ h => h) (Or.inl ⟨by rfl, ?_⟩) (by assumption) ?_
          rotate_left
          · intro X hSw
            have hc0 : X.cell? ⟨(w.heap.size + 1), 0, none⟩ = some (.slice A kept.length c) := (Hd_v6.out.below hSw).cell 0
            have hc1 : X.cell? ⟨(w.heap.size + 1), 1, none⟩ = some (.slice B ws.length e0) := (Hd_v6.out.below hSw).cell 1
            have hc2 : X.cell? ⟨(w.heap.size + 1), 2, none⟩ = some (.bool false) := (Hd_v6.out.below hSw).cell 2
            go_simp
            try with_reducible rfl
          rotate_left
          try simp only [Act.put, List.setIfInBounds_toArray, List.set_cons_zero, List.set_cons_succ, List.getElem_toArray, List.getElem_cons_zero, List.getElem_cons_succ]
          refine wpAnyH_ready (rs := [2]) (by kernel_rfl) (by simp) ?_
          refine (AllReadyH.cons rfl (fun K hK => ?_) AllReadyH.nil)
          rw [if_pos (by rfl)]
          go_wp2_with fail
          refine (HC1.out _ _ _ (Rf_v6.out.below hHeld) (Rk_v6.out.below hHeld)).mono ?_
          rintro e wz ⟨v1, rfl, hd1, hb⟩
          replace hHeld := below_trans hHeld hb (Below.size hHeld)
          obtain ⟨A7, c7, B7, e7, rfl⟩ := hd1.opn (n := im.length) (m := 0) rfl rfl
          have hr1 := hd1.krow
          clear hd1
          clear hb
          refine hK.out _ _ hHeld (fun _ => ?_)
          clear hK K
          try simp only [Act.put, List.setIfInBounds_toArray, List.set_cons_zero, List.set_cons_succ, List.getElem_toArray, List.getElem_cons_zero, List.getElem_cons_succ]
          refine wpAnyH_take (i := 3) (v := ?_) rfl (by kernel_rfl) (by kernel_rfl) (by kernel_rfl) (fun _ _ _ h => h) (Or.inl ⟨by rfl, ?_⟩) (by assumption) ?_
          rotate_left
          · intro X hSw
            have hfd := field0 A7 im.length c7 (.slice B7 0 e7) (.bool false) X
            go_simp
            try with_reducible rfl
          rotate_left
          try simp only [Act.put, List.setIfInBounds_toArray, List.set_cons_zero, List.set_cons_succ, List.getElem_toArray, List.getElem_cons_zero, List.getElem_cons_succ]
          refine wpAnyH_ready (rs := [5]) (by kernel_rfl) (by simp) ?_
          refine (AllReadyH.cons rfl (fun K hK => ?_) AllReadyH.nil)
          rw [if_pos (by rfl)]
          go_wp2_with fail
          refine (HI.out _ _ (Rd_v6.out.below hHeld)).mono ?_
          rintro e wz ⟨v2, rfl, hr2, -, hb⟩
          replace hHeld := below_trans hHeld hb (Below.size hHeld)
          obtain ⟨A8, c8, rfl⟩ := hr2.shape
          rw [List.length_map] at hr2
          replace hr1 := hr1.below hb
          clear hb
          refine hK.out _ _ hHeld (fun _ => ?_)
          clear hK K
          try simp only [Act.put, List.setIfInBounds_toArray, List.set_cons_zero, List.set_cons_succ, List.getElem_toArray, List.getElem_cons_zero, List.getElem_cons_succ]
          refine wpAnyH_ready (rs := [6]) (by kernel_rfl) (by simp) ?_
          refine (AllReadyH.cons rfl (fun K hK => ?_) AllReadyH.nil)
          rw [if_pos (by rfl)]
          go_wp2_with fail
          refine (ref_Strings _ _ im im _ hr1 hr2 hil hil).mono ?_
          rintro e wz ⟨rfl, hb⟩
          replace hHeld := below_trans hHeld hb (Below.size hHeld)
          clear hr1 hr2
          rw [show sameTexts im im = true from by unfold sameTexts; simp]
          clear hb
          refine hK.out _ _ hHeld (fun _ => ?_)
          clear hK K
          try simp only [Act.put, List.setIfInBounds_toArray, List.set_cons_zero, List.set_cons_succ, List.getElem_toArray, List.getElem_cons_zero, List.getElem_cons_succ]
          refine wpAnyH_take (i := 7) (v := ?_) rfl (by kernel_rfl) (by kernel_rfl) (by kernel_rfl) (fun _ _ _ h => h) (Or.inl ⟨by rfl, ?_⟩) (by assumption) ?_
          rotate_left
          · intro X hSw
            go_simp
            try with_reducible rfl
          rotate_left
          try simp only [Act.put, List.setIfInBounds_toArray, List.set_cons_zero, List.set_cons_succ, List.getElem_toArray, List.getElem_cons_zero, List.getElem_cons_succ]
          refine wpAnyH_take (i := 8) (v := ?_) rfl (by kernel_rfl) (by kernel_rfl) (by kernel_rfl) (fun _ _ _ h => h) (Or.inl ⟨by rfl, ?_⟩) (by assumption) ?_
          rotate_left
          · intro X hSw
            have hc0 : X.cell? ⟨(w.heap.size + 1), 0, none⟩ = some (.slice A kept.length c) := (Hd_v6.out.below hSw).cell 0
            have hc1 : X.cell? ⟨(w.heap.size + 1), 1, none⟩ = some (.slice B ws.length e0) := (Hd_v6.out.below hSw).cell 1
            have hc2 : X.cell? ⟨(w.heap.size + 1), 2, none⟩ = some (.bool false) := (Hd_v6.out.below hSw).cell 2
            go_simp
            try with_reducible rfl
          rotate_left
          try simp only [Act.put, List.setIfInBounds_toArray, List.set_cons_zero, List.set_cons_succ, List.getElem_toArray, List.getElem_cons_zero, List.getElem_cons_succ]
          refine wpAnyH_take (i := 9) (v := ?_) rfl (by kernel_rfl) (by kernel_rfl) (by kernel_rfl) (fun _ _ _ h => h) (Or.inl ⟨by rfl, ?_⟩) (by assumption) ?_
          rotate_left
          · intro X hSw
            go_simp
            try with_reducible rfl
          rotate_left
          try simp only [Act.put, List.setIfInBounds_toArray, List.set_cons_zero, List.set_cons_succ, List.getElem_toArray, List.getElem_cons_zero, List.getElem_cons_succ]
          refine wpAnyH_take (i := 12) (v := ?_) rfl (by kernel_rfl) (by kernel_rfl) (by kernel_rfl) (fun _ _ _ h => h) (Or.inl ⟨by rfl, ?_⟩) (by assumption) ?_
          rotate_left
          · intro X hSw
            have hc0 : X.cell? ⟨(w.heap.size + 1), 0, none⟩ = some (.slice A kept.length c) := (Hd_v6.out.below hSw).cell 0
            have hc1 : X.cell? ⟨(w.heap.size + 1), 1, none⟩ = some (.slice B ws.length e0) := (Hd_v6.out.below hSw).cell 1
            have hc2 : X.cell? ⟨(w.heap.size + 1), 2, none⟩ = some (.bool false) := (Hd_v6.out.below hSw).cell 2
            go_simp
            try with_reducible rfl
          rotate_left
          try simp only [Act.put, List.setIfInBounds_toArray, List.set_cons_zero, List.set_cons_succ, List.getElem_toArray, List.getElem_cons_zero, List.getElem_cons_succ]
          refine wpAnyH_ready (rs := [10]) (by kernel_rfl) (by simp) ?_
          refine (AllReadyH.cons rfl (fun K hK => ?_) AllReadyH.nil)
          rw [if_pos (by rfl)]
          go_wp2_with fail
          refine (HC2.out _ _ _ (Rd_v6.out.below hHeld) (Rall_v6.out.below hHeld)).mono ?_
          rintro e wz ⟨v1, rfl, hd1, hb⟩
          replace hHeld := below_trans hHeld hb (Below.size hHeld)
          obtain ⟨A7, c7, B7, e7, rfl⟩ := hd1.opn (n := im.length) (m := 0) rfl rfl
          have hr1 := hd1.krow
          clear hd1
          clear hb
          refine hK.out _ _ hHeld (fun _ => ?_)
          clear hK K
          try simp only [Act.put, List.setIfInBounds_toArray, List.set_cons_zero, List.set_cons_succ, List.getElem_toArray, List.getElem_cons_zero, List.getElem_cons_succ]
          refine wpAnyH_take (i := 11) (v := ?_) rfl (by kernel_rfl) (by kernel_rfl) (by kernel_rfl) (fun _ _ _ h => h) (Or.inl ⟨by rfl, ?_⟩) (by assumption) ?_
          rotate_left
          · intro X hSw
            have hfd := field0 A7 im.length c7 (.slice B7 0 e7) (.bool false) X
            go_simp
            try with_reducible rfl
          rotate_left
          try simp only [Act.put, List.setIfInBounds_toArray, List.set_cons_zero, List.set_cons_succ, List.getElem_toArray, List.getElem_cons_zero, List.getElem_cons_succ]
          refine wpAnyH_ready (rs := [13]) (by kernel_rfl) (by simp) ?_
          refine (AllReadyH.cons rfl (fun K hK => ?_) AllReadyH.nil)
          rw [if_pos (by rfl)]
          go_wp2_with fail
          refine (HI.out _ _ (Rd_v6.out.below hHeld)).mono ?_
          rintro e wz ⟨v2, rfl, hr2, -, hb⟩
          replace hHeld := below_trans hHeld hb (Below.size hHeld)
          obtain ⟨A8, c8, rfl⟩ := hr2.shape
          rw [List.length_map] at hr2
          replace hr1 := hr1.below hb
          clear hb
          refine hK.out _ _ hHeld (fun _ => ?_)
          clear hK K
          try simp only [Act.put, List.setIfInBounds_toArray, List.set_cons_zero, List.set_cons_succ, List.getElem_toArray, List.getElem_cons_zero, List.getElem_cons_succ]
          refine wpAnyH_ready (rs := [14]) (by kernel_rfl) (by simp) ?_
          refine (AllReadyH.cons rfl (fun K hK => ?_) AllReadyH.nil)
          rw [if_pos (by rfl)]
          go_wp2_with fail
          refine (ref_Strings _ _ im im _ hr1 hr2 hil hil).mono ?_
          rintro e wz ⟨rfl, hb⟩
          replace hHeld := below_trans hHeld hb (Below.size hHeld)
          clear hr1 hr2
          rw [show sameTexts im im = true from by unfold sameTexts; simp]
          clear hb
          refine hK.out _ _ hHeld (fun _ => ?_)
          clear hK K
          try simp only [Act.put, List.setIfInBounds_toArray, List.set_cons_zero, List.set_cons_succ, List.getElem_toArray, List.getElem_cons_zero, List.getElem_cons_succ]
          refine wpAnyH_take (i := 15) (v := ?_) rfl (by kernel_rfl) (by kernel_rfl) (by kernel_rfl) (fun _ _ _ h => h) (Or.inl ⟨by rfl, ?_⟩) (by assumption) ?_
          rotate_left
          · intro X hSw
            go_simp
            try with_reducible rfl
          rotate_left
          try simp only [Act.put, List.setIfInBounds_toArray, List.set_cons_zero, List.set_cons_succ, List.getElem_toArray, List.getElem_cons_zero, List.getElem_cons_succ]
          refine wpAnyH_take (i := 16) (v := ?_) rfl (by kernel_rfl) (by kernel_rfl) (by kernel_rfl) (fun _ _ _ h => h) (Or.inl ⟨by rfl, ?_⟩) (by assumption) ?_
          rotate_left
          · intro X hSw
            go_simp
            try with_reducible rfl
          rotate_left
          try simp only [Act.put, List.setIfInBounds_toArray, List.set_cons_zero, List.set_cons_succ, List.getElem_toArray, List.getElem_cons_zero, List.getElem_cons_succ]
          refine wpAnyH_done (by kernel_rfl) ?_ _
          have Hd_rg := Lib.hid (Hd_v6.out.below hHeld)
          have Hf_rg := Lib.hid (Hf_v6.out.below hHeld)
          have Ha_rg := Lib.hid (Ha.out.below hHeld)
          have Rd_rg := Lib.hid (Rd_v6.out.below hHeld)
          have Rk_rg := Lib.hid (Rk_v6.out.below hHeld)
          have Rf_rg := Lib.hid (Rf_v6.out.below hHeld)
          have Rall_rg := Lib.hid (Rall_v6.out.below hHeld)
          have Ra_rg := Lib.hid (Ra_v6.out.below hHeld)
          have BW_rg := Lib.hid (below_trans BW_v6.out hHeld BW_v6.out.size)
          clear hHeld
          have cf_0 : wz.cell? ⟨w3.heap.size, 0, none⟩ = some (.slice Af im.length cf) := Hf_rg.out.cell 0
          have cf_1 : wz.cell? ⟨w3.heap.size, 1, none⟩ = some (.slice Bf 0 ef) := Hf_rg.out.cell 1
          have cf_2 : wz.cell? ⟨w3.heap.size, 2, none⟩ = some (.bool false) := Hf_rg.out.cell 2
          go_wp2_with fail
          refine (HRf.out _ _ Rf_rg.out).mono ?_
          rintro e w7 ⟨rfl, hb⟩
          have Hd_7 := Lib.hid (Hd_rg.out.below hb)
          have Hf_7 := Lib.hid (Hf_rg.out.below hb)
          have Ha_7 := Lib.hid (Ha_rg.out.below hb)
          have Rd_7 := Lib.hid (Rd_rg.out.below hb)
          have Rk_7 := Lib.hid (Rk_rg.out.below hb)
          have Rf_7 := Lib.hid (Rf_rg.out.below hb)
          have Rall_7 := Lib.hid (Rall_rg.out.below hb)
          have Ra_7 := Lib.hid (Ra_rg.out.below hb)
          have BW_7 := Lib.hid (below_trans BW_rg.out hb BW_rg.out.size)
          clear hb 
          clear cf_0 cf_1 cf_2
          have ca_0 : w7.cell? ⟨w5.heap.size, 0, none⟩ = some (.slice Aa wd.kept.length ca) := Ha_7.out.cell 0
          have ca_1 : w7.cell? ⟨w5.heap.size, 1, none⟩ = some (.slice Ba wd.w.length ea) := Ha_7.out.cell 1
          have ca_2 : w7.cell? ⟨w5.heap.size, 2, none⟩ = some (.bool wd.off) := Ha_7.out.cell 2
          go_wp2_with fail
          refine (HRw.out _ _ Ra_7.out).mono ?_
          rintro e w8 ⟨rfl, hb⟩
          have Hd_8 := Lib.hid (Hd_7.out.below hb)
          have Hf_8 := Lib.hid (Hf_7.out.below hb)
          have Ha_8 := Lib.hid (Ha_7.out.below hb)
          have Rd_8 := Lib.hid (Rd_7.out.below hb)
          have Rk_8 := Lib.hid (Rk_7.out.below hb)
          have Rf_8 := Lib.hid (Rf_7.out.below hb)
          have Rall_8 := Lib.hid (Rall_7.out.below hb)
          have Ra_8 := Lib.hid (Ra_7.out.below hb)
          have BW_8 := Lib.hid (below_trans BW_7.out hb BW_7.out.size)
          clear hb 
          clear ca_0 ca_1 ca_2
          have cd_0 : w8.cell? ⟨(w.heap.size + 1), 0, none⟩ = some (.slice A kept.length c) := Hd_8.out.cell 0
          have cd_1 : w8.cell? ⟨(w.heap.size + 1), 1, none⟩ = some (.slice B ws.length e0) := Hd_8.out.cell 1
          have cd_2 : w8.cell? ⟨(w.heap.size + 1), 2, none⟩ = some (.bool false) := Hd_8.out.cell 2
          go_wp2_with fail
          refine (HC3.out _ _ _ Rd_8.out Rk_8.out).mono ?_
          rintro e w9 ⟨v, rfl, hdv, hb⟩
          have Hd_9 := Lib.hid (Hd_8.out.below hb)
          have Hf_9 := Lib.hid (Hf_8.out.below hb)
          have Ha_9 := Lib.hid (Ha_8.out.below hb)
          have Rd_9 := Lib.hid (Rd_8.out.below hb)
          have Rk_9 := Lib.hid (Rk_8.out.below hb)
          have Rf_9 := Lib.hid (Rf_8.out.below hb)
          have Rall_9 := Lib.hid (Rall_8.out.below hb)
          have Ra_9 := Lib.hid (Ra_8.out.below hb)
          have BW_9 := Lib.hid (below_trans BW_8.out hb BW_8.out.size)
          obtain ⟨A9, c9, B9, e9, rfl⟩ := hdv.opn (n := cl.length) (m := 0) rfl rfl
          have Rcl := Lib.hid hdv
          clear hdv
          clear hb 
          clear cd_0 cd_1 cd_2
          go_wp2_with fail
          refine (HRc.out _ _ Rcl.out).mono ?_
          rintro e w10 ⟨rfl, hb⟩
          have Hd_10 := Lib.hid (Hd_9.out.below hb)
          have Hf_10 := Lib.hid (Hf_9.out.below hb)
          have Ha_10 := Lib.hid (Ha_9.out.below hb)
          have Rd_10 := Lib.hid (Rd_9.out.below hb)
          have Rk_10 := Lib.hid (Rk_9.out.below hb)
          have Rf_10 := Lib.hid (Rf_9.out.below hb)
          have Rall_10 := Lib.hid (Rall_9.out.below hb)
          have Ra_10 := Lib.hid (Ra_9.out.below hb)
          have Rcl_10 := Lib.hid (Rcl.out.below hb)
          have BW_10 := Lib.hid (below_trans BW_9.out hb BW_9.out.size)
          clear hb 
          go_wp2_with fail
          go_ret
          exact ⟨rfl, BW_10.out⟩
theorem own : ownKnob Try.prog.godebug = none := by kernel_rfl
theorem laidOut : laidOutB Try.prog = true := by kernel_rfl
theorem cellscopyhold_copyholdlaw04_DiskKeepsIn : Try.prog.cellsOf 53 = 6 := by kernel_rfl
theorem cellscopyhold_api_Disk : Try.prog.cellsOf 25 = 3 := by kernel_rfl
theorem cells__string : Try.prog.cellsOf 22 = 1 := by kernel_rfl
theorem cells__api_Put : Try.prog.cellsOf 23 = 1 := by kernel_rfl
theorem cellsbool : Try.prog.cellsOf 4 = 1 := by kernel_rfl
theorem cells__bool : Try.prog.cellsOf 43 = 1 := by kernel_rfl
theorem cellsint : Try.prog.cellsOf 3 = 1 := by kernel_rfl
theorem cellsstring : Try.prog.cellsOf 9 = 1 := by kernel_rfl

set_option maxRecDepth 100000 in
set_option maxHeartbeats 1000000 in
theorem lifted (os : Os) (started : os.Started) (H : Type) (enc : TypeId × Value → H) :
    ReturnsInHanded {} Try.checked os 5 .any (Rows.diskKeepsSpec.pre6 enc Try.prog Try.f5 Rows.diskKeepsRow.domain false) (Rows.diskKeepsSpec.post enc Try.prog Try.f5 false true false false) := by
  refine returnsInHanded_of_change_sized (C := Try.checked) own started (by kernel_rfl) Try.func5
    (ChangeSpec.witness6 (enc := enc) (C := Try.checked) false ⟨#[], #[.agg #[.slice none 0 0, .slice none 0 0, .bool false, .slice none 0 0, .int .i64 0, .string ByteArray.empty]], []⟩ 8 (by kernel_rfl) (by kernel_rfl) (by kernel_rfl) (by kernel_rfl)) ?_
  intro W base args ds gs before hval0 hW hcnd hsz0 _
  have hsz : (DataW.weightsEach Try.prog (Try.f5.params.toList ++ []) (ds ++ gs)).all (· ≤ reachBytes) = true := hsz0
  clear hsz0
  have hval : ∀ (j : Nat) t v, Try.f5.params[j]? = some t → args[j]? = some v → Value.okWide Try.prog W .any base t v := hval0
  have hW' := hW
  have hlt := hW.lt
  obtain ⟨p, q, hA0, hV, rfl, hfz, hnd⟩ := hW
  have hA : DataW.TrodAll enc Try.prog W 0 (fun _ => true) true Try.f5.params.toList args.toList ds p := hA0
  rw [Try.params5] at hA hval
  obtain ⟨v0, vs0, d0, ds0, p0, q0, hargs, rfl, rfl, h0, r0⟩ := trodAll_cons hA
  obtain ⟨rfl, rfl, rfl⟩ := trodAll_nil r0
  obtain rfl : args = #[v0] := by cases args; simp_all
  obtain ⟨rfl, rfl⟩ := trodVars_none hV
  obtain ⟨cs0, rfl, hcz0⟩ := okWide_struct Try.underlying53 (hval 0 53 v0 rfl rfl)
  rw [cellscopyhold_copyholdlaw04_DiskKeepsIn] at hcz0
  obtain ⟨c0_0_0, c0_0_1, c0_0_2, c0_1, c0_2, c0_3, rfl⟩ := array6_of hcz0
  obtain ⟨fuel0, hf0⟩ := h0
  obtain ⟨xs0, m0, _, hx0, _, hlen0, hfl0⟩ := DataW.trod_struct Try.underlying53 hf0
  obtain ⟨y0_0, y0_1, y0_2, y0_3, rfl⟩ := list4 hlen0
  have g0_0 : DataW.trod enc Try.prog W 0 (fun _ => true) true m0 25 [c0_0_0, c0_0_1, c0_0_2] = some y0_0 := by have h := hfl0 0 _ rfl; simpa [Value.cells, cellscopyhold_api_Disk] using h
  have g0_1 : DataW.trod enc Try.prog W 0 (fun _ => true) true m0 43 [c0_1] = some y0_1 := by have h := hfl0 1 _ rfl; simpa [Value.cells, cells__bool] using h
  have g0_2 : DataW.trod enc Try.prog W 0 (fun _ => true) true m0 3 [c0_2] = some y0_2 := by have h := hfl0 2 _ rfl; simpa [Value.cells, cellsint] using h
  have g0_3 : DataW.trod enc Try.prog W 0 (fun _ => true) true m0 9 [c0_3] = some y0_3 := by have h := hfl0 3 _ rfl; simpa [Value.cells, cellsstring] using h
  simp only [Prod.mk.injEq] at hx0
  obtain ⟨rfl, hp0⟩ := hx0
  subst hp0
  obtain ⟨xs0_0, m0_0, _, hx0_0, _, hlen0_0, hfl0_0⟩ := DataW.trod_struct Try.underlying25 g0_0
  obtain ⟨y0_0_0, y0_0_1, y0_0_2, rfl⟩ := list3 hlen0_0
  have g0_0_0 : DataW.trod enc Try.prog W 0 (fun _ => true) true m0_0 22 [c0_0_0] = some y0_0_0 := by have h := hfl0_0 0 _ rfl; simpa [Value.cells, cells__string] using h
  have g0_0_1 : DataW.trod enc Try.prog W 0 (fun _ => true) true m0_0 23 [c0_0_1] = some y0_0_1 := by have h := hfl0_0 1 _ rfl; simpa [Value.cells, cells__api_Put] using h
  have g0_0_2 : DataW.trod enc Try.prog W 0 (fun _ => true) true m0_0 4 [c0_0_2] = some y0_0_2 := by have h := hfl0_0 2 _ rfl; simpa [Value.cells, cellsbool] using h
  subst hx0_0
  have hw0_0_0 : ∀ n ∈ DataW.weights Try.prog 22 y0_0_0.1, n ≤ 140737488351232 := fun n hn => sized_deep hsz (by rw [Try.params5]; simp [DataW.weightsEach, DataW.weights, Try.underlying53, Try.underlying25, hn])
  obtain ⟨u0_0_0, a0_0_0, ev0_0_0, w0_0_0, e0_0_0⟩ := open_texts_at Try.underlying22 Try.underlying9 (by kernel_rfl) g0_0_0 (fun x hx => hlt x (by simp [hx]))
  obtain rfl : c0_0_0 = _ := by simpa using ev0_0_0
  have z0_0_0 := texts_sized Try.underlying22 (by kernel_rfl) e0_0_0 hw0_0_0
  have hw0_0_1 : ∀ n ∈ DataW.weights Try.prog 23 y0_0_1.1, n ≤ 140737488351232 := fun n hn => sized_deep hsz (by rw [Try.params5]; simp [DataW.weightsEach, DataW.weights, Try.underlying53, Try.underlying25, hn])
  obtain ⟨u0_0_1, a0_0_1, ev0_0_1, f0_0_1_0, f0_0_1_1, f0_0_1_2⟩ := open_puts g0_0_1 (fun x hx => hlt x (by simp [hx])) hw0_0_1
  obtain rfl : c0_0_1 = _ := by simpa using ev0_0_1
  obtain ⟨a0_0_2, ev0_0_2, ey0_0_2⟩ := DataW.trod_bool Try.underlying4 g0_0_2
  obtain rfl : c0_0_2 = _ := by simpa using ev0_0_2
  subst ey0_0_2
  have hw0_1 : ∀ n ∈ DataW.weights Try.prog 43 y0_1.1, n ≤ 140737488351232 := fun n hn => sized_deep hsz (by rw [Try.params5]; simp [DataW.weightsEach, DataW.weights, Try.underlying53, Try.underlying25, hn])
  obtain ⟨u0_1, a0_1, ev0_1, f0_1_0, f0_1_1⟩ := open_bools g0_1 (fun x hx => hlt x (by simp [hx])) hw0_1
  obtain rfl : c0_1 = _ := by simpa using ev0_1
  obtain ⟨a0_2, ev0_2, ey0_2, w0_2⟩ := DataW.trod_int Try.underlying3 g0_2
  obtain rfl : c0_2 = _ := by simpa using ev0_2
  subst ey0_2
  obtain ⟨s0_3, ev0_3, ey0_3, w0_3⟩ := DataW.trod_string Try.underlying9 g0_3
  obtain rfl : c0_3 = _ := by simpa using ev0_3
  subst ey0_3
  have z0_3 : s0_3.data.toList.length ≤ 140737488351232 := sized_deep hsz (by rw [Try.params5]; simp [DataW.weightsEach, DataW.weights, Try.underlying53, Try.underlying25])
  obtain ⟨a0_3, rfl⟩ : ∃ l : List UInt8, s0_3 = ⟨l.toArray⟩ := ⟨s0_3.data.toList, rfl⟩
  refine (walk W c0_0_0 a0_0_0 w0_0_0 z0_0_0 c0_0_1 a0_0_1 f0_0_1_0 f0_0_1_1 f0_0_1_2 a0_0_2 c0_1 a0_1 f0_1_0 f0_1_1 a0_2 w0_2 a0_3 z0_3).mono fun e W' ⟨he, hg⟩ => ?_
  subst he
  exact ⟨_, rfl, Copyhold.law_post laidOut (by kernel_rfl) (by kernel_rfl) Try.underlying4 rfl rfl rfl rfl hW' hg⟩

theorem over : Rows.diskKeepsRow.holds Try.pinned (OpenSpec.ofChange Rows.diskKeepsSpec) :=
  OpenClaim.holds_of_wide 5 Try.f5 rfl rfl rfl rfl rfl rfl rfl ⟨rfl, rfl, rfl, rfl, rfl⟩ rfl rfl rfl rfl rfl (by kernel_rfl) Try.func5 (by kernel_rfl)
    (of_decide_eq_true (by kernel_rfl)) (by unfold Func.isWrapper; first | (rw [if_pos (by decide +kernel)]; kernel_rfl) | (rw [if_neg (by decide +kernel)]; exact ⟨rfl, rfl⟩))
    (fun os started H enc _ => lifted os started H enc)

theorem proved : Rows.DiskKeepsSaid :=
  over
end Go.Proofs.Ytahnkkmngbckdaa.diskKeeps
