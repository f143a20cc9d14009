/- Proved: copyholdlaw04.DiskReads returns true for every disk and numbers, and leaves them as they were: which disks are right, a new one, a sector, and some, are as the document says. No condition beyond the form's own reach. -/
import Derived.Test.YtahnkkmngbckdaaDisk15
namespace Go.Proofs.Ytahnkkmngbckdaa.diskReads
open Go.ChangeShapes Go.WideShapes Go.ChangeAt Go.RowKit Copyhold Copyhold.Disk
open Go.ChangeMaps (open_string shut_string)
set_option linter.unusedVariables false
set_option linter.unusedSimpArgs false

set_option maxRecDepth 100000 in
set_option maxHeartbeats 16000000 in
theorem walk (w : World) (kv : Value) (kept : List (List UInt8)) (hk : Row w kv (kept.map strV)) (hkl : kept.length ≤ 8796093022207 ∧ ∀ l ∈ kept, l.length ≤ 140737488351232) (pv : Value) (ws : List PutW) (hp : Puts w pv ws) (hpo : OkPuts ws) (hpl : ws.length ≤ 5864062014634) (off : Bool) (at' : Int) (wa : (Lit.int .i64 at').wf = true) (many : Int) (wm : (Lit.int .i64 many).wf = true) :
    Calls Try.prog 3 #[.agg #[kv, pv, .bool off], .int .i64 at', .int .i64 many] w fun e w' => e = .returned (.bool true) ∧ Below w.heap.size w w' := by
  obtain ⟨A, c, rfl⟩ := hk.shape
  obtain ⟨B, e0, rfl, -⟩ := hp.shape
  rw [List.length_map] at hk ⊢
  have hv : DiskV w (.agg #[.slice A kept.length c, .slice B ws.length e0, .bool off]) ⟨kept, ws, off⟩ := ⟨A, c, B, e0, rfl, hk, hp⟩
  have hok : OkD ⟨kept, ws, off⟩ := ⟨by have := hkl.1; simp only; omega, hkl.2, hpo, hpl⟩
  have hn : kept.length ≤ 8796093022208 := hok.1
  have ba := i64_of wa
  have bm := i64_of wm
  clear wa wm
  by_cases h1 : 50 < kept.length
  · have h1i : (50 : Int) < (kept.length : Int) := by omega
    obtain ⟨wu1, hu1⟩ : ∃ u, u = w.alloc (.cells #[.slice A kept.length c, .slice B ws.length e0, .bool off] 25) := ⟨_, rfl⟩
    have su1 : wu1.heap.size = w.heap.size + 1 := by rw [hu1]; simp
    have tu1 : TBox wu1 (w.heap.size) 25 #[.slice A kept.length c, .slice B ws.length e0, .bool off] := by rw [hu1]; exact TBox.new _ _ _
    have bu1 : Below w.heap.size w wu1 := by rw [hu1]; exact (Below.refl _ _).alloc (Nat.le_refl _) _
    have BU1 := bu1
    have Hd0 := Lib.hid tu1
    have BW_0 := Lib.hid BU1
    have HW : Hid (wu1 = (w.alloc (.cells #[.slice A kept.length c, .slice B ws.length e0, .bool off] 25))) := Lib.hid (by rw [hu1])
    have HSZ := Lib.hid su1
    obtain ⟨W0, hW0⟩ : ∃ u, u = wu1 := ⟨_, rfl⟩
    rw [← hW0] at Hd0 BW_0 HW HSZ
    clear hW0 hu1 su1 tu1 bu1 BU1
    have Rd0 := Lib.hid (hv.below BW_0.out)
    clear hv hk hp
    go_enter Try.func3, Try.ntmps3
    go_wp2_with fail
    rw [← HW.out]
    refine (law_shown _).mono ?_
    rintro e w1 ⟨rfl, hb⟩
    have Hd_1 := Lib.hid (Hd0.out.below hb)
    have Rd_1 := Lib.hid (Rd0.out.below hb)
    have BW_1 := Lib.hid (below_trans BW_0.out hb BW_0.out.size)
    clear hb 
    have cd_0 : w1.cell? ⟨w.heap.size, 0, none⟩ = some (.slice A kept.length c) := Hd_1.out.cell 0
    have cd_1 : w1.cell? ⟨w.heap.size, 1, none⟩ = some (.slice B ws.length e0) := Hd_1.out.cell 1
    have cd_2 : w1.cell? ⟨w.heap.size, 2, none⟩ = some (.bool off) := Hd_1.out.cell 2
    go_wp2_with fail
    go_ret
    exact ⟨rfl, BW_1.out⟩
  by_cases h2 : 50 < ws.length
  · have h2i : (50 : Int) < (ws.length : Int) := by omega
    obtain ⟨wu1, hu1⟩ : ∃ u, u = w.alloc (.cells #[.slice A kept.length c, .slice B ws.length e0, .bool off] 25) := ⟨_, rfl⟩
    have su1 : wu1.heap.size = w.heap.size + 1 := by rw [hu1]; simp
    have tu1 : TBox wu1 (w.heap.size) 25 #[.slice A kept.length c, .slice B ws.length e0, .bool off] := by rw [hu1]; exact TBox.new _ _ _
    have bu1 : Below w.heap.size w wu1 := by rw [hu1]; exact (Below.refl _ _).alloc (Nat.le_refl _) _
    have BU1 := bu1
    have Hd0 := Lib.hid tu1
    have BW_0 := Lib.hid BU1
    have HW : Hid (wu1 = (w.alloc (.cells #[.slice A kept.length c, .slice B ws.length e0, .bool off] 25))) := Lib.hid (by rw [hu1])
    have HSZ := Lib.hid su1
    obtain ⟨W0, hW0⟩ : ∃ u, u = wu1 := ⟨_, rfl⟩
    rw [← hW0] at Hd0 BW_0 HW HSZ
    clear hW0 hu1 su1 tu1 bu1 BU1
    have Rd0 := Lib.hid (hv.below BW_0.out)
    clear hv hk hp
    go_enter Try.func3, Try.ntmps3
    go_wp2_with fail
    rw [← HW.out]
    refine (law_shown _).mono ?_
    rintro e w1 ⟨rfl, hb⟩
    have Hd_1 := Lib.hid (Hd0.out.below hb)
    have Rd_1 := Lib.hid (Rd0.out.below hb)
    have BW_1 := Lib.hid (below_trans BW_0.out hb BW_0.out.size)
    clear hb 
    have cd_0 : w1.cell? ⟨w.heap.size, 0, none⟩ = some (.slice A kept.length c) := Hd_1.out.cell 0
    have cd_1 : w1.cell? ⟨w.heap.size, 1, none⟩ = some (.slice B ws.length e0) := Hd_1.out.cell 1
    have cd_2 : w1.cell? ⟨w.heap.size, 2, none⟩ = some (.bool off) := Hd_1.out.cell 2
    go_wp2_with fail
    go_ret
    exact ⟨rfl, BW_1.out⟩
  by_cases h3 : 50 < many ∧ many ≤ 4096
  · obtain ⟨h3, h4⟩ := h3
    obtain ⟨wu1, hu1⟩ : ∃ u, u = w.alloc (.cells #[.slice A kept.length c, .slice B ws.length e0, .bool off] 25) := ⟨_, rfl⟩
    have su1 : wu1.heap.size = w.heap.size + 1 := by rw [hu1]; simp
    have tu1 : TBox wu1 (w.heap.size) 25 #[.slice A kept.length c, .slice B ws.length e0, .bool off] := by rw [hu1]; exact TBox.new _ _ _
    have bu1 : Below w.heap.size w wu1 := by rw [hu1]; exact (Below.refl _ _).alloc (Nat.le_refl _) _
    have BU1 := bu1
    have Hd0 := Lib.hid tu1
    have BW_0 := Lib.hid BU1
    have HW : Hid (wu1 = (w.alloc (.cells #[.slice A kept.length c, .slice B ws.length e0, .bool off] 25))) := Lib.hid (by rw [hu1])
    have HSZ := Lib.hid su1
    obtain ⟨W0, hW0⟩ : ∃ u, u = wu1 := ⟨_, rfl⟩
    rw [← hW0] at Hd0 BW_0 HW HSZ
    clear hW0 hu1 su1 tu1 bu1 BU1
    have Rd0 := Lib.hid (hv.below BW_0.out)
    clear hv hk hp
    go_enter Try.func3, Try.ntmps3
    go_wp2_with fail
    rw [← HW.out]
    refine (law_shown _).mono ?_
    rintro e w1 ⟨rfl, hb⟩
    have Hd_1 := Lib.hid (Hd0.out.below hb)
    have Rd_1 := Lib.hid (Rd0.out.below hb)
    have BW_1 := Lib.hid (below_trans BW_0.out hb BW_0.out.size)
    clear hb 
    have cd_0 : w1.cell? ⟨w.heap.size, 0, none⟩ = some (.slice A kept.length c) := Hd_1.out.cell 0
    have cd_1 : w1.cell? ⟨w.heap.size, 1, none⟩ = some (.slice B ws.length e0) := Hd_1.out.cell 1
    have cd_2 : w1.cell? ⟨w.heap.size, 2, none⟩ = some (.bool off) := Hd_1.out.cell 2
    go_wp2_with fail
    go_ret
    exact ⟨rfl, BW_1.out⟩
  have h3i : ¬ (50 < many) ∨ 50 < many ∧ ¬ (many ≤ 4096) := by omega
  rcases h3i with h3 | ⟨h3, h4⟩
  all_goals
    obtain ⟨wu1, hu1⟩ : ∃ u, u = w.alloc (.cells #[.slice A kept.length c, .slice B ws.length e0, .bool off] 25) := ⟨_, rfl⟩
    have su1 : wu1.heap.size = w.heap.size + 1 := by rw [hu1]; simp
    have tu1 : TBox wu1 (w.heap.size) 25 #[.slice A kept.length c, .slice B ws.length e0, .bool off] := by rw [hu1]; exact TBox.new _ _ _
    have bu1 : Below w.heap.size w wu1 := by rw [hu1]; exact (Below.refl _ _).alloc (Nat.le_refl _) _
    have BU1 := bu1
    have Hd0 := Lib.hid tu1
    have BW_0 := Lib.hid BU1
    have HW : Hid (wu1 = (w.alloc (.cells #[.slice A kept.length c, .slice B ws.length e0, .bool off] 25))) := Lib.hid (by rw [hu1])
    have HSZ := Lib.hid su1
    obtain ⟨W0, hW0⟩ : ∃ u, u = wu1 := ⟨_, rfl⟩
    rw [← hW0] at Hd0 BW_0 HW HSZ
    clear hW0 hu1 su1 tu1 bu1 BU1
    have Rd0 := Lib.hid (hv.below BW_0.out)
    clear hv hk hp
    go_enter Try.func3, Try.ntmps3
    go_wp2_with fail
    rw [← HW.out]
    refine (law_shown _).mono ?_
    rintro e w1 ⟨rfl, hb⟩
    have Hd_1 := Lib.hid (Hd0.out.below hb)
    have Rd_1 := Lib.hid (Rd0.out.below hb)
    have BW_1 := Lib.hid (below_trans BW_0.out hb BW_0.out.size)
    clear hb 
    have hnk := newD_ok many
    have HN := Lib.hid (fun W => disk_New many W)
    have HN2 := Lib.hid (fun W => ref04_New many W)
    generalize newD many = nd at *
    obtain ⟨nd, ne⟩ := nd
    simp only at hnk HN HN2
    have HSN := Lib.hid (fun va vb W ha hb => ref04_Same nd va vb W ha hb hnk)
    have HR1 := Lib.hid (fun v W hv => disk_Right _ v W hv hok)
    have HR2 := Lib.hid (fun v W hv => ref04_Right _ v W hv hok)
    clear hnk
    have cd_0 : w1.cell? ⟨w.heap.size, 0, none⟩ = some (.slice A kept.length c) := Hd_1.out.cell 0
    have cd_1 : w1.cell? ⟨w.heap.size, 1, none⟩ = some (.slice B ws.length e0) := Hd_1.out.cell 1
    have cd_2 : w1.cell? ⟨w.heap.size, 2, none⟩ = some (.bool off) := Hd_1.out.cell 2
    go_wp2_with fail
    clear cd_0 cd_1 cd_2
    refine (HN.out _).mono ?_
    rintro e w2 ⟨v, rfl, hdv, hb⟩
    have Hd_2 := Lib.hid (Hd_1.out.below hb)
    have Rd_2 := Lib.hid (Rd_1.out.below hb)
    have BW_2 := Lib.hid (below_trans BW_1.out hb BW_1.out.size)
    clear hb 
    obtain ⟨An, cn, Bn, en, rfl⟩ := hdv.opn (n := nd.kept.length) (m := nd.w.length) rfl rfl
    have Rn := Lib.hid hdv
    clear hdv
    obtain ⟨v3, hW⟩ : ∃ W, W = w2.alloc (.cells #[.slice An nd.kept.length cn, .slice Bn nd.w.length en, .bool nd.off] 25) := ⟨_, rfl⟩
    have hbn : Below w2.heap.size w2 v3 := by rw [hW]; exact (Below.refl _ _).alloc (Nat.le_refl _) _
    have Hn := Lib.hid (show TBox v3 w2.heap.size 25 #[.slice An nd.kept.length cn, .slice Bn nd.w.length en, .bool nd.off] from by rw [hW]; exact TBox.new _ _ _)
    have HWv3 := Lib.hid hW
    clear hW
    have Hd_v3 := Lib.hid (Hd_2.out.below hbn)
    have Rd_v3 := Lib.hid (Rd_2.out.below hbn)
    have Rn_v3 := Lib.hid (Rn.out.below hbn)
    have BW_v3 := Lib.hid (below_trans BW_2.out hbn BW_2.out.size)
    clear hbn
    have ltd := Hd_2.out.lt
    go_wp2_with fail
    rw [← HWv3.out]
    refine (HN2.out _).mono ?_
    rintro e w4 ⟨v, rfl, hdv, hb⟩
    have Hd_4 := Lib.hid (Hd_v3.out.below hb)
    have Hn_4 := Lib.hid (Hn.out.below hb)
    have Rd_4 := Lib.hid (Rd_v3.out.below hb)
    have Rn_4 := Lib.hid (Rn_v3.out.below hb)
    have BW_4 := Lib.hid (below_trans BW_v3.out hb BW_v3.out.size)
    clear hb 
    obtain ⟨Am, cm, Bm, em, rfl⟩ := hdv.opn (n := nd.kept.length) (m := nd.w.length) rfl rfl
    have Rm := Lib.hid hdv
    clear hdv
    obtain ⟨v5, hW⟩ : ∃ W, W = w4.alloc (.cells #[.slice Am nd.kept.length cm, .slice Bm nd.w.length em, .bool nd.off] 25) := ⟨_, rfl⟩
    have hbn : Below w4.heap.size w4 v5 := by rw [hW]; exact (Below.refl _ _).alloc (Nat.le_refl _) _
    have Hm := Lib.hid (show TBox v5 w4.heap.size 25 #[.slice Am nd.kept.length cm, .slice Bm nd.w.length em, .bool nd.off] from by rw [hW]; exact TBox.new _ _ _)
    have HWv5 := Lib.hid hW
    clear hW
    have Hd_v5 := Lib.hid (Hd_4.out.below hbn)
    have Hn_v5 := Lib.hid (Hn_4.out.below hbn)
    have Rd_v5 := Lib.hid (Rd_4.out.below hbn)
    have Rn_v5 := Lib.hid (Rn_4.out.below hbn)
    have Rm_v5 := Lib.hid (Rm.out.below hbn)
    have BW_v5 := Lib.hid (below_trans BW_4.out hbn BW_4.out.size)
    clear hbn
    have ltd := Hd_4.out.lt
    have ltn := Hn_4.out.lt
    have cn_0 : w4.cell? ⟨w2.heap.size, 0, none⟩ = some (.slice An nd.kept.length cn) := Hn_4.out.cell 0
    have cn_1 : w4.cell? ⟨w2.heap.size, 1, none⟩ = some (.slice Bn nd.w.length en) := Hn_4.out.cell 1
    have cn_2 : w4.cell? ⟨w2.heap.size, 2, none⟩ = some (.bool nd.off) := Hn_4.out.cell 2
    go_wp2_with fail
    rw [← HWv5.out]
    refine (HSN.out _ _ _ Rn_v5.out Rm_v5.out).mono ?_
    rintro e w6 ⟨rfl, hb⟩
    have Hd_6 := Lib.hid (Hd_v5.out.below hb)
    have Hn_6 := Lib.hid (Hn_v5.out.below hb)
    have Hm_6 := Lib.hid (Hm.out.below hb)
    have Rd_6 := Lib.hid (Rd_v5.out.below hb)
    have Rn_6 := Lib.hid (Rn_v5.out.below hb)
    have Rm_6 := Lib.hid (Rm_v5.out.below hb)
    have BW_6 := Lib.hid (below_trans BW_v5.out hb BW_v5.out.size)
    clear hb 
    clear cn_0 cn_1 cn_2
    have cd_0 : w6.cell? ⟨w.heap.size, 0, none⟩ = some (.slice A kept.length c) := Hd_6.out.cell 0
    have cd_1 : w6.cell? ⟨w.heap.size, 1, none⟩ = some (.slice B ws.length e0) := Hd_6.out.cell 1
    have cd_2 : w6.cell? ⟨w.heap.size, 2, none⟩ = some (.bool off) := Hd_6.out.cell 2
    go_wp2_with fail
    refine (HR2.out _ _ Rd_6.out).mono ?_
    rintro e w7 ⟨rfl, hb⟩
    have Hd_7 := Lib.hid (Hd_6.out.below hb)
    have Hn_7 := Lib.hid (Hn_6.out.below hb)
    have Hm_7 := Lib.hid (Hm_6.out.below hb)
    have Rd_7 := Lib.hid (Rd_6.out.below hb)
    have Rn_7 := Lib.hid (Rn_6.out.below hb)
    have Rm_7 := Lib.hid (Rm_6.out.below hb)
    have BW_7 := Lib.hid (below_trans BW_6.out hb BW_6.out.size)
    clear hb 
    clear cd_0 cd_1 cd_2
    have cd_0 : w7.cell? ⟨w.heap.size, 0, none⟩ = some (.slice A kept.length c) := Hd_7.out.cell 0
    have cd_1 : w7.cell? ⟨w.heap.size, 1, none⟩ = some (.slice B ws.length e0) := Hd_7.out.cell 1
    have cd_2 : w7.cell? ⟨w.heap.size, 2, none⟩ = some (.bool off) := Hd_7.out.cell 2
    have hne0 : (ne != ne) = false := by simp
    go_wp2_with fail
    refine (HR1.out _ _ Rd_7.out).mono ?_
    rintro e w8 ⟨rfl, hb⟩
    have Hd_8 := Lib.hid (Hd_7.out.below hb)
    have Hn_8 := Lib.hid (Hn_7.out.below hb)
    have Hm_8 := Lib.hid (Hm_7.out.below hb)
    have Rd_8 := Lib.hid (Rd_7.out.below hb)
    have Rn_8 := Lib.hid (Rn_7.out.below hb)
    have Rm_8 := Lib.hid (Rm_7.out.below hb)
    have BW_8 := Lib.hid (below_trans BW_7.out hb BW_7.out.size)
    clear hb 
    clear cd_0 cd_1 cd_2
    cases hr : decide (Right ⟨kept, ws, off⟩) with
    | false =>
      have HRF := Lib.hid hr
      clear hr
      go_wp2_with fail
      go_ret
      exact ⟨rfl, BW_8.out⟩
    | true =>
      have hR : Right ⟨kept, ws, off⟩ := of_decide_eq_true hr
      have HE1 := Lib.hid (fun v W hv => disk_Read _ v at' W hv hok)
      have HE2 := Lib.hid (fun v W hv => ref04_Read _ v at' W hv hok hR)
      have HS1 := Lib.hid (fun v W hv => disk_Stretch _ v at' many W hv hok hR ba bm)
      have HS2 := Lib.hid (fun v W hv => ref04_Stretch _ v at' many W hv hok hR ba bm)
      have HI1 := Lib.hid (fun v W hv => disk_Image _ v W hv hok)
      have HI2 := Lib.hid (fun v W hv => ref04_Image _ v W hv hok hR)
      have hil := (image_ok hok).1
      simp only at hil
      generalize readD ⟨kept, ws, off⟩ at' = rd at *
      generalize stretchD ⟨kept, ws, off⟩ at' many = sd at *
      generalize imageL ⟨kept, ws, off⟩ = im at *
      obtain ⟨rs, re⟩ := rd
      obtain ⟨ss, se⟩ := sd
      simp only at HE1 HE2 HS1 HS2
      clear hr hR
      have cd_0 : w8.cell? ⟨w.heap.size, 0, none⟩ = some (.slice A kept.length c) := Hd_8.out.cell 0
      have cd_1 : w8.cell? ⟨w.heap.size, 1, none⟩ = some (.slice B ws.length e0) := Hd_8.out.cell 1
      have cd_2 : w8.cell? ⟨w.heap.size, 2, none⟩ = some (.bool off) := Hd_8.out.cell 2
      go_wp2_with fail
      refine (HE1.out _ _ Rd_8.out).mono ?_
      rintro e w9 ⟨rfl, hb⟩
      have Hd_9 := Lib.hid (Hd_8.out.below hb)
      have Hn_9 := Lib.hid (Hn_8.out.below hb)
      have Hm_9 := Lib.hid (Hm_8.out.below hb)
      have Rd_9 := Lib.hid (Rd_8.out.below hb)
      have Rn_9 := Lib.hid (Rn_8.out.below hb)
      have Rm_9 := Lib.hid (Rm_8.out.below hb)
      have BW_9 := Lib.hid (below_trans BW_8.out hb BW_8.out.size)
      clear hb 
      clear cd_0 cd_1 cd_2
      have cd_0 : w9.cell? ⟨w.heap.size, 0, none⟩ = some (.slice A kept.length c) := Hd_9.out.cell 0
      have cd_1 : w9.cell? ⟨w.heap.size, 1, none⟩ = some (.slice B ws.length e0) := Hd_9.out.cell 1
      have cd_2 : w9.cell? ⟨w.heap.size, 2, none⟩ = some (.bool off) := Hd_9.out.cell 2
      go_wp2_with fail
      refine (HE2.out _ _ Rd_9.out).mono ?_
      rintro e w10 ⟨rfl, hb⟩
      have Hd_10 := Lib.hid (Hd_9.out.below hb)
      have Hn_10 := Lib.hid (Hn_9.out.below hb)
      have Hm_10 := Lib.hid (Hm_9.out.below hb)
      have Rd_10 := Lib.hid (Rd_9.out.below hb)
      have Rn_10 := Lib.hid (Rn_9.out.below hb)
      have Rm_10 := Lib.hid (Rm_9.out.below hb)
      have BW_10 := Lib.hid (below_trans BW_9.out hb BW_9.out.size)
      clear hb 
      clear cd_0 cd_1 cd_2
      have cd_0 : w10.cell? ⟨w.heap.size, 0, none⟩ = some (.slice A kept.length c) := Hd_10.out.cell 0
      have cd_1 : w10.cell? ⟨w.heap.size, 1, none⟩ = some (.slice B ws.length e0) := Hd_10.out.cell 1
      have cd_2 : w10.cell? ⟨w.heap.size, 2, none⟩ = some (.bool off) := Hd_10.out.cell 2
      go_wp2_with fail
      refine (HS1.out _ _ Rd_10.out).mono ?_
      rintro e w11 ⟨rfl, hb⟩
      have Hd_11 := Lib.hid (Hd_10.out.below hb)
      have Hn_11 := Lib.hid (Hn_10.out.below hb)
      have Hm_11 := Lib.hid (Hm_10.out.below hb)
      have Rd_11 := Lib.hid (Rd_10.out.below hb)
      have Rn_11 := Lib.hid (Rn_10.out.below hb)
      have Rm_11 := Lib.hid (Rm_10.out.below hb)
      have BW_11 := Lib.hid (below_trans BW_10.out hb BW_10.out.size)
      clear hb 
      clear cd_0 cd_1 cd_2
      have cd_0 : w11.cell? ⟨w.heap.size, 0, none⟩ = some (.slice A kept.length c) := Hd_11.out.cell 0
      have cd_1 : w11.cell? ⟨w.heap.size, 1, none⟩ = some (.slice B ws.length e0) := Hd_11.out.cell 1
      have cd_2 : w11.cell? ⟨w.heap.size, 2, none⟩ = some (.bool off) := Hd_11.out.cell 2
      go_wp2_with fail
      refine (HS2.out _ _ Rd_11.out).mono ?_
      rintro e w12 ⟨rfl, hb⟩
      have Hd_12 := Lib.hid (Hd_11.out.below hb)
      have Hn_12 := Lib.hid (Hn_11.out.below hb)
      have Hm_12 := Lib.hid (Hm_11.out.below hb)
      have Rd_12 := Lib.hid (Rd_11.out.below hb)
      have Rn_12 := Lib.hid (Rn_11.out.below hb)
      have Rm_12 := Lib.hid (Rm_11.out.below hb)
      have BW_12 := Lib.hid (below_trans BW_11.out hb BW_11.out.size)
      clear hb 
      clear cd_0 cd_1 cd_2
      go_wp2_with fail
      refine wp_region_held_drew (S := fun V => Below w12.heap.size w12 V) (by kernel_rfl) (below_dn (Below.refl _ _) 1) (fun hHeld => ?_)
      refine wpAnyH_take (i := 0) (v := ?_) rfl (by kernel_rfl) (by kernel_rfl) (by kernel_rfl) (fun _ _ _ h => h) (Or.inl ⟨by rfl, ?_⟩) (by assumption) ?_
      rotate_left
      · intro X hSw
        have hc0 : X.cell? ⟨w.heap.size, 0, none⟩ = some (.slice A kept.length c) := (Hd_12.out.below hSw).cell 0
        have hc1 : X.cell? ⟨w.heap.size, 1, none⟩ = some (.slice B ws.length e0) := (Hd_12.out.below hSw).cell 1
        have hc2 : X.cell? ⟨w.heap.size, 2, none⟩ = some (.bool off) := (Hd_12.out.below hSw).cell 2
        go_simp
        try with_reducible rfl
      rotate_left
      try simp only [Act.put, List.setIfInBounds_toArray, List.set_cons_zero, List.set_cons_succ, List.getElem_toArray, List.getElem_cons_zero, List.getElem_cons_succ]
      refine wpAnyH_take (i := 2) (v := ?_) rfl (by kernel_rfl) (by kernel_rfl) (by kernel_rfl) (fun _ _ _ h => h) (Or.inl ⟨by rfl, ?_⟩) (by assumption) ?_
      rotate_left
      · intro X hSw
        have hc0 : X.cell? ⟨w.heap.size, 0, none⟩ = some (.slice A kept.length c) := (Hd_12.out.below hSw).cell 0
        have hc1 : X.cell? ⟨w.heap.size, 1, none⟩ = some (.slice B ws.length e0) := (Hd_12.out.below hSw).cell 1
        have hc2 : X.cell? ⟨w.heap.size, 2, none⟩ = some (.bool off) := (Hd_12.out.below hSw).cell 2
        go_simp
        try with_reducible rfl
      rotate_left
      try simp only [Act.put, List.setIfInBounds_toArray, List.set_cons_zero, List.set_cons_succ, List.getElem_toArray, List.getElem_cons_zero, List.getElem_cons_succ]
      refine wpAnyH_ready (rs := [1]) (by kernel_rfl) (by simp) ?_
      refine (AllReadyH.cons rfl (fun K hK => ?_) AllReadyH.nil)
      rw [if_pos (by rfl)]
      go_wp2_with fail
      refine (HI1.out _ _ (Rd_12.out.below hHeld)).mono ?_
      rintro e wz ⟨v1, rfl, hr1, -, hb⟩
      replace hHeld := below_trans hHeld hb (Below.size hHeld)
      obtain ⟨A9, c9, rfl⟩ := hr1.shape
      rw [List.length_map] at hr1
      clear hb
      refine hK.out _ _ hHeld (fun _ => ?_)
      clear hK K
      try simp only [Act.put, List.setIfInBounds_toArray, List.set_cons_zero, List.set_cons_succ, List.getElem_toArray, List.getElem_cons_zero, List.getElem_cons_succ]
      refine wpAnyH_ready (rs := [3]) (by kernel_rfl) (by simp) ?_
      refine (AllReadyH.cons rfl (fun K hK => ?_) AllReadyH.nil)
      rw [if_pos (by rfl)]
      go_wp2_with fail
      refine (HI2.out _ _ (Rd_12.out.below hHeld)).mono ?_
      rintro e wz ⟨v2, rfl, hr2, -, hb⟩
      replace hHeld := below_trans hHeld hb (Below.size hHeld)
      obtain ⟨A8, c8, rfl⟩ := hr2.shape
      rw [List.length_map] at hr2
      replace hr1 := hr1.below hb
      clear hb
      refine hK.out _ _ hHeld (fun _ => ?_)
      clear hK K
      try simp only [Act.put, List.setIfInBounds_toArray, List.set_cons_zero, List.set_cons_succ, List.getElem_toArray, List.getElem_cons_zero, List.getElem_cons_succ]
      refine wpAnyH_ready (rs := [4]) (by kernel_rfl) (by simp) ?_
      refine (AllReadyH.cons rfl (fun K hK => ?_) AllReadyH.nil)
      rw [if_pos (by rfl)]
      go_wp2_with fail
      refine (ref_Strings _ _ im im _ hr1 hr2 hil hil).mono ?_
      rintro e wz ⟨rfl, hb⟩
      replace hHeld := below_trans hHeld hb (Below.size hHeld)
      clear hb
      refine hK.out _ _ hHeld (fun _ => ?_)
      clear hK K
      try simp only [Act.put, List.setIfInBounds_toArray, List.set_cons_zero, List.set_cons_succ, List.getElem_toArray, List.getElem_cons_zero, List.getElem_cons_succ]
      refine wpAnyH_take (i := 5) (v := ?_) rfl (by kernel_rfl) (by kernel_rfl) (by kernel_rfl) (fun _ _ _ h => h) (Or.inl ⟨by rfl, ?_⟩) (by assumption) ?_
      rotate_left
      · intro X hSw
        go_simp
        try with_reducible rfl
      rotate_left
      try simp only [Act.put, List.setIfInBounds_toArray, List.set_cons_zero, List.set_cons_succ, List.getElem_toArray, List.getElem_cons_zero, List.getElem_cons_succ]
      refine wpAnyH_done (by kernel_rfl) ?_ _
      rw [show sameTexts im im = true from by unfold sameTexts; simp]
      go_wp2_with fail
      go_ret
      exact ⟨rfl, below_trans BW_12.out hHeld BW_12.out.size⟩
theorem own : ownKnob Try.prog.godebug = none := by kernel_rfl
theorem laidOut : laidOutB Try.prog = true := by kernel_rfl
theorem cellscopyhold_api_Disk : Try.prog.cellsOf 25 = 3 := by kernel_rfl
theorem cells__string : Try.prog.cellsOf 22 = 1 := by kernel_rfl
theorem cells__api_Put : Try.prog.cellsOf 23 = 1 := by kernel_rfl
theorem cellsbool : Try.prog.cellsOf 4 = 1 := by kernel_rfl

set_option maxRecDepth 100000 in
set_option maxHeartbeats 1000000 in
theorem lifted (os : Os) (started : os.Started) (H : Type) (enc : TypeId × Value → H) :
    ReturnsInHanded {} Try.checked os 3 .any (Rows.diskReadsSpec.pre6 enc Try.prog Try.f3 Rows.diskReadsRow.domain false) (Rows.diskReadsSpec.post enc Try.prog Try.f3 false true false false) := by
  refine returnsInHanded_of_change_sized (C := Try.checked) own started (by kernel_rfl) Try.func3
    (ChangeSpec.witness6 (enc := enc) (C := Try.checked) false ⟨#[], #[.agg #[.slice none 0 0, .slice none 0 0, .bool false], .int .i64 0, .int .i64 0], []⟩ 8 (by kernel_rfl) (by kernel_rfl) (by kernel_rfl) (by kernel_rfl)) ?_
  intro W base args ds gs before hval0 hW hcnd hsz0 _
  have hsz : (DataW.weightsEach Try.prog (Try.f3.params.toList ++ []) (ds ++ gs)).all (· ≤ reachBytes) = true := hsz0
  clear hsz0
  have hval : ∀ (j : Nat) t v, Try.f3.params[j]? = some t → args[j]? = some v → Value.okWide Try.prog W .any base t v := hval0
  have hW' := hW
  have hlt := hW.lt
  obtain ⟨p, q, hA0, hV, rfl, hfz, hnd⟩ := hW
  have hA : DataW.TrodAll enc Try.prog W 0 (fun _ => true) true Try.f3.params.toList args.toList ds p := hA0
  rw [Try.params3] at hA hval
  obtain ⟨v0, vs0, d0, ds0, p0, q0, hargs, rfl, rfl, h0, r0⟩ := trodAll_cons hA
  obtain ⟨v1, vs1, d1, ds1, p1, q1, rfl, rfl, rfl, h1, r1⟩ := trodAll_cons r0
  obtain ⟨v2, vs2, d2, ds2, p2, q2, rfl, rfl, rfl, h2, r2⟩ := trodAll_cons r1
  obtain ⟨rfl, rfl, rfl⟩ := trodAll_nil r2
  obtain rfl : args = #[v0, v1, v2] := by cases args; simp_all
  obtain ⟨rfl, rfl⟩ := trodVars_none hV
  obtain ⟨cs0, rfl, hcz0⟩ := okWide_struct Try.underlying25 (hval 0 25 v0 rfl rfl)
  rw [cellscopyhold_api_Disk] at hcz0
  obtain ⟨c0_0, c0_1, c0_2, rfl⟩ := array3_of hcz0
  obtain ⟨fuel0, hf0⟩ := h0
  obtain ⟨xs0, m0, _, hx0, _, hlen0, hfl0⟩ := DataW.trod_struct Try.underlying25 hf0
  obtain ⟨y0_0, y0_1, y0_2, rfl⟩ := list3 hlen0
  have g0_0 : DataW.trod enc Try.prog W 0 (fun _ => true) true m0 22 [c0_0] = some y0_0 := by have h := hfl0 0 _ rfl; simpa [Value.cells, cells__string] using h
  have g0_1 : DataW.trod enc Try.prog W 0 (fun _ => true) true m0 23 [c0_1] = some y0_1 := by have h := hfl0 1 _ rfl; simpa [Value.cells, cells__api_Put] using h
  have g0_2 : DataW.trod enc Try.prog W 0 (fun _ => true) true m0 4 [c0_2] = some y0_2 := by have h := hfl0 2 _ rfl; simpa [Value.cells, cellsbool] using h
  simp only [Prod.mk.injEq] at hx0
  obtain ⟨rfl, hp0⟩ := hx0
  subst hp0
  have hw0_0 : ∀ n ∈ DataW.weights Try.prog 22 y0_0.1, n ≤ 140737488351232 := fun n hn => sized_deep hsz (by rw [Try.params3]; simp [DataW.weightsEach, DataW.weights, Try.underlying25, hn])
  obtain ⟨u0_0, a0_0, ev0_0, w0_0, e0_0⟩ := open_texts_at Try.underlying22 Try.underlying9 (by kernel_rfl) g0_0 (fun x hx => hlt x (by simp [hx]))
  obtain rfl : c0_0 = _ := by simpa using ev0_0
  have z0_0 := texts_sized Try.underlying22 (by kernel_rfl) e0_0 hw0_0
  have hw0_1 : ∀ n ∈ DataW.weights Try.prog 23 y0_1.1, n ≤ 140737488351232 := fun n hn => sized_deep hsz (by rw [Try.params3]; simp [DataW.weightsEach, DataW.weights, Try.underlying25, hn])
  obtain ⟨u0_1, a0_1, ev0_1, f0_1_0, f0_1_1, f0_1_2⟩ := open_puts g0_1 (fun x hx => hlt x (by simp [hx])) hw0_1
  obtain rfl : c0_1 = _ := by simpa using ev0_1
  obtain ⟨a0_2, ev0_2, ey0_2⟩ := DataW.trod_bool Try.underlying4 g0_2
  obtain rfl : c0_2 = _ := by simpa using ev0_2
  subst ey0_2
  obtain ⟨a1, rfl, rfl, rfl, w1⟩ := open_int Try.underlying3 (hval 1 3 v1 rfl rfl) h1
  obtain ⟨a2, rfl, rfl, rfl, w2⟩ := open_int Try.underlying3 (hval 2 3 v2 rfl rfl) h2
  refine (walk W c0_0 a0_0 w0_0 z0_0 c0_1 a0_1 f0_1_0 f0_1_1 f0_1_2 a0_2 a1 w1 a2 w2).mono fun e W' ⟨he, hg⟩ => ?_
  subst he
  exact ⟨_, rfl, Copyhold.law_post laidOut (by kernel_rfl) (by kernel_rfl) Try.underlying4 rfl rfl rfl rfl hW' hg⟩

theorem over : Rows.diskReadsRow.holds Try.pinned (OpenSpec.ofChange Rows.diskReadsSpec) :=
  OpenClaim.holds_of_wide 3 Try.f3 rfl rfl rfl rfl rfl rfl rfl ⟨rfl, rfl, rfl, rfl, rfl⟩ rfl rfl rfl rfl rfl (by kernel_rfl) Try.func3 (by kernel_rfl)
    (of_decide_eq_true (by kernel_rfl)) (by unfold Func.isWrapper; first | (rw [if_pos (by decide +kernel)]; kernel_rfl) | (rw [if_neg (by decide +kernel)]; exact ⟨rfl, rfl⟩))
    (fun os started H enc _ => lifted os started H enc)

theorem proved : Rows.DiskReadsSaid :=
  over
end Go.Proofs.Ytahnkkmngbckdaa.diskReads
