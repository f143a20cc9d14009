/- Proved: copyholdlaw04.DiskSectors returns true for every disk, marks and number, and leaves them as they were: a sector behind a crash is the one that was kept, or one that was written there since. No condition beyond the form's own reach. -/
import Derived.Test.YtahnkkmngbckdaaDisk15
namespace Go.Proofs.Ytahnkkmngbckdaa.diskSectors
open Go.ChangeShapes Go.WideShapes Go.ChangeAt Go.RowKit Copyhold Copyhold.Disk
open Go.ChangeMaps (open_string shut_string)
set_option linter.unusedVariables false
set_option linter.unusedSimpArgs false

set_option maxRecDepth 100000 in
set_option maxHeartbeats 16000000 in
theorem walk (w : World) (kv : Value) (kept : List (List UInt8)) (hk : Row w kv (kept.map strV)) (hkl : kept.length ≤ 8796093022207 ∧ ∀ l ∈ kept, l.length ≤ 140737488351232) (pv : Value) (ws : List PutW) (hp : Puts w pv ws) (hpo : OkPuts ws) (hpl : ws.length ≤ 5864062014634) (off : Bool) (mv : Value) (keep : List Bool) (hkv : Row w mv (keep.map Value.bool)) (hkn : keep.length ≤ 140737488351232) (at' : Int) (wa : (Lit.int .i64 at').wf = true) :
    Calls Try.prog 6 #[.agg #[kv, pv, .bool off], mv, .int .i64 at'] w fun e w' => e = .returned (.bool true) ∧ Below w.heap.size w w' := by
  obtain ⟨K, kc, rfl⟩ := hkv.shape
  rw [List.length_map] at hkv ⊢
  obtain ⟨A, c, rfl⟩ := hk.shape
  obtain ⟨B, e0, rfl, -⟩ := hp.shape
  rw [List.length_map] at hk ⊢
  have hv : DiskV w (.agg #[.slice A kept.length c, .slice B ws.length e0, .bool off]) ⟨kept, ws, off⟩ := ⟨A, c, B, e0, rfl, hk, hp⟩
  have hok : OkD ⟨kept, ws, off⟩ := ⟨by have := hkl.1; simp only; omega, hkl.2, hpo, hpl⟩
  have hn : kept.length ≤ 8796093022208 := hok.1
  have ba := i64_of wa
  clear wa
  have HFW := Lib.hid (fun v W hv => law_few ⟨kept, ws, off⟩ v W hv hok)
  obtain ⟨wu1, hu1⟩ : ∃ u, u = w.alloc (.cells #[.slice A kept.length c, .slice B ws.length e0, .bool off] 25) := ⟨_, rfl⟩
  have su1 : wu1.heap.size = w.heap.size + 1 := by rw [hu1]; simp
  have tu1 : TBox wu1 (w.heap.size) 25 #[.slice A kept.length c, .slice B ws.length e0, .bool off] := by rw [hu1]; exact TBox.new _ _ _
  have bu1 : Below w.heap.size w wu1 := by rw [hu1]; exact (Below.refl _ _).alloc (Nat.le_refl _) _
  have BU1 := bu1
  have Hd0 := Lib.hid tu1
  have BW_0 := Lib.hid BU1
  have HW : Hid (wu1 = (w.alloc (.cells #[.slice A kept.length c, .slice B ws.length e0, .bool off] 25))) := Lib.hid (by rw [hu1])
  have HSZ := Lib.hid su1
  obtain ⟨W0, hW0⟩ : ∃ u, u = wu1 := ⟨_, rfl⟩
  rw [← hW0] at Hd0 BW_0 HW HSZ
  clear hW0 hu1 su1 tu1 bu1 BU1
  have Rd0 := Lib.hid (hv.below BW_0.out)
  have Rk0 := Lib.hid (hkv.below BW_0.out)
  have HKR := Lib.hid (hk.below BW_0.out)
  have HPR := Lib.hid (hp.below BW_0.out)
  clear hv hk hp hkv
  go_enter Try.func6, Try.ntmps6
  go_wp2_with fail
  rw [← HW.out]
  refine (law_shown _).mono ?_
  rintro e w1 ⟨rfl, hb⟩
  have Hd_1 := Lib.hid (Hd0.out.below hb)
  have Rd_1 := Lib.hid (Rd0.out.below hb)
  have Rk_1 := Lib.hid (Rk0.out.below hb)
  have Rkr_1 := Lib.hid (HKR.out.below hb)
  have Rpr_1 := Lib.hid (HPR.out.below hb)
  have BW_1 := Lib.hid (below_trans BW_0.out hb BW_0.out.size)
  clear hb 
  have cd_0 : w1.cell? ⟨w.heap.size, 0, none⟩ = some (.slice A kept.length c) := Hd_1.out.cell 0
  have cd_1 : w1.cell? ⟨w.heap.size, 1, none⟩ = some (.slice B ws.length e0) := Hd_1.out.cell 1
  have cd_2 : w1.cell? ⟨w.heap.size, 2, none⟩ = some (.bool off) := Hd_1.out.cell 2
  go_wp2_with fail
  refine (HFW.out _ _ Rd_1.out).mono ?_
  rintro e w2 ⟨rfl, hb⟩
  have Hd_2 := Lib.hid (Hd_1.out.below hb)
  have Rd_2 := Lib.hid (Rd_1.out.below hb)
  have Rk_2 := Lib.hid (Rk_1.out.below hb)
  have Rkr_2 := Lib.hid (Rkr_1.out.below hb)
  have Rpr_2 := Lib.hid (Rpr_1.out.below hb)
  have BW_2 := Lib.hid (below_trans BW_1.out hb BW_1.out.size)
  clear hb 
  clear cd_0 cd_1 cd_2
  cases hf : fewB ⟨kept, ws, off⟩ with
  | false =>
    have HFF := Lib.hid hf
    clear hf
    go_wp2_with fail
    go_ret
    exact ⟨rfl, BW_2.out⟩
  | true =>
    obtain ⟨hk50, hw50, hR⟩ : kept.length ≤ 50 ∧ ws.length ≤ 50 ∧ Right ⟨kept, ws, off⟩ := of_decide_eq_true hf
    clear hf
    by_cases hin : 0 ≤ at' ∧ at' < (kept.length : Int)
    · obtain ⟨q0, q1⟩ := hin
      obtain ⟨q, rfl⟩ := Int.eq_ofNat_of_zero_le q0
      have hqk : q < kept.length := by omega
      have HC := Lib.hid (fun v kv W hv hk => disk_Crash _ v kv keep W hv hok hk hkn)
      have hcl : (crashL ⟨kept, ws, off⟩ keep).length = kept.length := doneL_len _ _
      have hat := doneL_at kept (lets kept.length (keepP keep) 0 ws) q hqk
      have hat2 : (crashL ⟨kept, ws, off⟩ keep)[q]? = kept[q]? ∨ ∃ p ∈ ws, p.1 = (q : Int) ∧ (crashL ⟨kept, ws, off⟩ keep)[q]? = some p.2 := by
        rcases hat with h | ⟨p, hp, h1, h2⟩
        · exact .inl h
        · have hth := lets_there _ _ _ _ p hp
          exact .inr ⟨p, lets_mem p hp, by omega, h2⟩
      generalize crashL ⟨kept, ws, off⟩ keep = cl at *
      have HAT := Lib.hid hat2
      have HOK := Lib.hid hpo
      clear hat hat2 hR
      have cd_0 : w2.cell? ⟨w.heap.size, 0, none⟩ = some (.slice A kept.length c) := Hd_2.out.cell 0
      have cd_1 : w2.cell? ⟨w.heap.size, 1, none⟩ = some (.slice B ws.length e0) := Hd_2.out.cell 1
      have cd_2 : w2.cell? ⟨w.heap.size, 2, none⟩ = some (.bool off) := Hd_2.out.cell 2
      go_wp2_with fail
      clear cd_0 cd_1 cd_2
      refine (HC.out _ _ _ Rd_2.out Rk_2.out).mono ?_
      rintro e w3 ⟨v, rfl, hdv, hb⟩
      have Hd_3 := Lib.hid (Hd_2.out.below hb)
      have Rd_3 := Lib.hid (Rd_2.out.below hb)
      have Rk_3 := Lib.hid (Rk_2.out.below hb)
      have Rkr_3 := Lib.hid (Rkr_2.out.below hb)
      have Rpr_3 := Lib.hid (Rpr_2.out.below hb)
      have BW_3 := Lib.hid (below_trans BW_2.out hb BW_2.out.size)
      clear hb 
      obtain ⟨Ac, cc, Bc, ec, rfl, hcr, hcp⟩ := hdv
      simp only [List.length_nil] at hcr hcp ⊢
      have Rcr := Lib.hid hcr
      clear hcr hcp
      rw [hcl]
      obtain ⟨v4, hW⟩ : ∃ W, W = w3.alloc (.cells #[.slice Ac kept.length cc, .slice Bc 0 ec, .bool false] 25) := ⟨_, rfl⟩
      have hbn : Below w3.heap.size w3 v4 := by rw [hW]; exact (Below.refl _ _).alloc (Nat.le_refl _) _
      have Hc := Lib.hid (show TBox v4 w3.heap.size 25 #[.slice Ac kept.length cc, .slice Bc 0 ec, .bool false] from by rw [hW]; exact TBox.new _ _ _)
      have HWv4 := Lib.hid hW
      clear hW
      have Hd_v4 := Lib.hid (Hd_3.out.below hbn)
      have Rd_v4 := Lib.hid (Rd_3.out.below hbn)
      have Rk_v4 := Lib.hid (Rk_3.out.below hbn)
      have Rkr_v4 := Lib.hid (Rkr_3.out.below hbn)
      have Rpr_v4 := Lib.hid (Rpr_3.out.below hbn)
      have Rcr_v4 := Lib.hid (Rcr.out.below hbn)
      have BW_v4 := Lib.hid (below_trans BW_3.out hbn BW_3.out.size)
      clear hbn
      have ltd := Hd_3.out.lt
      have cd_0 : w3.cell? ⟨w.heap.size, 0, none⟩ = some (.slice A kept.length c) := Hd_3.out.cell 0
      have cd_1 : w3.cell? ⟨w.heap.size, 1, none⟩ = some (.slice B ws.length e0) := Hd_3.out.cell 1
      have cd_2 : w3.cell? ⟨w.heap.size, 2, none⟩ = some (.bool off) := Hd_3.out.cell 2
      have hnn : ((kept.length : Int) != (kept.length : Int)) = false := by simp
      go_wp2_with fail
      rw [← HWv4.out]
      clear cd_0 cd_1 cd_2
      have hqc : q < cl.length := by omega
      obtain ⟨b1, o1, hA1, hb1, _, h1c⟩ := Rcr_v4.out.at q (x := strV (cl[q]'hqc)) (by simp [hqc])
      have HX1 := Lib.hid (h1c q (strV (cl[q]'hqc)) (by simp [hqc]))
      obtain ⟨b2, o2, hA2, hb2, _, h2c⟩ := Rkr_v4.out.at q (x := strV kept[q]) (by simp [hqk])
      have HX2 := Lib.hid (h2c q (strV kept[q]) (by simp [hqk]))
      rw [List.getElem?_eq_getElem hqc, List.getElem?_eq_getElem hqk] at HAT
      generalize hcx : cl[q]'hqc = x at *
      generalize hkx : kept[q] = y at *
      have hqi : (q : Int) < (kept.length : Int) := by omega
      clear h1c h2c hcx hkx
      subst hA1 hA2
      refine wp_region_held_drew (S := fun V => Below v4.heap.size v4 V) (by kernel_rfl) (below_dn (Below.refl _ _) 1) (fun hHeld => ?_)
      refine wpAnyH_take (i := 0) (v := ?_) rfl (by kernel_rfl) (by kernel_rfl) (by kernel_rfl) (fun _ _ _ h => h) (Or.inl ⟨by rfl, ?_⟩) (by assumption) ?_
      rotate_left
      · intro X hSw
        go_simp
        try with_reducible rfl
      rotate_left
      try simp only [Act.put, List.setIfInBounds_toArray, List.set_cons_zero, List.set_cons_succ, List.getElem_toArray, List.getElem_cons_zero, List.getElem_cons_succ]
      refine wpAnyH_take (i := 1) (v := ?_) rfl (by kernel_rfl) (by kernel_rfl) (by kernel_rfl) (fun _ _ _ h => h) (Or.inl ⟨by rfl, ?_⟩) (by assumption) ?_
      rotate_left
      · intro X hSw
        have hc0 : X.cell? ⟨w.heap.size, 0, none⟩ = some (.slice (some ⟨b2, o2, none⟩) kept.length c) := (Hd_v4.out.below hSw).cell 0
        have hc1 : X.cell? ⟨w.heap.size, 1, none⟩ = some (.slice B ws.length e0) := (Hd_v4.out.below hSw).cell 1
        have hc2 : X.cell? ⟨w.heap.size, 2, none⟩ = some (.bool off) := (Hd_v4.out.below hSw).cell 2
        have hx0 : X.cell? ⟨w3.heap.size, 0, none⟩ = some (.slice (some ⟨b1, o1, none⟩) kept.length cc) := (Hc.out.below hSw).cell 0
        have hx1 : X.cell? ⟨w3.heap.size, 1, none⟩ = some (.slice Bc 0 ec) := (Hc.out.below hSw).cell 1
        have hx2 : X.cell? ⟨w3.heap.size, 2, none⟩ = some (.bool false) := (Hc.out.below hSw).cell 2
        have hy1 : X.cell? ⟨b1, o1 + q, none⟩ = some (.string ⟨x.toArray⟩) := (hSw.cell (p := ⟨b1, o1 + q, none⟩) hb1).trans HX1.out
        have hy2 : X.cell? ⟨b2, o2 + q, none⟩ = some (.string ⟨y.toArray⟩) := (hSw.cell (p := ⟨b2, o2 + q, none⟩) hb2).trans HX2.out
        go_simp
        try with_reducible rfl
      rotate_left
      try simp only [Act.put, List.setIfInBounds_toArray, List.set_cons_zero, List.set_cons_succ, List.getElem_toArray, List.getElem_cons_zero, List.getElem_cons_succ]
      refine wpAnyH_take (i := 2) (v := ?_) rfl (by kernel_rfl) (by kernel_rfl) (by kernel_rfl) (fun _ _ _ h => h) (Or.inl ⟨by rfl, ?_⟩) (by assumption) ?_
      rotate_left
      · intro X hSw
        go_simp
        try with_reducible rfl
      rotate_left
      try simp only [Act.put, List.setIfInBounds_toArray, List.set_cons_zero, List.set_cons_succ, List.getElem_toArray, List.getElem_cons_zero, List.getElem_cons_succ]
      refine wpAnyH_take (i := 3) (v := ?_) rfl (by kernel_rfl) (by kernel_rfl) (by kernel_rfl) (fun _ _ _ h => h) (Or.inl ⟨by rfl, ?_⟩) (by assumption) ?_
      rotate_left
      · intro X hSw
        go_simp
        try with_reducible rfl
      rotate_left
      try simp only [Act.put, List.setIfInBounds_toArray, List.set_cons_zero, List.set_cons_succ, List.getElem_toArray, List.getElem_cons_zero, List.getElem_cons_succ]
      refine wpAnyH_take (i := 4) (v := ?_) rfl (by kernel_rfl) (by kernel_rfl) (by kernel_rfl) (fun _ _ _ h => h) (Or.inl ⟨by rfl, ?_⟩) (by assumption) ?_
      rotate_left
      · intro X hSw
        have hc0 : X.cell? ⟨w.heap.size, 0, none⟩ = some (.slice (some ⟨b2, o2, none⟩) kept.length c) := (Hd_v4.out.below hSw).cell 0
        have hc1 : X.cell? ⟨w.heap.size, 1, none⟩ = some (.slice B ws.length e0) := (Hd_v4.out.below hSw).cell 1
        have hc2 : X.cell? ⟨w.heap.size, 2, none⟩ = some (.bool off) := (Hd_v4.out.below hSw).cell 2
        have hx0 : X.cell? ⟨w3.heap.size, 0, none⟩ = some (.slice (some ⟨b1, o1, none⟩) kept.length cc) := (Hc.out.below hSw).cell 0
        have hx1 : X.cell? ⟨w3.heap.size, 1, none⟩ = some (.slice Bc 0 ec) := (Hc.out.below hSw).cell 1
        have hx2 : X.cell? ⟨w3.heap.size, 2, none⟩ = some (.bool false) := (Hc.out.below hSw).cell 2
        have hy1 : X.cell? ⟨b1, o1 + q, none⟩ = some (.string ⟨x.toArray⟩) := (hSw.cell (p := ⟨b1, o1 + q, none⟩) hb1).trans HX1.out
        have hy2 : X.cell? ⟨b2, o2 + q, none⟩ = some (.string ⟨y.toArray⟩) := (hSw.cell (p := ⟨b2, o2 + q, none⟩) hb2).trans HX2.out
        go_simp
        try with_reducible rfl
      rotate_left
      try simp only [Act.put, List.setIfInBounds_toArray, List.set_cons_zero, List.set_cons_succ, List.getElem_toArray, List.getElem_cons_zero, List.getElem_cons_succ]
      refine wpAnyH_take (i := 5) (v := ?_) rfl (by kernel_rfl) (by kernel_rfl) (by kernel_rfl) (fun _ _ _ h => h) (Or.inl ⟨by rfl, ?_⟩) (by assumption) ?_
      rotate_left
      · intro X hSw
        go_simp
        try with_reducible rfl
      rotate_left
      try simp only [Act.put, List.setIfInBounds_toArray, List.set_cons_zero, List.set_cons_succ, List.getElem_toArray, List.getElem_cons_zero, List.getElem_cons_succ]
      refine wpAnyH_take (i := 6) (v := ?_) rfl (by kernel_rfl) (by kernel_rfl) (by kernel_rfl) (fun _ _ _ h => h) (Or.inl ⟨by rfl, ?_⟩) (by assumption) ?_
      rotate_left
      · intro X hSw
        have hc0 : X.cell? ⟨w.heap.size, 0, none⟩ = some (.slice (some ⟨b2, o2, none⟩) kept.length c) := (Hd_v4.out.below hSw).cell 0
        have hc1 : X.cell? ⟨w.heap.size, 1, none⟩ = some (.slice B ws.length e0) := (Hd_v4.out.below hSw).cell 1
        have hc2 : X.cell? ⟨w.heap.size, 2, none⟩ = some (.bool off) := (Hd_v4.out.below hSw).cell 2
        have hx0 : X.cell? ⟨w3.heap.size, 0, none⟩ = some (.slice (some ⟨b1, o1, none⟩) kept.length cc) := (Hc.out.below hSw).cell 0
        have hx1 : X.cell? ⟨w3.heap.size, 1, none⟩ = some (.slice Bc 0 ec) := (Hc.out.below hSw).cell 1
        have hx2 : X.cell? ⟨w3.heap.size, 2, none⟩ = some (.bool false) := (Hc.out.below hSw).cell 2
        have hy1 : X.cell? ⟨b1, o1 + q, none⟩ = some (.string ⟨x.toArray⟩) := (hSw.cell (p := ⟨b1, o1 + q, none⟩) hb1).trans HX1.out
        have hy2 : X.cell? ⟨b2, o2 + q, none⟩ = some (.string ⟨y.toArray⟩) := (hSw.cell (p := ⟨b2, o2 + q, none⟩) hb2).trans HX2.out
        go_simp
        try with_reducible rfl
      rotate_left
      try simp only [Act.put, List.setIfInBounds_toArray, List.set_cons_zero, List.set_cons_succ, List.getElem_toArray, List.getElem_cons_zero, List.getElem_cons_succ]
      refine wpAnyH_take (i := 7) (v := ?_) rfl (by kernel_rfl) (by kernel_rfl) (by kernel_rfl) (fun _ _ _ h => h) (Or.inl ⟨by rfl, ?_⟩) (by assumption) ?_
      rotate_left
      · intro X hSw
        go_simp
        try with_reducible rfl
      rotate_left
      try simp only [Act.put, List.setIfInBounds_toArray, List.set_cons_zero, List.set_cons_succ, List.getElem_toArray, List.getElem_cons_zero, List.getElem_cons_succ]
      refine wpAnyH_take (i := 8) (v := ?_) rfl (by kernel_rfl) (by kernel_rfl) (by kernel_rfl) (fun _ _ _ h => h) (Or.inl ⟨by rfl, ?_⟩) (by assumption) ?_
      rotate_left
      · intro X hSw
        go_simp
        try with_reducible rfl
      rotate_left
      try simp only [Act.put, List.setIfInBounds_toArray, List.set_cons_zero, List.set_cons_succ, List.getElem_toArray, List.getElem_cons_zero, List.getElem_cons_succ]
      refine wpAnyH_take (i := 9) (v := ?_) rfl (by kernel_rfl) (by kernel_rfl) (by kernel_rfl) (fun _ _ _ h => h) (Or.inl ⟨by rfl, ?_⟩) (by assumption) ?_
      rotate_left
      · intro X hSw
        have hc0 : X.cell? ⟨w.heap.size, 0, none⟩ = some (.slice (some ⟨b2, o2, none⟩) kept.length c) := (Hd_v4.out.below hSw).cell 0
        have hc1 : X.cell? ⟨w.heap.size, 1, none⟩ = some (.slice B ws.length e0) := (Hd_v4.out.below hSw).cell 1
        have hc2 : X.cell? ⟨w.heap.size, 2, none⟩ = some (.bool off) := (Hd_v4.out.below hSw).cell 2
        have hx0 : X.cell? ⟨w3.heap.size, 0, none⟩ = some (.slice (some ⟨b1, o1, none⟩) kept.length cc) := (Hc.out.below hSw).cell 0
        have hx1 : X.cell? ⟨w3.heap.size, 1, none⟩ = some (.slice Bc 0 ec) := (Hc.out.below hSw).cell 1
        have hx2 : X.cell? ⟨w3.heap.size, 2, none⟩ = some (.bool false) := (Hc.out.below hSw).cell 2
        have hy1 : X.cell? ⟨b1, o1 + q, none⟩ = some (.string ⟨x.toArray⟩) := (hSw.cell (p := ⟨b1, o1 + q, none⟩) hb1).trans HX1.out
        have hy2 : X.cell? ⟨b2, o2 + q, none⟩ = some (.string ⟨y.toArray⟩) := (hSw.cell (p := ⟨b2, o2 + q, none⟩) hb2).trans HX2.out
        go_simp
        try with_reducible rfl
      rotate_left
      try simp only [Act.put, List.setIfInBounds_toArray, List.set_cons_zero, List.set_cons_succ, List.getElem_toArray, List.getElem_cons_zero, List.getElem_cons_succ]
      refine wpAnyH_take (i := 10) (v := ?_) rfl (by kernel_rfl) (by kernel_rfl) (by kernel_rfl) (fun _ _ _ h => h) (Or.inl ⟨by rfl, ?_⟩) (by assumption) ?_
      rotate_left
      · intro X hSw
        go_simp
        try with_reducible rfl
      rotate_left
      try simp only [Act.put, List.setIfInBounds_toArray, List.set_cons_zero, List.set_cons_succ, List.getElem_toArray, List.getElem_cons_zero, List.getElem_cons_succ]
      refine wpAnyH_take (i := 11) (v := ?_) rfl (by kernel_rfl) (by kernel_rfl) (by kernel_rfl) (fun _ _ _ h => h) (Or.inl ⟨by rfl, ?_⟩) (by assumption) ?_
      rotate_left
      · intro X hSw
        go_simp
        try with_reducible rfl
      rotate_left
      try simp only [Act.put, List.setIfInBounds_toArray, List.set_cons_zero, List.set_cons_succ, List.getElem_toArray, List.getElem_cons_zero, List.getElem_cons_succ]
      refine wpAnyH_done (by kernel_rfl) ?_ _
      have HH8 := Lib.hid hHeld
      clear hHeld
      go_wp2_with fail
      go_loopw [10, 11] (fun bv iv wr => ∃ (k : Nat) (bb : Bool), k ≤ ws.length ∧ iv = .int .i64 (k : Int) ∧ bv = .bool bb ∧ (bb = true ↔ x = y ∨ ∃ p ∈ ws.take k, p.1 = (q : Int) ∧ p.2 = x) ∧ Below v4.heap.size v4 wr) (fun _ iv _ => ws.length - (intOf iv).toNat)
      case atStart => exact ⟨0, x == y, Nat.zero_le _, rfl, rfl, by simp, HH8.out⟩
      case round =>
        obtain ⟨k, bb, hk, rfl, rfl, hbb, hbw⟩ := hrel
        have HBB := Lib.hid hbb
        have HBW := Lib.hid hbw
        have d1 : wr.cell? ⟨w.heap.size, 1, none⟩ = some (.slice B ws.length e0) := (Hd_v4.out.below hbw).cell 1
        clear hbb hbw
        by_cases hlt : k < ws.length
        · obtain ⟨b, off', rfl, hbk, _, hc0, hc1⟩ := Rpr_v4.out.at k hlt
          have hki : (k : Int) < (ws.length : Int) := by omega
          have htk := List.take_succ_eq_append_getElem hlt
          have HTK := Lib.hid htk
          obtain ⟨hx0, hx1, hx2⟩ := HOK.out ws[k] (List.getElem_mem hlt)
          clear htk
          generalize ws[k] = p at *
          obtain ⟨i, s⟩ := p
          simp only at hc0 hc1 hx0 hx1 hx2
          have HP0 := Lib.hid (fun X (h : Below wr.heap.size wr X) => show X.cell? ⟨b, off' + k * 2, none⟩ = some (.int .i64 i) from ((below_trans HBW.out h HBW.out.size).cell (p := ⟨b, off' + k * 2, none⟩) hbk).trans hc0)
          have HP1 := Lib.hid (fun X (h : Below wr.heap.size wr X) => show X.cell? ⟨b, off' + k * 2 + 1, none⟩ = some (.string ⟨s.toArray⟩) from ((below_trans HBW.out h HBW.out.size).cell (p := ⟨b, off' + k * 2 + 1, none⟩) hbk).trans hc1)
          have HDW := Lib.hid (Hd_v4.out.below HBW.out)
          have HCW := Lib.hid (Hc.out.below HBW.out)
          have HY1 := Lib.hid (fun X (h : Below wr.heap.size wr X) => show X.cell? ⟨b1, o1 + q, none⟩ = some (.string ⟨x.toArray⟩) from ((below_trans HBW.out h HBW.out.size).cell (p := ⟨b1, o1 + q, none⟩) hb1).trans HX1.out)
          clear hc0 hc1
          go_wp2_with fail
          cases bb with
          | true =>
            have hT := HBB.out.1 rfl
            have HNX := Lib.hid (show (true = true ↔ x = y ∨ ∃ p ∈ ws.take (k + 1), p.1 = (q : Int) ∧ p.2 = x) from by
              rw [HTK.out]
              refine ⟨fun _ => ?_, fun _ => rfl⟩
              rcases hT with h | ⟨p, hp, h⟩
              · exact .inl h
              · exact .inr ⟨p, List.mem_append_left _ hp, h⟩)
            clear hT
            refine wp_region_held_drew (S := fun V => Below wr.heap.size wr V) (by kernel_rfl) (below_dn (Below.refl _ _) 1) (fun hHeld => ?_)
            refine wpAnyH_take (i := 0) (v := ?_) rfl (by kernel_rfl) (by kernel_rfl) (by kernel_rfl) (fun _ _ _ h => h) (Or.inl ⟨by rfl, ?_⟩) (by assumption) ?_
            rotate_left
            · intro X hSw
              go_simp
              try with_reducible rfl
            rotate_left
            try simp only [Act.put, List.setIfInBounds_toArray, List.set_cons_zero, List.set_cons_succ, List.getElem_toArray, List.getElem_cons_zero, List.getElem_cons_succ]
            refine wpAnyH_take (i := 1) (v := ?_) rfl (by kernel_rfl) (by kernel_rfl) (by kernel_rfl) (fun _ _ _ h => h) (Or.inl ⟨by rfl, ?_⟩) (by assumption) ?_
            rotate_left
            · intro X hSw
              go_simp
              try with_reducible rfl
            rotate_left
            try simp only [Act.put, List.setIfInBounds_toArray, List.set_cons_zero, List.set_cons_succ, List.getElem_toArray, List.getElem_cons_zero, List.getElem_cons_succ]
            refine wpAnyH_take (i := 2) (v := undef) rfl (by kernel_rfl) (by kernel_rfl) (by kernel_rfl) (fun _ _ _ h => h) (Or.inr ⟨by rfl, rfl⟩) (by assumption) ?_
            try simp only [Act.put, List.setIfInBounds_toArray, List.set_cons_zero, List.set_cons_succ, List.getElem_toArray, List.getElem_cons_zero, List.getElem_cons_succ]
            refine wpAnyH_take (i := 3) (v := undef) rfl (by kernel_rfl) (by kernel_rfl) (by kernel_rfl) (fun _ _ _ h => h) (Or.inr ⟨by rfl, rfl⟩) (by assumption) ?_
            try simp only [Act.put, List.setIfInBounds_toArray, List.set_cons_zero, List.set_cons_succ, List.getElem_toArray, List.getElem_cons_zero, List.getElem_cons_succ]
            refine wpAnyH_take (i := 4) (v := undef) rfl (by kernel_rfl) (by kernel_rfl) (by kernel_rfl) (fun _ _ _ h => h) (Or.inr ⟨by rfl, rfl⟩) (by assumption) ?_
            try simp only [Act.put, List.setIfInBounds_toArray, List.set_cons_zero, List.set_cons_succ, List.getElem_toArray, List.getElem_cons_zero, List.getElem_cons_succ]
            refine wpAnyH_take (i := 5) (v := undef) rfl (by kernel_rfl) (by kernel_rfl) (by kernel_rfl) (fun _ _ _ h => h) (Or.inr ⟨by rfl, rfl⟩) (by assumption) ?_
            try simp only [Act.put, List.setIfInBounds_toArray, List.set_cons_zero, List.set_cons_succ, List.getElem_toArray, List.getElem_cons_zero, List.getElem_cons_succ]
            refine wpAnyH_take (i := 6) (v := undef) rfl (by kernel_rfl) (by kernel_rfl) (by kernel_rfl) (fun _ _ _ h => h) (Or.inr ⟨by rfl, rfl⟩) (by assumption) ?_
            try simp only [Act.put, List.setIfInBounds_toArray, List.set_cons_zero, List.set_cons_succ, List.getElem_toArray, List.getElem_cons_zero, List.getElem_cons_succ]
            refine wpAnyH_take (i := 7) (v := undef) rfl (by kernel_rfl) (by kernel_rfl) (by kernel_rfl) (fun _ _ _ h => h) (Or.inr ⟨by rfl, rfl⟩) (by assumption) ?_
            try simp only [Act.put, List.setIfInBounds_toArray, List.set_cons_zero, List.set_cons_succ, List.getElem_toArray, List.getElem_cons_zero, List.getElem_cons_succ]
            refine wpAnyH_take (i := 8) (v := undef) rfl (by kernel_rfl) (by kernel_rfl) (by kernel_rfl) (fun _ _ _ h => h) (Or.inr ⟨by rfl, rfl⟩) (by assumption) ?_
            try simp only [Act.put, List.setIfInBounds_toArray, List.set_cons_zero, List.set_cons_succ, List.getElem_toArray, List.getElem_cons_zero, List.getElem_cons_succ]
            refine wpAnyH_take (i := 9) (v := undef) rfl (by kernel_rfl) (by kernel_rfl) (by kernel_rfl) (fun _ _ _ h => h) (Or.inr ⟨by rfl, rfl⟩) (by assumption) ?_
            try simp only [Act.put, List.setIfInBounds_toArray, List.set_cons_zero, List.set_cons_succ, List.getElem_toArray, List.getElem_cons_zero, List.getElem_cons_succ]
            refine wpAnyH_take (i := 10) (v := undef) rfl (by kernel_rfl) (by kernel_rfl) (by kernel_rfl) (fun _ _ _ h => h) (Or.inr ⟨by rfl, rfl⟩) (by assumption) ?_
            try simp only [Act.put, List.setIfInBounds_toArray, List.set_cons_zero, List.set_cons_succ, List.getElem_toArray, List.getElem_cons_zero, List.getElem_cons_succ]
            refine wpAnyH_take (i := 11) (v := undef) rfl (by kernel_rfl) (by kernel_rfl) (by kernel_rfl) (fun _ _ _ h => h) (Or.inr ⟨by rfl, rfl⟩) (by assumption) ?_
            try simp only [Act.put, List.setIfInBounds_toArray, List.set_cons_zero, List.set_cons_succ, List.getElem_toArray, List.getElem_cons_zero, List.getElem_cons_succ]
            refine wpAnyH_take (i := 12) (v := undef) rfl (by kernel_rfl) (by kernel_rfl) (by kernel_rfl) (fun _ _ _ h => h) (Or.inr ⟨by rfl, rfl⟩) (by assumption) ?_
            try simp only [Act.put, List.setIfInBounds_toArray, List.set_cons_zero, List.set_cons_succ, List.getElem_toArray, List.getElem_cons_zero, List.getElem_cons_succ]
            refine wpAnyH_take (i := 13) (v := undef) rfl (by kernel_rfl) (by kernel_rfl) (by kernel_rfl) (fun _ _ _ h => h) (Or.inr ⟨by rfl, rfl⟩) (by assumption) ?_
            try simp only [Act.put, List.setIfInBounds_toArray, List.set_cons_zero, List.set_cons_succ, List.getElem_toArray, List.getElem_cons_zero, List.getElem_cons_succ]
            refine wpAnyH_take (i := 14) (v := undef) rfl (by kernel_rfl) (by kernel_rfl) (by kernel_rfl) (fun _ _ _ h => h) (Or.inr ⟨by rfl, rfl⟩) (by assumption) ?_
            try simp only [Act.put, List.setIfInBounds_toArray, List.set_cons_zero, List.set_cons_succ, List.getElem_toArray, List.getElem_cons_zero, List.getElem_cons_succ]
            refine wpAnyH_take (i := 15) (v := undef) rfl (by kernel_rfl) (by kernel_rfl) (by kernel_rfl) (fun _ _ _ h => h) (Or.inr ⟨by rfl, rfl⟩) (by assumption) ?_
            try simp only [Act.put, List.setIfInBounds_toArray, List.set_cons_zero, List.set_cons_succ, List.getElem_toArray, List.getElem_cons_zero, List.getElem_cons_succ]
            refine wpAnyH_take (i := 16) (v := undef) rfl (by kernel_rfl) (by kernel_rfl) (by kernel_rfl) (fun _ _ _ h => h) (Or.inr ⟨by rfl, rfl⟩) (by assumption) ?_
            try simp only [Act.put, List.setIfInBounds_toArray, List.set_cons_zero, List.set_cons_succ, List.getElem_toArray, List.getElem_cons_zero, List.getElem_cons_succ]
            refine wpAnyH_take (i := 17) (v := undef) rfl (by kernel_rfl) (by kernel_rfl) (by kernel_rfl) (fun _ _ _ h => h) (Or.inr ⟨by rfl, rfl⟩) (by assumption) ?_
            try simp only [Act.put, List.setIfInBounds_toArray, List.set_cons_zero, List.set_cons_succ, List.getElem_toArray, List.getElem_cons_zero, List.getElem_cons_succ]
            refine wpAnyH_take (i := 18) (v := undef) rfl (by kernel_rfl) (by kernel_rfl) (by kernel_rfl) (fun _ _ _ h => h) (Or.inr ⟨by rfl, rfl⟩) (by assumption) ?_
            try simp only [Act.put, List.setIfInBounds_toArray, List.set_cons_zero, List.set_cons_succ, List.getElem_toArray, List.getElem_cons_zero, List.getElem_cons_succ]
            refine wpAnyH_take (i := 19) (v := undef) rfl (by kernel_rfl) (by kernel_rfl) (by kernel_rfl) (fun _ _ _ h => h) (Or.inr ⟨by rfl, rfl⟩) (by assumption) ?_
            try simp only [Act.put, List.setIfInBounds_toArray, List.set_cons_zero, List.set_cons_succ, List.getElem_toArray, List.getElem_cons_zero, List.getElem_cons_succ]
            refine wpAnyH_take (i := 20) (v := undef) rfl (by kernel_rfl) (by kernel_rfl) (by kernel_rfl) (fun _ _ _ h => h) (Or.inr ⟨by rfl, rfl⟩) (by assumption) ?_
            try simp only [Act.put, List.setIfInBounds_toArray, List.set_cons_zero, List.set_cons_succ, List.getElem_toArray, List.getElem_cons_zero, List.getElem_cons_succ]
            refine wpAnyH_take (i := 21) (v := undef) rfl (by kernel_rfl) (by kernel_rfl) (by kernel_rfl) (fun _ _ _ h => h) (Or.inr ⟨by rfl, rfl⟩) (by assumption) ?_
            try simp only [Act.put, List.setIfInBounds_toArray, List.set_cons_zero, List.set_cons_succ, List.getElem_toArray, List.getElem_cons_zero, List.getElem_cons_succ]
            refine wpAnyH_take (i := 22) (v := undef) rfl (by kernel_rfl) (by kernel_rfl) (by kernel_rfl) (fun _ _ _ h => h) (Or.inr ⟨by rfl, rfl⟩) (by assumption) ?_
            try simp only [Act.put, List.setIfInBounds_toArray, List.set_cons_zero, List.set_cons_succ, List.getElem_toArray, List.getElem_cons_zero, List.getElem_cons_succ]
            refine wpAnyH_take (i := 23) (v := undef) rfl (by kernel_rfl) (by kernel_rfl) (by kernel_rfl) (fun _ _ _ h => h) (Or.inr ⟨by rfl, rfl⟩) (by assumption) ?_
            try simp only [Act.put, List.setIfInBounds_toArray, List.set_cons_zero, List.set_cons_succ, List.getElem_toArray, List.getElem_cons_zero, List.getElem_cons_succ]
            refine wpAnyH_take (i := 24) (v := ?_) rfl (by kernel_rfl) (by kernel_rfl) (by kernel_rfl) (fun _ _ _ h => h) (Or.inl ⟨by rfl, ?_⟩) (by assumption) ?_
            rotate_left
            · intro X hSw
              go_simp
              try with_reducible rfl
            rotate_left
            try simp only [Act.put, List.setIfInBounds_toArray, List.set_cons_zero, List.set_cons_succ, List.getElem_toArray, List.getElem_cons_zero, List.getElem_cons_succ]
            refine wpAnyH_take (i := 25) (v := ?_) rfl (by kernel_rfl) (by kernel_rfl) (by kernel_rfl) (fun _ _ _ h => h) (Or.inl ⟨by rfl, ?_⟩) (by assumption) ?_
            rotate_left
            · intro X hSw
              go_simp
              try with_reducible rfl
            rotate_left
            try simp only [Act.put, List.setIfInBounds_toArray, List.set_cons_zero, List.set_cons_succ, List.getElem_toArray, List.getElem_cons_zero, List.getElem_cons_succ]
            refine wpAnyH_done (by kernel_rfl) ?_ _
            go_wp2_with fail
            go_roundw
            case rel => exact ⟨k + 1, true, by omega, by go_num, rfl, HNX.out, below_trans HBW.out hHeld HBW.out.size⟩
            case measure => simp [intOf]; omega
          | false =>
            have hF : ¬ (x = y ∨ ∃ p ∈ ws.take k, p.1 = (q : Int) ∧ p.2 = x) := fun h => by have := HBB.out.2 h; cases this
            by_cases hie : i = (q : Int)
            · by_cases hse : s = x
              · have HNX := Lib.hid (show (true = true ↔ x = y ∨ ∃ p ∈ ws.take (k + 1), p.1 = (q : Int) ∧ p.2 = x) from by
                  rw [HTK.out]
                  exact ⟨fun _ => .inr ⟨(i, s), by simp, hie, hse⟩, fun _ => rfl⟩)
                clear hF
                refine wp_region_held_drew (S := fun V => Below wr.heap.size wr V) (by kernel_rfl) (below_dn (Below.refl _ _) 1) (fun hHeld => ?_)
                refine wpAnyH_take (i := 0) (v := ?_) rfl (by kernel_rfl) (by kernel_rfl) (by kernel_rfl) (fun _ _ _ h => h) (Or.inl ⟨by rfl, ?_⟩) (by assumption) ?_
                rotate_left
                · intro X hSw
                  go_simp
                  try with_reducible rfl
                rotate_left
                try simp only [Act.put, List.setIfInBounds_toArray, List.set_cons_zero, List.set_cons_succ, List.getElem_toArray, List.getElem_cons_zero, List.getElem_cons_succ]
                refine wpAnyH_take (i := 1) (v := ?_) rfl (by kernel_rfl) (by kernel_rfl) (by kernel_rfl) (fun _ _ _ h => h) (Or.inl ⟨by rfl, ?_⟩) (by assumption) ?_
                rotate_left
                · intro X hSw
                  go_simp
                  try with_reducible rfl
                rotate_left
                try simp only [Act.put, List.setIfInBounds_toArray, List.set_cons_zero, List.set_cons_succ, List.getElem_toArray, List.getElem_cons_zero, List.getElem_cons_succ]
                refine wpAnyH_take (i := 2) (v := ?_) rfl (by kernel_rfl) (by kernel_rfl) (by kernel_rfl) (fun _ _ _ h => h) (Or.inl ⟨by rfl, ?_⟩) (by assumption) ?_
                rotate_left
                · intro X hSw
                  go_simp
                  try with_reducible rfl
                rotate_left
                try simp only [Act.put, List.setIfInBounds_toArray, List.set_cons_zero, List.set_cons_succ, List.getElem_toArray, List.getElem_cons_zero, List.getElem_cons_succ]
                refine wpAnyH_take (i := 3) (v := ?_) rfl (by kernel_rfl) (by kernel_rfl) (by kernel_rfl) (fun _ _ _ h => h) (Or.inl ⟨by rfl, ?_⟩) (by assumption) ?_
                rotate_left
                · intro X hSw
                  have hd1 : X.cell? ⟨w.heap.size, 1, none⟩ = some (.slice (some ⟨b, off', none⟩) ws.length e0) := (HDW.out.below hSw).cell 1
                  have hc0 : X.cell? ⟨w3.heap.size, 0, none⟩ = some (.slice (some ⟨b1, o1, none⟩) kept.length cc) := (HCW.out.below hSw).cell 0
                  have hp0 := HP0.out X hSw
                  have hp1 := HP1.out X hSw
                  have hy1 := HY1.out X hSw
                  go_simp
                  try with_reducible rfl
                rotate_left
                try simp only [Act.put, List.setIfInBounds_toArray, List.set_cons_zero, List.set_cons_succ, List.getElem_toArray, List.getElem_cons_zero, List.getElem_cons_succ]
                refine wpAnyH_take (i := 4) (v := ?_) rfl (by kernel_rfl) (by kernel_rfl) (by kernel_rfl) (fun _ _ _ h => h) (Or.inl ⟨by rfl, ?_⟩) (by assumption) ?_
                rotate_left
                · intro X hSw
                  go_simp
                  try with_reducible rfl
                rotate_left
                try simp only [Act.put, List.setIfInBounds_toArray, List.set_cons_zero, List.set_cons_succ, List.getElem_toArray, List.getElem_cons_zero, List.getElem_cons_succ]
                refine wpAnyH_take (i := 5) (v := ?_) rfl (by kernel_rfl) (by kernel_rfl) (by kernel_rfl) (fun _ _ _ h => h) (Or.inl ⟨by rfl, ?_⟩) (by assumption) ?_
                rotate_left
                · intro X hSw
                  go_simp
                  try with_reducible rfl
                rotate_left
                try simp only [Act.put, List.setIfInBounds_toArray, List.set_cons_zero, List.set_cons_succ, List.getElem_toArray, List.getElem_cons_zero, List.getElem_cons_succ]
                refine wpAnyH_take (i := 6) (v := ?_) rfl (by kernel_rfl) (by kernel_rfl) (by kernel_rfl) (fun _ _ _ h => h) (Or.inl ⟨by rfl, ?_⟩) (by assumption) ?_
                rotate_left
                · intro X hSw
                  go_simp
                  try with_reducible rfl
                rotate_left
                try simp only [Act.put, List.setIfInBounds_toArray, List.set_cons_zero, List.set_cons_succ, List.getElem_toArray, List.getElem_cons_zero, List.getElem_cons_succ]
                refine wpAnyH_take (i := 7) (v := ?_) rfl (by kernel_rfl) (by kernel_rfl) (by kernel_rfl) (fun _ _ _ h => h) (Or.inl ⟨by rfl, ?_⟩) (by assumption) ?_
                rotate_left
                · intro X hSw
                  have hd1 : X.cell? ⟨w.heap.size, 1, none⟩ = some (.slice (some ⟨b, off', none⟩) ws.length e0) := (HDW.out.below hSw).cell 1
                  have hc0 : X.cell? ⟨w3.heap.size, 0, none⟩ = some (.slice (some ⟨b1, o1, none⟩) kept.length cc) := (HCW.out.below hSw).cell 0
                  have hp0 := HP0.out X hSw
                  have hp1 := HP1.out X hSw
                  have hy1 := HY1.out X hSw
                  go_simp
                  try with_reducible rfl
                rotate_left
                try simp only [Act.put, List.setIfInBounds_toArray, List.set_cons_zero, List.set_cons_succ, List.getElem_toArray, List.getElem_cons_zero, List.getElem_cons_succ]
                refine wpAnyH_take (i := 8) (v := ?_) rfl (by kernel_rfl) (by kernel_rfl) (by kernel_rfl) (fun _ _ _ h => h) (Or.inl ⟨by rfl, ?_⟩) (by assumption) ?_
                rotate_left
                · intro X hSw
                  go_simp
                  try with_reducible rfl
                rotate_left
                try simp only [Act.put, List.setIfInBounds_toArray, List.set_cons_zero, List.set_cons_succ, List.getElem_toArray, List.getElem_cons_zero, List.getElem_cons_succ]
                refine wpAnyH_take (i := 9) (v := .bool true) rfl (by kernel_rfl) (by kernel_rfl) (by kernel_rfl) (fun _ _ _ h => h) (Or.inl ⟨by rfl, ?_⟩) (by assumption) ?_
                · intro X hSw
                  go_simp
                  try simp [hie]
                try simp only [Act.put, List.setIfInBounds_toArray, List.set_cons_zero, List.set_cons_succ, List.getElem_toArray, List.getElem_cons_zero, List.getElem_cons_succ]
                refine wpAnyH_take (i := 10) (v := ?_) rfl (by kernel_rfl) (by kernel_rfl) (by kernel_rfl) (fun _ _ _ h => h) (Or.inl ⟨by rfl, ?_⟩) (by assumption) ?_
                rotate_left
                · intro X hSw
                  go_simp
                  try with_reducible rfl
                rotate_left
                try simp only [Act.put, List.setIfInBounds_toArray, List.set_cons_zero, List.set_cons_succ, List.getElem_toArray, List.getElem_cons_zero, List.getElem_cons_succ]
                refine wpAnyH_take (i := 11) (v := ?_) rfl (by kernel_rfl) (by kernel_rfl) (by kernel_rfl) (fun _ _ _ h => h) (Or.inl ⟨by rfl, ?_⟩) (by assumption) ?_
                rotate_left
                · intro X hSw
                  go_simp
                  try with_reducible rfl
                rotate_left
                try simp only [Act.put, List.setIfInBounds_toArray, List.set_cons_zero, List.set_cons_succ, List.getElem_toArray, List.getElem_cons_zero, List.getElem_cons_succ]
                refine wpAnyH_take (i := 12) (v := ?_) rfl (by kernel_rfl) (by kernel_rfl) (by kernel_rfl) (fun _ _ _ h => h) (Or.inl ⟨by rfl, ?_⟩) (by assumption) ?_
                rotate_left
                · intro X hSw
                  have hd1 : X.cell? ⟨w.heap.size, 1, none⟩ = some (.slice (some ⟨b, off', none⟩) ws.length e0) := (HDW.out.below hSw).cell 1
                  have hc0 : X.cell? ⟨w3.heap.size, 0, none⟩ = some (.slice (some ⟨b1, o1, none⟩) kept.length cc) := (HCW.out.below hSw).cell 0
                  have hp0 := HP0.out X hSw
                  have hp1 := HP1.out X hSw
                  have hy1 := HY1.out X hSw
                  go_simp
                  try with_reducible rfl
                rotate_left
                try simp only [Act.put, List.setIfInBounds_toArray, List.set_cons_zero, List.set_cons_succ, List.getElem_toArray, List.getElem_cons_zero, List.getElem_cons_succ]
                refine wpAnyH_take (i := 13) (v := ?_) rfl (by kernel_rfl) (by kernel_rfl) (by kernel_rfl) (fun _ _ _ h => h) (Or.inl ⟨by rfl, ?_⟩) (by assumption) ?_
                rotate_left
                · intro X hSw
                  go_simp
                  try with_reducible rfl
                rotate_left
                try simp only [Act.put, List.setIfInBounds_toArray, List.set_cons_zero, List.set_cons_succ, List.getElem_toArray, List.getElem_cons_zero, List.getElem_cons_succ]
                refine wpAnyH_take (i := 14) (v := ?_) rfl (by kernel_rfl) (by kernel_rfl) (by kernel_rfl) (fun _ _ _ h => h) (Or.inl ⟨by rfl, ?_⟩) (by assumption) ?_
                rotate_left
                · intro X hSw
                  go_simp
                  try with_reducible rfl
                rotate_left
                try simp only [Act.put, List.setIfInBounds_toArray, List.set_cons_zero, List.set_cons_succ, List.getElem_toArray, List.getElem_cons_zero, List.getElem_cons_succ]
                refine wpAnyH_take (i := 15) (v := ?_) rfl (by kernel_rfl) (by kernel_rfl) (by kernel_rfl) (fun _ _ _ h => h) (Or.inl ⟨by rfl, ?_⟩) (by assumption) ?_
                rotate_left
                · intro X hSw
                  go_simp
                  try with_reducible rfl
                rotate_left
                try simp only [Act.put, List.setIfInBounds_toArray, List.set_cons_zero, List.set_cons_succ, List.getElem_toArray, List.getElem_cons_zero, List.getElem_cons_succ]
                refine wpAnyH_take (i := 16) (v := ?_) rfl (by kernel_rfl) (by kernel_rfl) (by kernel_rfl) (fun _ _ _ h => h) (Or.inl ⟨by rfl, ?_⟩) (by assumption) ?_
                rotate_left
                · intro X hSw
                  have hd1 : X.cell? ⟨w.heap.size, 1, none⟩ = some (.slice (some ⟨b, off', none⟩) ws.length e0) := (HDW.out.below hSw).cell 1
                  have hc0 : X.cell? ⟨w3.heap.size, 0, none⟩ = some (.slice (some ⟨b1, o1, none⟩) kept.length cc) := (HCW.out.below hSw).cell 0
                  have hp0 := HP0.out X hSw
                  have hp1 := HP1.out X hSw
                  have hy1 := HY1.out X hSw
                  go_simp
                  try with_reducible rfl
                rotate_left
                try simp only [Act.put, List.setIfInBounds_toArray, List.set_cons_zero, List.set_cons_succ, List.getElem_toArray, List.getElem_cons_zero, List.getElem_cons_succ]
                refine wpAnyH_take (i := 17) (v := ?_) rfl (by kernel_rfl) (by kernel_rfl) (by kernel_rfl) (fun _ _ _ h => h) (Or.inl ⟨by rfl, ?_⟩) (by assumption) ?_
                rotate_left
                · intro X hSw
                  go_simp
                  try with_reducible rfl
                rotate_left
                try simp only [Act.put, List.setIfInBounds_toArray, List.set_cons_zero, List.set_cons_succ, List.getElem_toArray, List.getElem_cons_zero, List.getElem_cons_succ]
                refine wpAnyH_take (i := 18) (v := ?_) rfl (by kernel_rfl) (by kernel_rfl) (by kernel_rfl) (fun _ _ _ h => h) (Or.inl ⟨by rfl, ?_⟩) (by assumption) ?_
                rotate_left
                · intro X hSw
                  have hd1 : X.cell? ⟨w.heap.size, 1, none⟩ = some (.slice (some ⟨b, off', none⟩) ws.length e0) := (HDW.out.below hSw).cell 1
                  have hc0 : X.cell? ⟨w3.heap.size, 0, none⟩ = some (.slice (some ⟨b1, o1, none⟩) kept.length cc) := (HCW.out.below hSw).cell 0
                  have hp0 := HP0.out X hSw
                  have hp1 := HP1.out X hSw
                  have hy1 := HY1.out X hSw
                  go_simp
                  try with_reducible rfl
                rotate_left
                try simp only [Act.put, List.setIfInBounds_toArray, List.set_cons_zero, List.set_cons_succ, List.getElem_toArray, List.getElem_cons_zero, List.getElem_cons_succ]
                refine wpAnyH_take (i := 19) (v := ?_) rfl (by kernel_rfl) (by kernel_rfl) (by kernel_rfl) (fun _ _ _ h => h) (Or.inl ⟨by rfl, ?_⟩) (by assumption) ?_
                rotate_left
                · intro X hSw
                  go_simp
                  try with_reducible rfl
                rotate_left
                try simp only [Act.put, List.setIfInBounds_toArray, List.set_cons_zero, List.set_cons_succ, List.getElem_toArray, List.getElem_cons_zero, List.getElem_cons_succ]
                refine wpAnyH_take (i := 20) (v := ?_) rfl (by kernel_rfl) (by kernel_rfl) (by kernel_rfl) (fun _ _ _ h => h) (Or.inl ⟨by rfl, ?_⟩) (by assumption) ?_
                rotate_left
                · intro X hSw
                  go_simp
                  try with_reducible rfl
                rotate_left
                try simp only [Act.put, List.setIfInBounds_toArray, List.set_cons_zero, List.set_cons_succ, List.getElem_toArray, List.getElem_cons_zero, List.getElem_cons_succ]
                refine wpAnyH_take (i := 21) (v := ?_) rfl (by kernel_rfl) (by kernel_rfl) (by kernel_rfl) (fun _ _ _ h => h) (Or.inl ⟨by rfl, ?_⟩) (by assumption) ?_
                rotate_left
                · intro X hSw
                  have hd1 : X.cell? ⟨w.heap.size, 1, none⟩ = some (.slice (some ⟨b, off', none⟩) ws.length e0) := (HDW.out.below hSw).cell 1
                  have hc0 : X.cell? ⟨w3.heap.size, 0, none⟩ = some (.slice (some ⟨b1, o1, none⟩) kept.length cc) := (HCW.out.below hSw).cell 0
                  have hp0 := HP0.out X hSw
                  have hp1 := HP1.out X hSw
                  have hy1 := HY1.out X hSw
                  go_simp
                  try with_reducible rfl
                rotate_left
                try simp only [Act.put, List.setIfInBounds_toArray, List.set_cons_zero, List.set_cons_succ, List.getElem_toArray, List.getElem_cons_zero, List.getElem_cons_succ]
                refine wpAnyH_take (i := 22) (v := .bool true) rfl (by kernel_rfl) (by kernel_rfl) (by kernel_rfl) (fun _ _ _ h => h) (Or.inl ⟨by rfl, ?_⟩) (by assumption) ?_
                · intro X hSw
                  go_simp
                  try simp [hse]
                try simp only [Act.put, List.setIfInBounds_toArray, List.set_cons_zero, List.set_cons_succ, List.getElem_toArray, List.getElem_cons_zero, List.getElem_cons_succ]
                refine wpAnyH_take (i := 23) (v := ?_) rfl (by kernel_rfl) (by kernel_rfl) (by kernel_rfl) (fun _ _ _ h => h) (Or.inl ⟨by rfl, ?_⟩) (by assumption) ?_
                rotate_left
                · intro X hSw
                  go_simp
                  try with_reducible rfl
                rotate_left
                try simp only [Act.put, List.setIfInBounds_toArray, List.set_cons_zero, List.set_cons_succ, List.getElem_toArray, List.getElem_cons_zero, List.getElem_cons_succ]
                refine wpAnyH_take (i := 24) (v := ?_) rfl (by kernel_rfl) (by kernel_rfl) (by kernel_rfl) (fun _ _ _ h => h) (Or.inl ⟨by rfl, ?_⟩) (by assumption) ?_
                rotate_left
                · intro X hSw
                  go_simp
                  try with_reducible rfl
                rotate_left
                try simp only [Act.put, List.setIfInBounds_toArray, List.set_cons_zero, List.set_cons_succ, List.getElem_toArray, List.getElem_cons_zero, List.getElem_cons_succ]
                refine wpAnyH_take (i := 25) (v := ?_) rfl (by kernel_rfl) (by kernel_rfl) (by kernel_rfl) (fun _ _ _ h => h) (Or.inl ⟨by rfl, ?_⟩) (by assumption) ?_
                rotate_left
                · intro X hSw
                  go_simp
                  try with_reducible rfl
                rotate_left
                try simp only [Act.put, List.setIfInBounds_toArray, List.set_cons_zero, List.set_cons_succ, List.getElem_toArray, List.getElem_cons_zero, List.getElem_cons_succ]
                refine wpAnyH_done (by kernel_rfl) ?_ _
                go_wp2_with fail
                go_roundw
                case rel => exact ⟨k + 1, true, by omega, by go_num, rfl, HNX.out, below_trans HBW.out hHeld HBW.out.size⟩
                case measure => simp [intOf]; omega
              · have HNX := Lib.hid (show (false = true ↔ x = y ∨ ∃ p ∈ ws.take (k + 1), p.1 = (q : Int) ∧ p.2 = x) from by
                  rw [HTK.out]
                  refine ⟨fun h => (by cases h), fun h => absurd ?_ hF⟩
                  rcases h with h | ⟨p, hp, h1, h2⟩
                  · exact .inl h
                  · rcases List.mem_append.1 hp with hp | hp
                    · exact .inr ⟨p, hp, h1, h2⟩
                    · simp at hp; subst hp; exact absurd h2 hse)
                clear hF
                refine wp_region_held_drew (S := fun V => Below wr.heap.size wr V) (by kernel_rfl) (below_dn (Below.refl _ _) 1) (fun hHeld => ?_)
                refine wpAnyH_take (i := 0) (v := ?_) rfl (by kernel_rfl) (by kernel_rfl) (by kernel_rfl) (fun _ _ _ h => h) (Or.inl ⟨by rfl, ?_⟩) (by assumption) ?_
                rotate_left
                · intro X hSw
                  go_simp
                  try with_reducible rfl
                rotate_left
                try simp only [Act.put, List.setIfInBounds_toArray, List.set_cons_zero, List.set_cons_succ, List.getElem_toArray, List.getElem_cons_zero, List.getElem_cons_succ]
                refine wpAnyH_take (i := 1) (v := ?_) rfl (by kernel_rfl) (by kernel_rfl) (by kernel_rfl) (fun _ _ _ h => h) (Or.inl ⟨by rfl, ?_⟩) (by assumption) ?_
                rotate_left
                · intro X hSw
                  go_simp
                  try with_reducible rfl
                rotate_left
                try simp only [Act.put, List.setIfInBounds_toArray, List.set_cons_zero, List.set_cons_succ, List.getElem_toArray, List.getElem_cons_zero, List.getElem_cons_succ]
                refine wpAnyH_take (i := 2) (v := ?_) rfl (by kernel_rfl) (by kernel_rfl) (by kernel_rfl) (fun _ _ _ h => h) (Or.inl ⟨by rfl, ?_⟩) (by assumption) ?_
                rotate_left
                · intro X hSw
                  go_simp
                  try with_reducible rfl
                rotate_left
                try simp only [Act.put, List.setIfInBounds_toArray, List.set_cons_zero, List.set_cons_succ, List.getElem_toArray, List.getElem_cons_zero, List.getElem_cons_succ]
                refine wpAnyH_take (i := 3) (v := ?_) rfl (by kernel_rfl) (by kernel_rfl) (by kernel_rfl) (fun _ _ _ h => h) (Or.inl ⟨by rfl, ?_⟩) (by assumption) ?_
                rotate_left
                · intro X hSw
                  have hd1 : X.cell? ⟨w.heap.size, 1, none⟩ = some (.slice (some ⟨b, off', none⟩) ws.length e0) := (HDW.out.below hSw).cell 1
                  have hc0 : X.cell? ⟨w3.heap.size, 0, none⟩ = some (.slice (some ⟨b1, o1, none⟩) kept.length cc) := (HCW.out.below hSw).cell 0
                  have hp0 := HP0.out X hSw
                  have hp1 := HP1.out X hSw
                  have hy1 := HY1.out X hSw
                  go_simp
                  try with_reducible rfl
                rotate_left
                try simp only [Act.put, List.setIfInBounds_toArray, List.set_cons_zero, List.set_cons_succ, List.getElem_toArray, List.getElem_cons_zero, List.getElem_cons_succ]
                refine wpAnyH_take (i := 4) (v := ?_) rfl (by kernel_rfl) (by kernel_rfl) (by kernel_rfl) (fun _ _ _ h => h) (Or.inl ⟨by rfl, ?_⟩) (by assumption) ?_
                rotate_left
                · intro X hSw
                  go_simp
                  try with_reducible rfl
                rotate_left
                try simp only [Act.put, List.setIfInBounds_toArray, List.set_cons_zero, List.set_cons_succ, List.getElem_toArray, List.getElem_cons_zero, List.getElem_cons_succ]
                refine wpAnyH_take (i := 5) (v := ?_) rfl (by kernel_rfl) (by kernel_rfl) (by kernel_rfl) (fun _ _ _ h => h) (Or.inl ⟨by rfl, ?_⟩) (by assumption) ?_
                rotate_left
                · intro X hSw
                  go_simp
                  try with_reducible rfl
                rotate_left
                try simp only [Act.put, List.setIfInBounds_toArray, List.set_cons_zero, List.set_cons_succ, List.getElem_toArray, List.getElem_cons_zero, List.getElem_cons_succ]
                refine wpAnyH_take (i := 6) (v := ?_) rfl (by kernel_rfl) (by kernel_rfl) (by kernel_rfl) (fun _ _ _ h => h) (Or.inl ⟨by rfl, ?_⟩) (by assumption) ?_
                rotate_left
                · intro X hSw
                  go_simp
                  try with_reducible rfl
                rotate_left
                try simp only [Act.put, List.setIfInBounds_toArray, List.set_cons_zero, List.set_cons_succ, List.getElem_toArray, List.getElem_cons_zero, List.getElem_cons_succ]
                refine wpAnyH_take (i := 7) (v := ?_) rfl (by kernel_rfl) (by kernel_rfl) (by kernel_rfl) (fun _ _ _ h => h) (Or.inl ⟨by rfl, ?_⟩) (by assumption) ?_
                rotate_left
                · intro X hSw
                  have hd1 : X.cell? ⟨w.heap.size, 1, none⟩ = some (.slice (some ⟨b, off', none⟩) ws.length e0) := (HDW.out.below hSw).cell 1
                  have hc0 : X.cell? ⟨w3.heap.size, 0, none⟩ = some (.slice (some ⟨b1, o1, none⟩) kept.length cc) := (HCW.out.below hSw).cell 0
                  have hp0 := HP0.out X hSw
                  have hp1 := HP1.out X hSw
                  have hy1 := HY1.out X hSw
                  go_simp
                  try with_reducible rfl
                rotate_left
                try simp only [Act.put, List.setIfInBounds_toArray, List.set_cons_zero, List.set_cons_succ, List.getElem_toArray, List.getElem_cons_zero, List.getElem_cons_succ]
                refine wpAnyH_take (i := 8) (v := ?_) rfl (by kernel_rfl) (by kernel_rfl) (by kernel_rfl) (fun _ _ _ h => h) (Or.inl ⟨by rfl, ?_⟩) (by assumption) ?_
                rotate_left
                · intro X hSw
                  go_simp
                  try with_reducible rfl
                rotate_left
                try simp only [Act.put, List.setIfInBounds_toArray, List.set_cons_zero, List.set_cons_succ, List.getElem_toArray, List.getElem_cons_zero, List.getElem_cons_succ]
                refine wpAnyH_take (i := 9) (v := .bool true) rfl (by kernel_rfl) (by kernel_rfl) (by kernel_rfl) (fun _ _ _ h => h) (Or.inl ⟨by rfl, ?_⟩) (by assumption) ?_
                · intro X hSw
                  go_simp
                  try simp [hie]
                try simp only [Act.put, List.setIfInBounds_toArray, List.set_cons_zero, List.set_cons_succ, List.getElem_toArray, List.getElem_cons_zero, List.getElem_cons_succ]
                refine wpAnyH_take (i := 10) (v := ?_) rfl (by kernel_rfl) (by kernel_rfl) (by kernel_rfl) (fun _ _ _ h => h) (Or.inl ⟨by rfl, ?_⟩) (by assumption) ?_
                rotate_left
                · intro X hSw
                  go_simp
                  try with_reducible rfl
                rotate_left
                try simp only [Act.put, List.setIfInBounds_toArray, List.set_cons_zero, List.set_cons_succ, List.getElem_toArray, List.getElem_cons_zero, List.getElem_cons_succ]
                refine wpAnyH_take (i := 11) (v := ?_) rfl (by kernel_rfl) (by kernel_rfl) (by kernel_rfl) (fun _ _ _ h => h) (Or.inl ⟨by rfl, ?_⟩) (by assumption) ?_
                rotate_left
                · intro X hSw
                  go_simp
                  try with_reducible rfl
                rotate_left
                try simp only [Act.put, List.setIfInBounds_toArray, List.set_cons_zero, List.set_cons_succ, List.getElem_toArray, List.getElem_cons_zero, List.getElem_cons_succ]
                refine wpAnyH_take (i := 12) (v := ?_) rfl (by kernel_rfl) (by kernel_rfl) (by kernel_rfl) (fun _ _ _ h => h) (Or.inl ⟨by rfl, ?_⟩) (by assumption) ?_
                rotate_left
                · intro X hSw
                  have hd1 : X.cell? ⟨w.heap.size, 1, none⟩ = some (.slice (some ⟨b, off', none⟩) ws.length e0) := (HDW.out.below hSw).cell 1
                  have hc0 : X.cell? ⟨w3.heap.size, 0, none⟩ = some (.slice (some ⟨b1, o1, none⟩) kept.length cc) := (HCW.out.below hSw).cell 0
                  have hp0 := HP0.out X hSw
                  have hp1 := HP1.out X hSw
                  have hy1 := HY1.out X hSw
                  go_simp
                  try with_reducible rfl
                rotate_left
                try simp only [Act.put, List.setIfInBounds_toArray, List.set_cons_zero, List.set_cons_succ, List.getElem_toArray, List.getElem_cons_zero, List.getElem_cons_succ]
                refine wpAnyH_take (i := 13) (v := ?_) rfl (by kernel_rfl) (by kernel_rfl) (by kernel_rfl) (fun _ _ _ h => h) (Or.inl ⟨by rfl, ?_⟩) (by assumption) ?_
                rotate_left
                · intro X hSw
                  go_simp
                  try with_reducible rfl
                rotate_left
                try simp only [Act.put, List.setIfInBounds_toArray, List.set_cons_zero, List.set_cons_succ, List.getElem_toArray, List.getElem_cons_zero, List.getElem_cons_succ]
                refine wpAnyH_take (i := 14) (v := ?_) rfl (by kernel_rfl) (by kernel_rfl) (by kernel_rfl) (fun _ _ _ h => h) (Or.inl ⟨by rfl, ?_⟩) (by assumption) ?_
                rotate_left
                · intro X hSw
                  go_simp
                  try with_reducible rfl
                rotate_left
                try simp only [Act.put, List.setIfInBounds_toArray, List.set_cons_zero, List.set_cons_succ, List.getElem_toArray, List.getElem_cons_zero, List.getElem_cons_succ]
                refine wpAnyH_take (i := 15) (v := ?_) rfl (by kernel_rfl) (by kernel_rfl) (by kernel_rfl) (fun _ _ _ h => h) (Or.inl ⟨by rfl, ?_⟩) (by assumption) ?_
                rotate_left
                · intro X hSw
                  go_simp
                  try with_reducible rfl
                rotate_left
                try simp only [Act.put, List.setIfInBounds_toArray, List.set_cons_zero, List.set_cons_succ, List.getElem_toArray, List.getElem_cons_zero, List.getElem_cons_succ]
                refine wpAnyH_take (i := 16) (v := ?_) rfl (by kernel_rfl) (by kernel_rfl) (by kernel_rfl) (fun _ _ _ h => h) (Or.inl ⟨by rfl, ?_⟩) (by assumption) ?_
                rotate_left
                · intro X hSw
                  have hd1 : X.cell? ⟨w.heap.size, 1, none⟩ = some (.slice (some ⟨b, off', none⟩) ws.length e0) := (HDW.out.below hSw).cell 1
                  have hc0 : X.cell? ⟨w3.heap.size, 0, none⟩ = some (.slice (some ⟨b1, o1, none⟩) kept.length cc) := (HCW.out.below hSw).cell 0
                  have hp0 := HP0.out X hSw
                  have hp1 := HP1.out X hSw
                  have hy1 := HY1.out X hSw
                  go_simp
                  try with_reducible rfl
                rotate_left
                try simp only [Act.put, List.setIfInBounds_toArray, List.set_cons_zero, List.set_cons_succ, List.getElem_toArray, List.getElem_cons_zero, List.getElem_cons_succ]
                refine wpAnyH_take (i := 17) (v := ?_) rfl (by kernel_rfl) (by kernel_rfl) (by kernel_rfl) (fun _ _ _ h => h) (Or.inl ⟨by rfl, ?_⟩) (by assumption) ?_
                rotate_left
                · intro X hSw
                  go_simp
                  try with_reducible rfl
                rotate_left
                try simp only [Act.put, List.setIfInBounds_toArray, List.set_cons_zero, List.set_cons_succ, List.getElem_toArray, List.getElem_cons_zero, List.getElem_cons_succ]
                refine wpAnyH_take (i := 18) (v := ?_) rfl (by kernel_rfl) (by kernel_rfl) (by kernel_rfl) (fun _ _ _ h => h) (Or.inl ⟨by rfl, ?_⟩) (by assumption) ?_
                rotate_left
                · intro X hSw
                  have hd1 : X.cell? ⟨w.heap.size, 1, none⟩ = some (.slice (some ⟨b, off', none⟩) ws.length e0) := (HDW.out.below hSw).cell 1
                  have hc0 : X.cell? ⟨w3.heap.size, 0, none⟩ = some (.slice (some ⟨b1, o1, none⟩) kept.length cc) := (HCW.out.below hSw).cell 0
                  have hp0 := HP0.out X hSw
                  have hp1 := HP1.out X hSw
                  have hy1 := HY1.out X hSw
                  go_simp
                  try with_reducible rfl
                rotate_left
                try simp only [Act.put, List.setIfInBounds_toArray, List.set_cons_zero, List.set_cons_succ, List.getElem_toArray, List.getElem_cons_zero, List.getElem_cons_succ]
                refine wpAnyH_take (i := 19) (v := ?_) rfl (by kernel_rfl) (by kernel_rfl) (by kernel_rfl) (fun _ _ _ h => h) (Or.inl ⟨by rfl, ?_⟩) (by assumption) ?_
                rotate_left
                · intro X hSw
                  go_simp
                  try with_reducible rfl
                rotate_left
                try simp only [Act.put, List.setIfInBounds_toArray, List.set_cons_zero, List.set_cons_succ, List.getElem_toArray, List.getElem_cons_zero, List.getElem_cons_succ]
                refine wpAnyH_take (i := 20) (v := ?_) rfl (by kernel_rfl) (by kernel_rfl) (by kernel_rfl) (fun _ _ _ h => h) (Or.inl ⟨by rfl, ?_⟩) (by assumption) ?_
                rotate_left
                · intro X hSw
                  go_simp
                  try with_reducible rfl
                rotate_left
                try simp only [Act.put, List.setIfInBounds_toArray, List.set_cons_zero, List.set_cons_succ, List.getElem_toArray, List.getElem_cons_zero, List.getElem_cons_succ]
                refine wpAnyH_take (i := 21) (v := ?_) rfl (by kernel_rfl) (by kernel_rfl) (by kernel_rfl) (fun _ _ _ h => h) (Or.inl ⟨by rfl, ?_⟩) (by assumption) ?_
                rotate_left
                · intro X hSw
                  have hd1 : X.cell? ⟨w.heap.size, 1, none⟩ = some (.slice (some ⟨b, off', none⟩) ws.length e0) := (HDW.out.below hSw).cell 1
                  have hc0 : X.cell? ⟨w3.heap.size, 0, none⟩ = some (.slice (some ⟨b1, o1, none⟩) kept.length cc) := (HCW.out.below hSw).cell 0
                  have hp0 := HP0.out X hSw
                  have hp1 := HP1.out X hSw
                  have hy1 := HY1.out X hSw
                  go_simp
                  try with_reducible rfl
                rotate_left
                try simp only [Act.put, List.setIfInBounds_toArray, List.set_cons_zero, List.set_cons_succ, List.getElem_toArray, List.getElem_cons_zero, List.getElem_cons_succ]
                refine wpAnyH_take (i := 22) (v := .bool false) rfl (by kernel_rfl) (by kernel_rfl) (by kernel_rfl) (fun _ _ _ h => h) (Or.inl ⟨by rfl, ?_⟩) (by assumption) ?_
                · intro X hSw
                  go_simp
                  try simp [hse]
                try simp only [Act.put, List.setIfInBounds_toArray, List.set_cons_zero, List.set_cons_succ, List.getElem_toArray, List.getElem_cons_zero, List.getElem_cons_succ]
                refine wpAnyH_take (i := 23) (v := ?_) rfl (by kernel_rfl) (by kernel_rfl) (by kernel_rfl) (fun _ _ _ h => h) (Or.inl ⟨by rfl, ?_⟩) (by assumption) ?_
                rotate_left
                · intro X hSw
                  go_simp
                  try with_reducible rfl
                rotate_left
                try simp only [Act.put, List.setIfInBounds_toArray, List.set_cons_zero, List.set_cons_succ, List.getElem_toArray, List.getElem_cons_zero, List.getElem_cons_succ]
                refine wpAnyH_take (i := 24) (v := ?_) rfl (by kernel_rfl) (by kernel_rfl) (by kernel_rfl) (fun _ _ _ h => h) (Or.inl ⟨by rfl, ?_⟩) (by assumption) ?_
                rotate_left
                · intro X hSw
                  go_simp
                  try with_reducible rfl
                rotate_left
                try simp only [Act.put, List.setIfInBounds_toArray, List.set_cons_zero, List.set_cons_succ, List.getElem_toArray, List.getElem_cons_zero, List.getElem_cons_succ]
                refine wpAnyH_take (i := 25) (v := ?_) rfl (by kernel_rfl) (by kernel_rfl) (by kernel_rfl) (fun _ _ _ h => h) (Or.inl ⟨by rfl, ?_⟩) (by assumption) ?_
                rotate_left
                · intro X hSw
                  go_simp
                  try with_reducible rfl
                rotate_left
                try simp only [Act.put, List.setIfInBounds_toArray, List.set_cons_zero, List.set_cons_succ, List.getElem_toArray, List.getElem_cons_zero, List.getElem_cons_succ]
                refine wpAnyH_done (by kernel_rfl) ?_ _
                go_wp2_with fail
                go_roundw
                case rel => exact ⟨k + 1, false, by omega, by go_num, rfl, HNX.out, below_trans HBW.out hHeld HBW.out.size⟩
                case measure => simp [intOf]; omega
            · have HNX := Lib.hid (show (false = true ↔ x = y ∨ ∃ p ∈ ws.take (k + 1), p.1 = (q : Int) ∧ p.2 = x) from by
                rw [HTK.out]
                refine ⟨fun h => (by cases h), fun h => absurd ?_ hF⟩
                rcases h with h | ⟨p, hp, h1, h2⟩
                · exact .inl h
                · rcases List.mem_append.1 hp with hp | hp
                  · exact .inr ⟨p, hp, h1, h2⟩
                  · simp at hp; subst hp; exact absurd h1 hie)
              clear hF
              refine wp_region_held_drew (S := fun V => Below wr.heap.size wr V) (by kernel_rfl) (below_dn (Below.refl _ _) 1) (fun hHeld => ?_)
              refine wpAnyH_take (i := 0) (v := ?_) rfl (by kernel_rfl) (by kernel_rfl) (by kernel_rfl) (fun _ _ _ h => h) (Or.inl ⟨by rfl, ?_⟩) (by assumption) ?_
              rotate_left
              · intro X hSw
                go_simp
                try with_reducible rfl
              rotate_left
              try simp only [Act.put, List.setIfInBounds_toArray, List.set_cons_zero, List.set_cons_succ, List.getElem_toArray, List.getElem_cons_zero, List.getElem_cons_succ]
              refine wpAnyH_take (i := 1) (v := ?_) rfl (by kernel_rfl) (by kernel_rfl) (by kernel_rfl) (fun _ _ _ h => h) (Or.inl ⟨by rfl, ?_⟩) (by assumption) ?_
              rotate_left
              · intro X hSw
                go_simp
                try with_reducible rfl
              rotate_left
              try simp only [Act.put, List.setIfInBounds_toArray, List.set_cons_zero, List.set_cons_succ, List.getElem_toArray, List.getElem_cons_zero, List.getElem_cons_succ]
              refine wpAnyH_take (i := 2) (v := ?_) rfl (by kernel_rfl) (by kernel_rfl) (by kernel_rfl) (fun _ _ _ h => h) (Or.inl ⟨by rfl, ?_⟩) (by assumption) ?_
              rotate_left
              · intro X hSw
                go_simp
                try with_reducible rfl
              rotate_left
              try simp only [Act.put, List.setIfInBounds_toArray, List.set_cons_zero, List.set_cons_succ, List.getElem_toArray, List.getElem_cons_zero, List.getElem_cons_succ]
              refine wpAnyH_take (i := 3) (v := ?_) rfl (by kernel_rfl) (by kernel_rfl) (by kernel_rfl) (fun _ _ _ h => h) (Or.inl ⟨by rfl, ?_⟩) (by assumption) ?_
              rotate_left
              · intro X hSw
                have hd1 : X.cell? ⟨w.heap.size, 1, none⟩ = some (.slice (some ⟨b, off', none⟩) ws.length e0) := (HDW.out.below hSw).cell 1
                have hc0 : X.cell? ⟨w3.heap.size, 0, none⟩ = some (.slice (some ⟨b1, o1, none⟩) kept.length cc) := (HCW.out.below hSw).cell 0
                have hp0 := HP0.out X hSw
                have hp1 := HP1.out X hSw
                have hy1 := HY1.out X hSw
                go_simp
                try with_reducible rfl
              rotate_left
              try simp only [Act.put, List.setIfInBounds_toArray, List.set_cons_zero, List.set_cons_succ, List.getElem_toArray, List.getElem_cons_zero, List.getElem_cons_succ]
              refine wpAnyH_take (i := 4) (v := ?_) rfl (by kernel_rfl) (by kernel_rfl) (by kernel_rfl) (fun _ _ _ h => h) (Or.inl ⟨by rfl, ?_⟩) (by assumption) ?_
              rotate_left
              · intro X hSw
                go_simp
                try with_reducible rfl
              rotate_left
              try simp only [Act.put, List.setIfInBounds_toArray, List.set_cons_zero, List.set_cons_succ, List.getElem_toArray, List.getElem_cons_zero, List.getElem_cons_succ]
              refine wpAnyH_take (i := 5) (v := ?_) rfl (by kernel_rfl) (by kernel_rfl) (by kernel_rfl) (fun _ _ _ h => h) (Or.inl ⟨by rfl, ?_⟩) (by assumption) ?_
              rotate_left
              · intro X hSw
                go_simp
                try with_reducible rfl
              rotate_left
              try simp only [Act.put, List.setIfInBounds_toArray, List.set_cons_zero, List.set_cons_succ, List.getElem_toArray, List.getElem_cons_zero, List.getElem_cons_succ]
              refine wpAnyH_take (i := 6) (v := ?_) rfl (by kernel_rfl) (by kernel_rfl) (by kernel_rfl) (fun _ _ _ h => h) (Or.inl ⟨by rfl, ?_⟩) (by assumption) ?_
              rotate_left
              · intro X hSw
                go_simp
                try with_reducible rfl
              rotate_left
              try simp only [Act.put, List.setIfInBounds_toArray, List.set_cons_zero, List.set_cons_succ, List.getElem_toArray, List.getElem_cons_zero, List.getElem_cons_succ]
              refine wpAnyH_take (i := 7) (v := ?_) rfl (by kernel_rfl) (by kernel_rfl) (by kernel_rfl) (fun _ _ _ h => h) (Or.inl ⟨by rfl, ?_⟩) (by assumption) ?_
              rotate_left
              · intro X hSw
                have hd1 : X.cell? ⟨w.heap.size, 1, none⟩ = some (.slice (some ⟨b, off', none⟩) ws.length e0) := (HDW.out.below hSw).cell 1
                have hc0 : X.cell? ⟨w3.heap.size, 0, none⟩ = some (.slice (some ⟨b1, o1, none⟩) kept.length cc) := (HCW.out.below hSw).cell 0
                have hp0 := HP0.out X hSw
                have hp1 := HP1.out X hSw
                have hy1 := HY1.out X hSw
                go_simp
                try with_reducible rfl
              rotate_left
              try simp only [Act.put, List.setIfInBounds_toArray, List.set_cons_zero, List.set_cons_succ, List.getElem_toArray, List.getElem_cons_zero, List.getElem_cons_succ]
              refine wpAnyH_take (i := 8) (v := ?_) rfl (by kernel_rfl) (by kernel_rfl) (by kernel_rfl) (fun _ _ _ h => h) (Or.inl ⟨by rfl, ?_⟩) (by assumption) ?_
              rotate_left
              · intro X hSw
                go_simp
                try with_reducible rfl
              rotate_left
              try simp only [Act.put, List.setIfInBounds_toArray, List.set_cons_zero, List.set_cons_succ, List.getElem_toArray, List.getElem_cons_zero, List.getElem_cons_succ]
              refine wpAnyH_take (i := 9) (v := .bool false) rfl (by kernel_rfl) (by kernel_rfl) (by kernel_rfl) (fun _ _ _ h => h) (Or.inl ⟨by rfl, ?_⟩) (by assumption) ?_
              · intro X hSw
                go_simp
                try simp [hie]
              try simp only [Act.put, List.setIfInBounds_toArray, List.set_cons_zero, List.set_cons_succ, List.getElem_toArray, List.getElem_cons_zero, List.getElem_cons_succ]
              refine wpAnyH_take (i := 10) (v := ?_) rfl (by kernel_rfl) (by kernel_rfl) (by kernel_rfl) (fun _ _ _ h => h) (Or.inl ⟨by rfl, ?_⟩) (by assumption) ?_
              rotate_left
              · intro X hSw
                go_simp
                try with_reducible rfl
              rotate_left
              try simp only [Act.put, List.setIfInBounds_toArray, List.set_cons_zero, List.set_cons_succ, List.getElem_toArray, List.getElem_cons_zero, List.getElem_cons_succ]
              refine wpAnyH_take (i := 11) (v := undef) rfl (by kernel_rfl) (by kernel_rfl) (by kernel_rfl) (fun _ _ _ h => h) (Or.inr ⟨by rfl, rfl⟩) (by assumption) ?_
              try simp only [Act.put, List.setIfInBounds_toArray, List.set_cons_zero, List.set_cons_succ, List.getElem_toArray, List.getElem_cons_zero, List.getElem_cons_succ]
              refine wpAnyH_take (i := 12) (v := undef) rfl (by kernel_rfl) (by kernel_rfl) (by kernel_rfl) (fun _ _ _ h => h) (Or.inr ⟨by rfl, rfl⟩) (by assumption) ?_
              try simp only [Act.put, List.setIfInBounds_toArray, List.set_cons_zero, List.set_cons_succ, List.getElem_toArray, List.getElem_cons_zero, List.getElem_cons_succ]
              refine wpAnyH_take (i := 13) (v := undef) rfl (by kernel_rfl) (by kernel_rfl) (by kernel_rfl) (fun _ _ _ h => h) (Or.inr ⟨by rfl, rfl⟩) (by assumption) ?_
              try simp only [Act.put, List.setIfInBounds_toArray, List.set_cons_zero, List.set_cons_succ, List.getElem_toArray, List.getElem_cons_zero, List.getElem_cons_succ]
              refine wpAnyH_take (i := 14) (v := undef) rfl (by kernel_rfl) (by kernel_rfl) (by kernel_rfl) (fun _ _ _ h => h) (Or.inr ⟨by rfl, rfl⟩) (by assumption) ?_
              try simp only [Act.put, List.setIfInBounds_toArray, List.set_cons_zero, List.set_cons_succ, List.getElem_toArray, List.getElem_cons_zero, List.getElem_cons_succ]
              refine wpAnyH_take (i := 15) (v := undef) rfl (by kernel_rfl) (by kernel_rfl) (by kernel_rfl) (fun _ _ _ h => h) (Or.inr ⟨by rfl, rfl⟩) (by assumption) ?_
              try simp only [Act.put, List.setIfInBounds_toArray, List.set_cons_zero, List.set_cons_succ, List.getElem_toArray, List.getElem_cons_zero, List.getElem_cons_succ]
              refine wpAnyH_take (i := 16) (v := undef) rfl (by kernel_rfl) (by kernel_rfl) (by kernel_rfl) (fun _ _ _ h => h) (Or.inr ⟨by rfl, rfl⟩) (by assumption) ?_
              try simp only [Act.put, List.setIfInBounds_toArray, List.set_cons_zero, List.set_cons_succ, List.getElem_toArray, List.getElem_cons_zero, List.getElem_cons_succ]
              refine wpAnyH_take (i := 17) (v := undef) rfl (by kernel_rfl) (by kernel_rfl) (by kernel_rfl) (fun _ _ _ h => h) (Or.inr ⟨by rfl, rfl⟩) (by assumption) ?_
              try simp only [Act.put, List.setIfInBounds_toArray, List.set_cons_zero, List.set_cons_succ, List.getElem_toArray, List.getElem_cons_zero, List.getElem_cons_succ]
              refine wpAnyH_take (i := 18) (v := undef) rfl (by kernel_rfl) (by kernel_rfl) (by kernel_rfl) (fun _ _ _ h => h) (Or.inr ⟨by rfl, rfl⟩) (by assumption) ?_
              try simp only [Act.put, List.setIfInBounds_toArray, List.set_cons_zero, List.set_cons_succ, List.getElem_toArray, List.getElem_cons_zero, List.getElem_cons_succ]
              refine wpAnyH_take (i := 19) (v := undef) rfl (by kernel_rfl) (by kernel_rfl) (by kernel_rfl) (fun _ _ _ h => h) (Or.inr ⟨by rfl, rfl⟩) (by assumption) ?_
              try simp only [Act.put, List.setIfInBounds_toArray, List.set_cons_zero, List.set_cons_succ, List.getElem_toArray, List.getElem_cons_zero, List.getElem_cons_succ]
              refine wpAnyH_take (i := 20) (v := undef) rfl (by kernel_rfl) (by kernel_rfl) (by kernel_rfl) (fun _ _ _ h => h) (Or.inr ⟨by rfl, rfl⟩) (by assumption) ?_
              try simp only [Act.put, List.setIfInBounds_toArray, List.set_cons_zero, List.set_cons_succ, List.getElem_toArray, List.getElem_cons_zero, List.getElem_cons_succ]
              refine wpAnyH_take (i := 21) (v := undef) rfl (by kernel_rfl) (by kernel_rfl) (by kernel_rfl) (fun _ _ _ h => h) (Or.inr ⟨by rfl, rfl⟩) (by assumption) ?_
              try simp only [Act.put, List.setIfInBounds_toArray, List.set_cons_zero, List.set_cons_succ, List.getElem_toArray, List.getElem_cons_zero, List.getElem_cons_succ]
              refine wpAnyH_take (i := 22) (v := undef) rfl (by kernel_rfl) (by kernel_rfl) (by kernel_rfl) (fun _ _ _ h => h) (Or.inr ⟨by rfl, rfl⟩) (by assumption) ?_
              try simp only [Act.put, List.setIfInBounds_toArray, List.set_cons_zero, List.set_cons_succ, List.getElem_toArray, List.getElem_cons_zero, List.getElem_cons_succ]
              refine wpAnyH_take (i := 23) (v := ?_) rfl (by kernel_rfl) (by kernel_rfl) (by kernel_rfl) (fun _ _ _ h => h) (Or.inl ⟨by rfl, ?_⟩) (by assumption) ?_
              rotate_left
              · intro X hSw
                go_simp
                try with_reducible rfl
              rotate_left
              try simp only [Act.put, List.setIfInBounds_toArray, List.set_cons_zero, List.set_cons_succ, List.getElem_toArray, List.getElem_cons_zero, List.getElem_cons_succ]
              refine wpAnyH_take (i := 24) (v := ?_) rfl (by kernel_rfl) (by kernel_rfl) (by kernel_rfl) (fun _ _ _ h => h) (Or.inl ⟨by rfl, ?_⟩) (by assumption) ?_
              rotate_left
              · intro X hSw
                go_simp
                try with_reducible rfl
              rotate_left
              try simp only [Act.put, List.setIfInBounds_toArray, List.set_cons_zero, List.set_cons_succ, List.getElem_toArray, List.getElem_cons_zero, List.getElem_cons_succ]
              refine wpAnyH_take (i := 25) (v := ?_) rfl (by kernel_rfl) (by kernel_rfl) (by kernel_rfl) (fun _ _ _ h => h) (Or.inl ⟨by rfl, ?_⟩) (by assumption) ?_
              rotate_left
              · intro X hSw
                go_simp
                try with_reducible rfl
              rotate_left
              try simp only [Act.put, List.setIfInBounds_toArray, List.set_cons_zero, List.set_cons_succ, List.getElem_toArray, List.getElem_cons_zero, List.getElem_cons_succ]
              refine wpAnyH_done (by kernel_rfl) ?_ _
              go_wp2_with fail
              go_roundw
              case rel => exact ⟨k + 1, false, by omega, by go_num, rfl, HNX.out, below_trans HBW.out hHeld HBW.out.size⟩
              case measure => simp [intOf]; omega
        · obtain rfl : k = ws.length := by omega
          have hT : bb = true := by
            rw [HBB.out, List.take_length]
            rcases HAT.out with h | ⟨p, hp, h1, h2⟩
            · exact .inl (by simpa using h)
            · exact .inr ⟨p, hp, h1, by simpa using h2.symm⟩
          subst hT
          go_wp2_with fail
          go_ret
          exact ⟨rfl, below_trans BW_v4.out HBW.out BW_v4.out.size⟩
    · have hin2 : at' < 0 ∨ 0 ≤ at' ∧ (kept.length : Int) ≤ at' := by omega
      clear hin
      have cd_0 : w2.cell? ⟨w.heap.size, 0, none⟩ = some (.slice A kept.length c) := Hd_2.out.cell 0
      have cd_1 : w2.cell? ⟨w.heap.size, 1, none⟩ = some (.slice B ws.length e0) := Hd_2.out.cell 1
      have cd_2 : w2.cell? ⟨w.heap.size, 2, none⟩ = some (.bool off) := Hd_2.out.cell 2
      rcases hin2 with q | ⟨q, q1⟩
      all_goals
        go_wp2_with fail
        go_ret
        exact ⟨rfl, BW_2.out⟩
theorem own : ownKnob Try.prog.godebug = none := by kernel_rfl
theorem laidOut : laidOutB Try.prog = true := by kernel_rfl
theorem cellscopyhold_api_Disk : Try.prog.cellsOf 25 = 3 := by kernel_rfl
theorem cells__string : Try.prog.cellsOf 22 = 1 := by kernel_rfl
theorem cells__api_Put : Try.prog.cellsOf 23 = 1 := by kernel_rfl
theorem cellsbool : Try.prog.cellsOf 4 = 1 := by kernel_rfl

set_option maxRecDepth 100000 in
set_option maxHeartbeats 1000000 in
theorem lifted (os : Os) (started : os.Started) (H : Type) (enc : TypeId × Value → H) :
    ReturnsInHanded {} Try.checked os 6 .any (Rows.diskSectorsSpec.pre6 enc Try.prog Try.f6 Rows.diskSectorsRow.domain false) (Rows.diskSectorsSpec.post enc Try.prog Try.f6 false true false false) := by
  refine returnsInHanded_of_change_sized (C := Try.checked) own started (by kernel_rfl) Try.func6
    (ChangeSpec.witness6 (enc := enc) (C := Try.checked) false ⟨#[], #[.agg #[.slice none 0 0, .slice none 0 0, .bool false], .slice none 0 0, .int .i64 0], []⟩ 8 (by kernel_rfl) (by kernel_rfl) (by kernel_rfl) (by kernel_rfl)) ?_
  intro W base args ds gs before hval0 hW hcnd hsz0 _
  have hsz : (DataW.weightsEach Try.prog (Try.f6.params.toList ++ []) (ds ++ gs)).all (· ≤ reachBytes) = true := hsz0
  clear hsz0
  have hval : ∀ (j : Nat) t v, Try.f6.params[j]? = some t → args[j]? = some v → Value.okWide Try.prog W .any base t v := hval0
  have hW' := hW
  have hlt := hW.lt
  obtain ⟨p, q, hA0, hV, rfl, hfz, hnd⟩ := hW
  have hA : DataW.TrodAll enc Try.prog W 0 (fun _ => true) true Try.f6.params.toList args.toList ds p := hA0
  rw [Try.params6] at hA hval
  obtain ⟨v0, vs0, d0, ds0, p0, q0, hargs, rfl, rfl, h0, r0⟩ := trodAll_cons hA
  obtain ⟨v1, vs1, d1, ds1, p1, q1, rfl, rfl, rfl, h1, r1⟩ := trodAll_cons r0
  obtain ⟨v2, vs2, d2, ds2, p2, q2, rfl, rfl, rfl, h2, r2⟩ := trodAll_cons r1
  obtain ⟨rfl, rfl, rfl⟩ := trodAll_nil r2
  obtain rfl : args = #[v0, v1, v2] := by cases args; simp_all
  obtain ⟨rfl, rfl⟩ := trodVars_none hV
  obtain ⟨cs0, rfl, hcz0⟩ := okWide_struct Try.underlying25 (hval 0 25 v0 rfl rfl)
  rw [cellscopyhold_api_Disk] at hcz0
  obtain ⟨c0_0, c0_1, c0_2, rfl⟩ := array3_of hcz0
  obtain ⟨fuel0, hf0⟩ := h0
  obtain ⟨xs0, m0, _, hx0, _, hlen0, hfl0⟩ := DataW.trod_struct Try.underlying25 hf0
  obtain ⟨y0_0, y0_1, y0_2, rfl⟩ := list3 hlen0
  have g0_0 : DataW.trod enc Try.prog W 0 (fun _ => true) true m0 22 [c0_0] = some y0_0 := by have h := hfl0 0 _ rfl; simpa [Value.cells, cells__string] using h
  have g0_1 : DataW.trod enc Try.prog W 0 (fun _ => true) true m0 23 [c0_1] = some y0_1 := by have h := hfl0 1 _ rfl; simpa [Value.cells, cells__api_Put] using h
  have g0_2 : DataW.trod enc Try.prog W 0 (fun _ => true) true m0 4 [c0_2] = some y0_2 := by have h := hfl0 2 _ rfl; simpa [Value.cells, cellsbool] using h
  simp only [Prod.mk.injEq] at hx0
  obtain ⟨rfl, hp0⟩ := hx0
  subst hp0
  have hw0_0 : ∀ n ∈ DataW.weights Try.prog 22 y0_0.1, n ≤ 140737488351232 := fun n hn => sized_deep hsz (by rw [Try.params6]; simp [DataW.weightsEach, DataW.weights, Try.underlying25, hn])
  obtain ⟨u0_0, a0_0, ev0_0, w0_0, e0_0⟩ := open_texts_at Try.underlying22 Try.underlying9 (by kernel_rfl) g0_0 (fun x hx => hlt x (by simp [hx]))
  obtain rfl : c0_0 = _ := by simpa using ev0_0
  have z0_0 := texts_sized Try.underlying22 (by kernel_rfl) e0_0 hw0_0
  have hw0_1 : ∀ n ∈ DataW.weights Try.prog 23 y0_1.1, n ≤ 140737488351232 := fun n hn => sized_deep hsz (by rw [Try.params6]; simp [DataW.weightsEach, DataW.weights, Try.underlying25, hn])
  obtain ⟨u0_1, a0_1, ev0_1, f0_1_0, f0_1_1, f0_1_2⟩ := open_puts g0_1 (fun x hx => hlt x (by simp [hx])) hw0_1
  obtain rfl : c0_1 = _ := by simpa using ev0_1
  obtain ⟨a0_2, ev0_2, ey0_2⟩ := DataW.trod_bool Try.underlying4 g0_2
  obtain rfl : c0_2 = _ := by simpa using ev0_2
  subst ey0_2
  have hw1 : ∀ n ∈ DataW.weights Try.prog 43 d1, n ≤ 140737488351232 := fun n hn => sized_deep hsz (by rw [Try.params6]; simp [DataW.weightsEach, hn])
  obtain ⟨A1, len1, cap1, rfl⟩ := okWide_slice Try.underlying43 (hval 1 43 v1 rfl rfl)
  obtain ⟨fuel1, hf1⟩ := h1
  obtain ⟨u1, a1, ev1, f1_0, f1_1⟩ := open_bools hf1 (fun x hx => hlt x (by simp [hx])) hw1
  obtain rfl : Value.slice A1 len1 cap1 = u1 := by have h : [Value.slice A1 len1 cap1] = [u1] := ev1; simpa using h
  obtain ⟨a2, rfl, rfl, rfl, w2⟩ := open_int Try.underlying3 (hval 2 3 v2 rfl rfl) h2
  refine (walk W c0_0 a0_0 w0_0 z0_0 c0_1 a0_1 f0_1_0 f0_1_1 f0_1_2 a0_2 _ a1 f1_0 f1_1 a2 w2).mono fun e W' ⟨he, hg⟩ => ?_
  subst he
  exact ⟨_, rfl, Copyhold.law_post laidOut (by kernel_rfl) (by kernel_rfl) Try.underlying4 rfl rfl rfl rfl hW' hg⟩

theorem over : Rows.diskSectorsRow.holds Try.pinned (OpenSpec.ofChange Rows.diskSectorsSpec) :=
  OpenClaim.holds_of_wide 6 Try.f6 rfl rfl rfl rfl rfl rfl rfl ⟨rfl, rfl, rfl, rfl, rfl⟩ rfl rfl rfl rfl rfl (by kernel_rfl) Try.func6 (by kernel_rfl)
    (of_decide_eq_true (by kernel_rfl)) (by unfold Func.isWrapper; first | (rw [if_pos (by decide +kernel)]; kernel_rfl) | (rw [if_neg (by decide +kernel)]; exact ⟨rfl, rfl⟩))
    (fun os started H enc _ => lifted os started H enc)

theorem proved : Rows.DiskSectorsSaid :=
  over
end Go.Proofs.Ytahnkkmngbckdaa.diskSectors
