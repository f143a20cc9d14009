/- copyholdref15.TakeRsp: the document's own answer; old memory is as it was. -/
import Derived.Test.YtpojhcpkmpbflaaRef15U
import Derived.Test.YtpojhcpkmpbflaaWireTk5
import Derived.Test.YtpojhcpkmpbflaaSet6
set_option linter.unusedVariables false
set_option linter.unusedSimpArgs false
namespace Go.Proofs.Ytpojhcpkmpbflaa
open Go.RowKit Copyhold

set_option maxRecDepth 100000 in
set_option maxHeartbeats 16000000 in
theorem ref15_TakeRsp (l : List UInt8) (w : World) (hl : l.length ≤ 2147483648) :
    Calls Try.prog 26 #[.string ⟨l.toArray⟩] w (RetRsp w (takeRsp l)) := by
  have HQ := Lib.hid (takeRsp_begun l)
  have hn := begunT_len 114 l
  have HN := Lib.hid (fun W => ref15_begun l 114 W (by omega))
  obtain ⟨q, hq⟩ : ∃ q, q = takeRsp l := ⟨_, rfl⟩
  rw [← hq] at HQ ⊢
  clear hq
  generalize begunT 114 l = x at *
  obtain ⟨s1, e1⟩ := x
  simp only at HN hn HQ
  have HQ1 := HQ
  have HN2 := Lib.hid (fun W => ref15_numbers s1 9 W (by omega) (by decide))
  unfold RetNums at HN2
  have hn2 := numsT_len 9 s1
  obtain ⟨w0, hW⟩ : ∃ W, W = w.alloc (.cells #[.int .i64 0, .int .i64 0, .int .i64 0, .int .i64 0, .int .i64 0, .int .i64 0, .int .i64 0, .int .i64 0, .int .i64 0, .string ⟨#[]⟩, .slice none 0 0] 31) := ⟨_, rfl⟩
  have hbn : Below w.heap.size w w0 := by rw [hW]; exact (Below.refl _ _).alloc (Nat.le_refl _) _
  have HM0 := Lib.hid (show TBox w0 w.heap.size 31 #[.int .i64 0, .int .i64 0, .int .i64 0, .int .i64 0, .int .i64 0, .int .i64 0, .int .i64 0, .int .i64 0, .int .i64 0, .string ⟨#[]⟩, .slice none 0 0] from by rw [hW]; exact TBox.new _ _ _)
  have BW0 := Lib.hid hbn
  have HW := Lib.hid hW
  clear hW hbn
  go_enter Try.func26, Try.ntmps26
  go_wp2_with fail
  rw [← HW.out]
  refine (HN.out w0).mono ?_
  rintro e w1 ⟨rfl, hb⟩
  have HM1 := Lib.hid (HM0.out.below hb)
  have BW1 := Lib.hid (below_trans BW0.out hb BW0.out.size)
  have hlt0 : w.heap.size < w0.heap.size := HM0.out.lt
  have hs01 := hb.size
  clear hb
  by_cases he : e1 = 0
  · subst he
    have HQ2 := Lib.hid (show q = endRsp s1 from by rw [HQ.out, if_neg (by simp)])
    unfold endRsp at HQ2
    generalize numsT 9 s1 = x at *
    obtain ⟨ns, s2, e2⟩ := x
    simp only at HN2 hn2 HQ2
    go_wp2_with fail
    refine (HN2.out w1).mono ?_
    rintro e w2 ⟨A, cp, rfl, ho, hb⟩
    have HM2 := Lib.hid (HM1.out.below hb)
    have BW2 := Lib.hid (below_trans BW1.out hb BW1.out.size)
    have HO2 := Lib.hid ho
    have hs12 := hb.size
    clear ho hb
    by_cases he : e2 = 0
    · subst he
      obtain ⟨q1, q2, q3, q4, q5, q6, q7, q8, q9, rfl⟩ := list9 (hn2.2.2.1 rfl)
      have HQ3 := Lib.hid (HQ2.out.trans (if_neg (by simp)))
      have HT3 := Lib.hid (fun W => ref_TakeText s2 4096 W (by omega) (by decide) (by decide))
      have hl3 := takeText_bd s2 4096
      generalize takeText s2 4096 = x at *
      obtain ⟨tx, s3, e3⟩ := x
      simp only [List.getD_cons_zero, List.getD_cons_succ] at HT3 hl3 HQ3
      go_wp2_with fail
      refine (HT3.out _).mono ?_
      rintro e w3 ⟨rfl, hb⟩
      have HM3 := Lib.hid (HM2.out.below hb)
      have BW3 := Lib.hid (below_trans BW2.out hb BW2.out.size)
      have hb23 := Lib.hid hb
      clear hb
      by_cases he : e3 = 0
      · subst he
        have HQ4 := Lib.hid (HQ3.out.trans (if_neg (by simp)))
        have HT4 := Lib.hid (fun W => ref_TakeList s3 256 32 W (by omega) (by decide) (by decide) (by decide) (by decide))
        generalize takeList s3 256 32 = x at *
        obtain ⟨ls, rest, e4⟩ := x
        unfold RetTexts at HT4
        simp only at HT4 HQ4
        go_wp2_with fail
        refine (HT4.out _).mono ?_
        rintro e w4 ⟨v4, rfl, ho, hb⟩
        obtain ⟨A2, cz, rfl, -, -⟩ := (Sl.of_owns ho).shape
        have HM4 := Lib.hid (HM3.out.below hb)
        have BW4 := Lib.hid (below_trans BW3.out hb BW3.out.size)
        have hb34 := Lib.hid hb
        have HN4 := Lib.hid ho
        clear ho hb
        by_cases he : e4 = 0
        · subst he
          cases rest with
          | nil =>
            have HE := Lib.hid (show q = (⟨q1, q2, q3, q4, q5, q6, q7, q8, q9, tx, ls⟩, 0) from by rw [HQ4.out]; simp)
            have ho4 := owns_below (owns_below HO2.out hb23.out) hb34.out
            obtain ⟨g', cap, hsl, hg1, hg2, hg3, hcg⟩ := owns_open ho4 (by simp)
            simp only [Value.slice.injEq] at hsl
            obtain ⟨rfl, -, rfl⟩ := hsl
            have HC := Lib.hid hcg
            have hgm : g' ≠ w.heap.size := by omega
            have hs4 := HM4.out.lt
            have hcm : w4.heap.size ≠ w.heap.size := by omega
            have hs3 := HM3.out.lt
            clear ho4 hcg
            go_wp2_with fail
            refine wp_region_held_drew (S := fun V => Below w4.heap.size w4 V) (by kernel_rfl) (below_dn (Below.refl _ _) 1) (fun hHeld => ?_)
            refine wpAnyH_take (i := 0) (v := ?_) rfl (by kernel_rfl) (by kernel_rfl) (by kernel_rfl) (fun _ _ _ h => h) (Or.inl ⟨by rfl, ?_⟩) (by assumption) ?_
            rotate_left
            · intro X hSw
              go_simp
              try with_reducible rfl
            rotate_left
            try simp only [Act.put, List.setIfInBounds_toArray, List.set_cons_zero, List.set_cons_succ, List.getElem_toArray, List.getElem_cons_zero, List.getElem_cons_succ]
            refine wpAnyH_take (i := 1) (v := ?_) rfl (by kernel_rfl) (by kernel_rfl) (by kernel_rfl) (fun _ _ _ h => h) (Or.inl ⟨by rfl, ?_⟩) (by assumption) ?_
            rotate_left
            · intro X hSw
              go_simp
              try with_reducible rfl
            rotate_left
            try simp only [Act.put, List.setIfInBounds_toArray, List.set_cons_zero, List.set_cons_succ, List.getElem_toArray, List.getElem_cons_zero, List.getElem_cons_succ]
            refine wpAnyH_take (i := 2) (v := ?_) rfl (by kernel_rfl) (by kernel_rfl) (by kernel_rfl) (fun _ _ _ h => h) (Or.inl ⟨by rfl, ?_⟩) (by assumption) ?_
            rotate_left
            · intro X hSw
              have hc : X.cell? ⟨g', 5, none⟩ = some (.int .i64 q6) := cell_keep hSw (HC.out 5 _ rfl)
              go_simp
              try with_reducible rfl
            rotate_left
            try simp only [Act.put, List.setIfInBounds_toArray, List.set_cons_zero, List.set_cons_succ, List.getElem_toArray, List.getElem_cons_zero, List.getElem_cons_succ]
            refine wpAnyH_take (i := 3) (v := ?_) rfl (by kernel_rfl) (by kernel_rfl) (by kernel_rfl) (fun _ _ _ h => h) (Or.inl ⟨by rfl, ?_⟩) (by assumption) ?_
            rotate_left
            · intro X hSw
              go_simp
              try with_reducible rfl
            rotate_left
            try simp only [Act.put, List.setIfInBounds_toArray, List.set_cons_zero, List.set_cons_succ, List.getElem_toArray, List.getElem_cons_zero, List.getElem_cons_succ]
            refine wpAnyH_take (i := 4) (v := ?_) rfl (by kernel_rfl) (by kernel_rfl) (by kernel_rfl) (fun _ _ _ h => h) (Or.inl ⟨by rfl, ?_⟩) (by assumption) ?_
            rotate_left
            · intro X hSw
              go_simp
              try with_reducible rfl
            rotate_left
            try simp only [Act.put, List.setIfInBounds_toArray, List.set_cons_zero, List.set_cons_succ, List.getElem_toArray, List.getElem_cons_zero, List.getElem_cons_succ]
            refine wpAnyH_take (i := 5) (v := ?_) rfl (by kernel_rfl) (by kernel_rfl) (by kernel_rfl) (fun _ _ _ h => h) (Or.inl ⟨by rfl, ?_⟩) (by assumption) ?_
            rotate_left
            · intro X hSw
              have hc : X.cell? ⟨g', 6, none⟩ = some (.int .i64 q7) := cell_keep hSw (HC.out 6 _ rfl)
              go_simp
              try with_reducible rfl
            rotate_left
            try simp only [Act.put, List.setIfInBounds_toArray, List.set_cons_zero, List.set_cons_succ, List.getElem_toArray, List.getElem_cons_zero, List.getElem_cons_succ]
            refine wpAnyH_take (i := 6) (v := ?_) rfl (by kernel_rfl) (by kernel_rfl) (by kernel_rfl) (fun _ _ _ h => h) (Or.inl ⟨by rfl, ?_⟩) (by assumption) ?_
            rotate_left
            · intro X hSw
              go_simp
              try with_reducible rfl
            rotate_left
            try simp only [Act.put, List.setIfInBounds_toArray, List.set_cons_zero, List.set_cons_succ, List.getElem_toArray, List.getElem_cons_zero, List.getElem_cons_succ]
            refine wpAnyH_take (i := 7) (v := ?_) rfl (by kernel_rfl) (by kernel_rfl) (by kernel_rfl) (fun _ _ _ h => h) (Or.inl ⟨by rfl, ?_⟩) (by assumption) ?_
            rotate_left
            · intro X hSw
              go_simp
              try with_reducible rfl
            rotate_left
            try simp only [Act.put, List.setIfInBounds_toArray, List.set_cons_zero, List.set_cons_succ, List.getElem_toArray, List.getElem_cons_zero, List.getElem_cons_succ]
            refine wpAnyH_take (i := 8) (v := ?_) rfl (by kernel_rfl) (by kernel_rfl) (by kernel_rfl) (fun _ _ _ h => h) (Or.inl ⟨by rfl, ?_⟩) (by assumption) ?_
            rotate_left
            · intro X hSw
              have hc : X.cell? ⟨g', 7, none⟩ = some (.int .i64 q8) := cell_keep hSw (HC.out 7 _ rfl)
              go_simp
              try with_reducible rfl
            rotate_left
            try simp only [Act.put, List.setIfInBounds_toArray, List.set_cons_zero, List.set_cons_succ, List.getElem_toArray, List.getElem_cons_zero, List.getElem_cons_succ]
            refine wpAnyH_take (i := 9) (v := ?_) rfl (by kernel_rfl) (by kernel_rfl) (by kernel_rfl) (fun _ _ _ h => h) (Or.inl ⟨by rfl, ?_⟩) (by assumption) ?_
            rotate_left
            · intro X hSw
              go_simp
              try with_reducible rfl
            rotate_left
            try simp only [Act.put, List.setIfInBounds_toArray, List.set_cons_zero, List.set_cons_succ, List.getElem_toArray, List.getElem_cons_zero, List.getElem_cons_succ]
            refine wpAnyH_take (i := 10) (v := ?_) rfl (by kernel_rfl) (by kernel_rfl) (by kernel_rfl) (fun _ _ _ h => h) (Or.inl ⟨by rfl, ?_⟩) (by assumption) ?_
            rotate_left
            · intro X hSw
              go_simp
              try with_reducible rfl
            rotate_left
            try simp only [Act.put, List.setIfInBounds_toArray, List.set_cons_zero, List.set_cons_succ, List.getElem_toArray, List.getElem_cons_zero, List.getElem_cons_succ]
            refine wpAnyH_take (i := 11) (v := ?_) rfl (by kernel_rfl) (by kernel_rfl) (by kernel_rfl) (fun _ _ _ h => h) (Or.inl ⟨by rfl, ?_⟩) (by assumption) ?_
            rotate_left
            · intro X hSw
              have hc : X.cell? ⟨g', 8, none⟩ = some (.int .i64 q9) := cell_keep hSw (HC.out 8 _ rfl)
              go_simp
              try with_reducible rfl
            rotate_left
            try simp only [Act.put, List.setIfInBounds_toArray, List.set_cons_zero, List.set_cons_succ, List.getElem_toArray, List.getElem_cons_zero, List.getElem_cons_succ]
            refine wpAnyH_take (i := 12) (v := ?_) rfl (by kernel_rfl) (by kernel_rfl) (by kernel_rfl) (fun _ _ _ h => h) (Or.inl ⟨by rfl, ?_⟩) (by assumption) ?_
            rotate_left
            · intro X hSw
              go_simp
              try with_reducible rfl
            rotate_left
            try simp only [Act.put, List.setIfInBounds_toArray, List.set_cons_zero, List.set_cons_succ, List.getElem_toArray, List.getElem_cons_zero, List.getElem_cons_succ]
            refine wpAnyH_take (i := 13) (v := ?_) rfl (by kernel_rfl) (by kernel_rfl) (by kernel_rfl) (fun _ _ _ h => h) (Or.inl ⟨by rfl, ?_⟩) (by assumption) ?_
            rotate_left
            · intro X hSw
              go_simp
              try with_reducible rfl
            rotate_left
            try simp only [Act.put, List.setIfInBounds_toArray, List.set_cons_zero, List.set_cons_succ, List.getElem_toArray, List.getElem_cons_zero, List.getElem_cons_succ]
            refine wpAnyH_take (i := 14) (v := ?_) rfl (by kernel_rfl) (by kernel_rfl) (by kernel_rfl) (fun _ _ _ h => h) (Or.inl ⟨by rfl, ?_⟩) (by assumption) ?_
            rotate_left
            · intro X hSw
              go_simp
              try with_reducible rfl
            rotate_left
            try simp only [Act.put, List.setIfInBounds_toArray, List.set_cons_zero, List.set_cons_succ, List.getElem_toArray, List.getElem_cons_zero, List.getElem_cons_succ]
            refine wpAnyH_ready (rs := [15]) (by kernel_rfl) (by simp) ?_
            refine (AllReadyH.cons rfl (fun K hK => ?_) AllReadyH.nil)
            rw [if_pos (by rfl)]
            go_wp2_with fail
            obtain ⟨va, hva⟩ : ∃ V, V = (w4.alloc (.cells #[.int .i64 0, .int .i64 0, .int .i64 0, .int .i64 0, .string ⟨#[]⟩, .slice none 0 0] 29)).drew := ⟨_, rfl⟩
            rw [← hva]
            have TA := Lib.hid (show TBox va w4.heap.size 29 #[.int .i64 0, .int .i64 0, .int .i64 0, .int .i64 0, .string ⟨#[]⟩, .slice none 0 0] from by rw [hva]; exact TBox.new _ _ _)
            have HBa := Lib.hid (show Below w4.heap.size w4 va from by rw [hva]; exact below_dn ((Below.refl _ _).alloc (Nat.le_refl _) _) 1)
            clear hva
            refine hK.out _ _ HBa.out (fun _ => ?_)
            clear hK K
            try simp only [Act.put, List.setIfInBounds_toArray, List.set_cons_zero, List.set_cons_succ, List.getElem_toArray, List.getElem_cons_zero, List.getElem_cons_succ]
            refine wpAnyH_ready (rs := [16]) (by kernel_rfl) (by simp) ?_
            refine (AllReadyH.cons rfl (fun K hK => ?_) AllReadyH.nil)
            rw [if_pos (by rfl)]
            have c0 : va.cell? ⟨w4.heap.size, 0, none⟩ = some (.int .i64 0) := TA.out.cell 0
            have g0 := TA.out.free 0
            have c1 : va.cell? ⟨w4.heap.size, 1, none⟩ = some (.int .i64 0) := TA.out.cell 1
            have g1 := TA.out.free 1
            have c2 : va.cell? ⟨w4.heap.size, 2, none⟩ = some (.int .i64 0) := TA.out.cell 2
            have g2 := TA.out.free 2
            have c3 : va.cell? ⟨w4.heap.size, 3, none⟩ = some (.int .i64 0) := TA.out.cell 3
            have g3 := TA.out.free 3
            have c4 : va.cell? ⟨w4.heap.size, 4, none⟩ = some (.string ⟨#[]⟩) := TA.out.cell 4
            have g4 := TA.out.free 4
            have c5 : va.cell? ⟨w4.heap.size, 5, none⟩ = some (.slice none 0 0) := TA.out.cell 5
            have g5 := TA.out.free 5
            go_wp2_with fail
            obtain ⟨vb, hvb⟩ : ∃ V, V = ((((((va.setCell ⟨w4.heap.size, 0, none⟩ (.int .i64 q6)).setCell ⟨w4.heap.size, 1, none⟩ (.int .i64 q7)).setCell ⟨w4.heap.size, 2, none⟩ (.int .i64 q8)).setCell ⟨w4.heap.size, 3, none⟩ (.int .i64 q9)).setCell ⟨w4.heap.size, 4, none⟩ (.string ⟨tx.toArray⟩)).setCell ⟨w4.heap.size, 5, none⟩ (.slice A2 ls.length cz)) := ⟨_, rfl⟩
            rw [← hvb]
            replace hvb : vb = set6 va w4.heap.size (.int .i64 q6) (.int .i64 q7) (.int .i64 q8) (.int .i64 q9) (.string ⟨tx.toArray⟩) (.slice A2 ls.length cz) := hvb
            have TP := Lib.hid (show TBox vb w4.heap.size 29 #[.int .i64 q6, .int .i64 q7, .int .i64 q8, .int .i64 q9, .string ⟨tx.toArray⟩, .slice A2 ls.length cz] from by rw [hvb]; exact set6_box TA.out (.int .i64 q6) (.int .i64 q7) (.int .i64 q8) (.int .i64 q9) (.string ⟨tx.toArray⟩) (.slice A2 ls.length cz))
            have HBb := Lib.hid (show Below w4.heap.size w4 vb from by rw [hvb]; exact set6_below HBa.out (Nat.le_refl _) (.int .i64 q6) (.int .i64 q7) (.int .i64 q8) (.int .i64 q9) (.string ⟨tx.toArray⟩) (.slice A2 ls.length cz))
            clear hvb c0 g0 c1 g1 c2 g2 c3 g3 c4 g4 c5 g5
            refine hK.out _ _ HBb.out (fun _ => ?_)
            clear hK K
            try simp only [Act.put, List.setIfInBounds_toArray, List.set_cons_zero, List.set_cons_succ, List.getElem_toArray, List.getElem_cons_zero, List.getElem_cons_succ]
            refine wpAnyH_done (by kernel_rfl) ?_ _
            have HC5 := Lib.hid (fun (i : Nat) x hx => cell_keep HBb.out (HC.out i x hx))
            have HM5 := Lib.hid (HM4.out.below HBb.out)
            have BW5 := Lib.hid (below_trans BW4.out HBb.out BW4.out.size)
            have HN5 := Lib.hid (owns_below HN4.out HBb.out)
            obtain ⟨w5, hw5⟩ : ∃ V, V = vb := ⟨_, rfl⟩
            rw [← hw5] at HC5 HM5 BW5 HN5 TP ⊢
            clear hw5
            go_wp2_with fail
            refine wp_region_held_drew (S := OpenW w5 w.heap.size) (by kernel_rfl) (OpenW.drew _ _) (fun hHeld => ?_)
            obtain ⟨wd, hWD⟩ : ∃ V, V = w5.drew := ⟨_, rfl⟩
            rw [← hWD] at hHeld ⊢
            have HMd := Lib.hid (show TBox wd w.heap.size 31 #[.int .i64 0, .int .i64 0, .int .i64 0, .int .i64 0, .int .i64 0, .int .i64 0, .int .i64 0, .int .i64 0, .int .i64 0, .string ⟨#[]⟩, .slice none 0 0] from by rw [hWD]; exact HM5.out)
            have BWd := Lib.hid (show Below w.heap.size w wd from by rw [hWD]; exact below_dn BW5.out 1)
            have HNd : wd.ownsRow w3.heap.size 9 1 (.slice A2 ls.length cz) ls.length (ls.map strV) := by rw [hWD]; exact HN5.out.drew
            clear hWD
            have HN6 := Lib.hid (show wd.ownsRow w3.heap.size 9 1 (.slice A2 ls.length cz) ls.length (ls.map strV) from HNd)
            refine wpAnyH_take (i := 0) (v := ?_) rfl (by kernel_rfl) (by kernel_rfl) (by kernel_rfl) (fun _ _ _ h => h) (Or.inl ⟨by rfl, ?_⟩) (by assumption) ?_
            rotate_left
            · intro X hSw
              go_simp
              try with_reducible rfl
            rotate_left
            try simp only [Act.put, List.setIfInBounds_toArray, List.set_cons_zero, List.set_cons_succ, List.getElem_toArray, List.getElem_cons_zero, List.getElem_cons_succ]
            refine wpAnyH_take (i := 1) (v := ?_) rfl (by kernel_rfl) (by kernel_rfl) (by kernel_rfl) (fun _ _ _ h => h) (Or.inl ⟨by rfl, ?_⟩) (by assumption) ?_
            rotate_left
            · intro X hSw
              go_simp
              try with_reducible rfl
            rotate_left
            try simp only [Act.put, List.setIfInBounds_toArray, List.set_cons_zero, List.set_cons_succ, List.getElem_toArray, List.getElem_cons_zero, List.getElem_cons_succ]
            refine wpAnyH_take (i := 2) (v := ?_) rfl (by kernel_rfl) (by kernel_rfl) (by kernel_rfl) (fun _ _ _ h => h) (Or.inl ⟨by rfl, ?_⟩) (by assumption) ?_
            rotate_left
            · intro X hSw
              have hc : X.cell? ⟨g', 0, none⟩ = some (.int .i64 q1) := hSw.cell (HC5.out 0 _ rfl) hgm
              go_simp
              try with_reducible rfl
            rotate_left
            try simp only [Act.put, List.setIfInBounds_toArray, List.set_cons_zero, List.set_cons_succ, List.getElem_toArray, List.getElem_cons_zero, List.getElem_cons_succ]
            refine wpAnyH_take (i := 3) (v := ?_) rfl (by kernel_rfl) (by kernel_rfl) (by kernel_rfl) (fun _ _ _ h => h) (Or.inl ⟨by rfl, ?_⟩) (by assumption) ?_
            rotate_left
            · intro X hSw
              go_simp
              try with_reducible rfl
            rotate_left
            try simp only [Act.put, List.setIfInBounds_toArray, List.set_cons_zero, List.set_cons_succ, List.getElem_toArray, List.getElem_cons_zero, List.getElem_cons_succ]
            refine wpAnyH_take (i := 4) (v := ?_) rfl (by kernel_rfl) (by kernel_rfl) (by kernel_rfl) (fun _ _ _ h => h) (Or.inl ⟨by rfl, ?_⟩) (by assumption) ?_
            rotate_left
            · intro X hSw
              go_simp
              try with_reducible rfl
            rotate_left
            try simp only [Act.put, List.setIfInBounds_toArray, List.set_cons_zero, List.set_cons_succ, List.getElem_toArray, List.getElem_cons_zero, List.getElem_cons_succ]
            refine wpAnyH_take (i := 5) (v := ?_) rfl (by kernel_rfl) (by kernel_rfl) (by kernel_rfl) (fun _ _ _ h => h) (Or.inl ⟨by rfl, ?_⟩) (by assumption) ?_
            rotate_left
            · intro X hSw
              have hc : X.cell? ⟨g', 1, none⟩ = some (.int .i64 q2) := hSw.cell (HC5.out 1 _ rfl) hgm
              go_simp
              try with_reducible rfl
            rotate_left
            try simp only [Act.put, List.setIfInBounds_toArray, List.set_cons_zero, List.set_cons_succ, List.getElem_toArray, List.getElem_cons_zero, List.getElem_cons_succ]
            refine wpAnyH_take (i := 6) (v := ?_) rfl (by kernel_rfl) (by kernel_rfl) (by kernel_rfl) (fun _ _ _ h => h) (Or.inl ⟨by rfl, ?_⟩) (by assumption) ?_
            rotate_left
            · intro X hSw
              go_simp
              try with_reducible rfl
            rotate_left
            try simp only [Act.put, List.setIfInBounds_toArray, List.set_cons_zero, List.set_cons_succ, List.getElem_toArray, List.getElem_cons_zero, List.getElem_cons_succ]
            refine wpAnyH_take (i := 7) (v := ?_) rfl (by kernel_rfl) (by kernel_rfl) (by kernel_rfl) (fun _ _ _ h => h) (Or.inl ⟨by rfl, ?_⟩) (by assumption) ?_
            rotate_left
            · intro X hSw
              go_simp
              try with_reducible rfl
            rotate_left
            try simp only [Act.put, List.setIfInBounds_toArray, List.set_cons_zero, List.set_cons_succ, List.getElem_toArray, List.getElem_cons_zero, List.getElem_cons_succ]
            refine wpAnyH_take (i := 8) (v := ?_) rfl (by kernel_rfl) (by kernel_rfl) (by kernel_rfl) (fun _ _ _ h => h) (Or.inl ⟨by rfl, ?_⟩) (by assumption) ?_
            rotate_left
            · intro X hSw
              have hc : X.cell? ⟨g', 2, none⟩ = some (.int .i64 q3) := hSw.cell (HC5.out 2 _ rfl) hgm
              go_simp
              try with_reducible rfl
            rotate_left
            try simp only [Act.put, List.setIfInBounds_toArray, List.set_cons_zero, List.set_cons_succ, List.getElem_toArray, List.getElem_cons_zero, List.getElem_cons_succ]
            refine wpAnyH_take (i := 9) (v := ?_) rfl (by kernel_rfl) (by kernel_rfl) (by kernel_rfl) (fun _ _ _ h => h) (Or.inl ⟨by rfl, ?_⟩) (by assumption) ?_
            rotate_left
            · intro X hSw
              go_simp
              try with_reducible rfl
            rotate_left
            try simp only [Act.put, List.setIfInBounds_toArray, List.set_cons_zero, List.set_cons_succ, List.getElem_toArray, List.getElem_cons_zero, List.getElem_cons_succ]
            refine wpAnyH_take (i := 10) (v := ?_) rfl (by kernel_rfl) (by kernel_rfl) (by kernel_rfl) (fun _ _ _ h => h) (Or.inl ⟨by rfl, ?_⟩) (by assumption) ?_
            rotate_left
            · intro X hSw
              go_simp
              try with_reducible rfl
            rotate_left
            try simp only [Act.put, List.setIfInBounds_toArray, List.set_cons_zero, List.set_cons_succ, List.getElem_toArray, List.getElem_cons_zero, List.getElem_cons_succ]
            refine wpAnyH_take (i := 11) (v := ?_) rfl (by kernel_rfl) (by kernel_rfl) (by kernel_rfl) (fun _ _ _ h => h) (Or.inl ⟨by rfl, ?_⟩) (by assumption) ?_
            rotate_left
            · intro X hSw
              have hc : X.cell? ⟨g', 3, none⟩ = some (.int .i64 q4) := hSw.cell (HC5.out 3 _ rfl) hgm
              go_simp
              try with_reducible rfl
            rotate_left
            try simp only [Act.put, List.setIfInBounds_toArray, List.set_cons_zero, List.set_cons_succ, List.getElem_toArray, List.getElem_cons_zero, List.getElem_cons_succ]
            refine wpAnyH_take (i := 12) (v := ?_) rfl (by kernel_rfl) (by kernel_rfl) (by kernel_rfl) (fun _ _ _ h => h) (Or.inl ⟨by rfl, ?_⟩) (by assumption) ?_
            rotate_left
            · intro X hSw
              go_simp
              try with_reducible rfl
            rotate_left
            try simp only [Act.put, List.setIfInBounds_toArray, List.set_cons_zero, List.set_cons_succ, List.getElem_toArray, List.getElem_cons_zero, List.getElem_cons_succ]
            refine wpAnyH_take (i := 13) (v := ?_) rfl (by kernel_rfl) (by kernel_rfl) (by kernel_rfl) (fun _ _ _ h => h) (Or.inl ⟨by rfl, ?_⟩) (by assumption) ?_
            rotate_left
            · intro X hSw
              go_simp
              try with_reducible rfl
            rotate_left
            try simp only [Act.put, List.setIfInBounds_toArray, List.set_cons_zero, List.set_cons_succ, List.getElem_toArray, List.getElem_cons_zero, List.getElem_cons_succ]
            refine wpAnyH_take (i := 14) (v := ?_) rfl (by kernel_rfl) (by kernel_rfl) (by kernel_rfl) (fun _ _ _ h => h) (Or.inl ⟨by rfl, ?_⟩) (by assumption) ?_
            rotate_left
            · intro X hSw
              have hc : X.cell? ⟨g', 4, none⟩ = some (.int .i64 q5) := hSw.cell (HC5.out 4 _ rfl) hgm
              go_simp
              try with_reducible rfl
            rotate_left
            try simp only [Act.put, List.setIfInBounds_toArray, List.set_cons_zero, List.set_cons_succ, List.getElem_toArray, List.getElem_cons_zero, List.getElem_cons_succ]
            refine wpAnyH_take (i := 15) (v := ?_) rfl (by kernel_rfl) (by kernel_rfl) (by kernel_rfl) (fun _ _ _ h => h) (Or.inl ⟨by rfl, ?_⟩) (by assumption) ?_
            rotate_left
            · intro X hSw
              have hc0 : X.cell? ⟨w4.heap.size, 0, none⟩ = some (.int .i64 q6) := hSw.cell (TP.out.cell 0) hcm
              have hc1 : X.cell? ⟨w4.heap.size, 1, none⟩ = some (.int .i64 q7) := hSw.cell (TP.out.cell 1) hcm
              have hc2 : X.cell? ⟨w4.heap.size, 2, none⟩ = some (.int .i64 q8) := hSw.cell (TP.out.cell 2) hcm
              have hc3 : X.cell? ⟨w4.heap.size, 3, none⟩ = some (.int .i64 q9) := hSw.cell (TP.out.cell 3) hcm
              have hc4 : X.cell? ⟨w4.heap.size, 4, none⟩ = some (.string ⟨tx.toArray⟩) := hSw.cell (TP.out.cell 4) hcm
              have hc5 : X.cell? ⟨w4.heap.size, 5, none⟩ = some (.slice A2 ls.length cz) := hSw.cell (TP.out.cell 5) hcm
              go_simp
              try with_reducible rfl
            rotate_left
            try simp only [Act.put, List.setIfInBounds_toArray, List.set_cons_zero, List.set_cons_succ, List.getElem_toArray, List.getElem_cons_zero, List.getElem_cons_succ]
            refine wpAnyH_take (i := 16) (v := ?_) rfl (by kernel_rfl) (by kernel_rfl) (by kernel_rfl) (fun _ _ _ h => h) (Or.inl ⟨by rfl, ?_⟩) (by assumption) ?_
            rotate_left
            · intro X hSw
              go_simp
              try with_reducible rfl
            rotate_left
            try simp only [Act.put, List.setIfInBounds_toArray, List.set_cons_zero, List.set_cons_succ, List.getElem_toArray, List.getElem_cons_zero, List.getElem_cons_succ]
            refine wpAnyH_ready (rs := [17]) (by kernel_rfl) (by simp) ?_
            refine (AllReadyH.cons rfl (fun K hK => ?_) AllReadyH.nil)
            rw [if_pos (by rfl)]
            have c0 : wd.cell? ⟨w.heap.size, 0, none⟩ = some (.int .i64 0) := HMd.out.cell 0
            have g0 := HMd.out.free 0
            have c1 : wd.cell? ⟨w.heap.size, 1, none⟩ = some (.int .i64 0) := HMd.out.cell 1
            have g1 := HMd.out.free 1
            have c2 : wd.cell? ⟨w.heap.size, 2, none⟩ = some (.int .i64 0) := HMd.out.cell 2
            have g2 := HMd.out.free 2
            have c3 : wd.cell? ⟨w.heap.size, 3, none⟩ = some (.int .i64 0) := HMd.out.cell 3
            have g3 := HMd.out.free 3
            have c4 : wd.cell? ⟨w.heap.size, 4, none⟩ = some (.int .i64 0) := HMd.out.cell 4
            have g4 := HMd.out.free 4
            have c5 : wd.cell? ⟨w.heap.size, 5, none⟩ = some (.int .i64 0) := HMd.out.cell 5
            have g5 := HMd.out.free 5
            have c6 : wd.cell? ⟨w.heap.size, 6, none⟩ = some (.int .i64 0) := HMd.out.cell 6
            have g6 := HMd.out.free 6
            have c7 : wd.cell? ⟨w.heap.size, 7, none⟩ = some (.int .i64 0) := HMd.out.cell 7
            have g7 := HMd.out.free 7
            have c8 : wd.cell? ⟨w.heap.size, 8, none⟩ = some (.int .i64 0) := HMd.out.cell 8
            have g8 := HMd.out.free 8
            have c9 : wd.cell? ⟨w.heap.size, 9, none⟩ = some (.string ⟨#[]⟩) := HMd.out.cell 9
            have g9 := HMd.out.free 9
            have c10 : wd.cell? ⟨w.heap.size, 10, none⟩ = some (.slice none 0 0) := HMd.out.cell 10
            have g10 := HMd.out.free 10
            go_wp2_with fail
            obtain ⟨V9, hV⟩ : ∃ V, V = (((((((((((wd.setCell ⟨w.heap.size, 0, none⟩ (.int .i64 q1)).setCell ⟨w.heap.size, 1, none⟩ (.int .i64 q2)).setCell ⟨w.heap.size, 2, none⟩ (.int .i64 q3)).setCell ⟨w.heap.size, 3, none⟩ (.int .i64 q4)).setCell ⟨w.heap.size, 4, none⟩ (.int .i64 q5)).setCell ⟨w.heap.size, 5, none⟩ (.int .i64 q6)).setCell ⟨w.heap.size, 6, none⟩ (.int .i64 q7)).setCell ⟨w.heap.size, 7, none⟩ (.int .i64 q8)).setCell ⟨w.heap.size, 8, none⟩ (.int .i64 q9)).setCell ⟨w.heap.size, 9, none⟩ (.string ⟨tx.toArray⟩)).setCell ⟨w.heap.size, 10, none⟩ (.slice A2 ls.length cz)) := ⟨_, rfl⟩
            rw [← hV]
            replace hV : V9 = set11 wd w.heap.size (.int .i64 q1) (.int .i64 q2) (.int .i64 q3) (.int .i64 q4) (.int .i64 q5) (.int .i64 q6) (.int .i64 q7) (.int .i64 q8) (.int .i64 q9) (.string ⟨tx.toArray⟩) (.slice A2 ls.length cz) := hV
            have HVV := Lib.hid hV
            have hop : OpenW w5 w.heap.size V9 := by rw [hV]; exact OpenW.put11 hHeld _ _ _ _ _ _ _ _ _ _ _
            clear hV
            clear c0 g0 c1 g1 c2 g2 c3 g3 c4 g4 c5 g5 c6 g6 c7 g7 c8 g8 c9 g9 c10 g10
            refine hK.out _ _ hop (fun _ => ?_)
            clear hK K
            try simp only [Act.put, List.setIfInBounds_toArray, List.set_cons_zero, List.set_cons_succ, List.getElem_toArray, List.getElem_cons_zero, List.getElem_cons_succ]
            refine wpAnyH_take (i := 18) (v := ?_) rfl (by kernel_rfl) (by kernel_rfl) (by kernel_rfl) (fun _ _ _ h => h) (Or.inl ⟨by rfl, ?_⟩) (by assumption) ?_
            rotate_left
            · intro X hSw
              go_simp
              try with_reducible rfl
            rotate_left
            try simp only [Act.put, List.setIfInBounds_toArray, List.set_cons_zero, List.set_cons_succ, List.getElem_toArray, List.getElem_cons_zero, List.getElem_cons_succ]
            refine wpAnyH_done (by kernel_rfl) ?_ _
            have hV := HVV.out
            have tz : TBox V9 w.heap.size 31 #[.int .i64 q1, .int .i64 q2, .int .i64 q3, .int .i64 q4, .int .i64 q5, .int .i64 q6, .int .i64 q7, .int .i64 q8, .int .i64 q9, .string ⟨tx.toArray⟩, .slice A2 ls.length cz] := by rw [hV]; exact set11_box HMd.out (.int .i64 q1) (.int .i64 q2) (.int .i64 q3) (.int .i64 q4) (.int .i64 q5) (.int .i64 q6) (.int .i64 q7) (.int .i64 q8) (.int .i64 q9) (.string ⟨tx.toArray⟩) (.slice A2 ls.length cz)
            have hz : Below w.heap.size w V9 := by rw [hV]; exact set11_below BWd.out (Nat.le_refl _) (.int .i64 q1) (.int .i64 q2) (.int .i64 q3) (.int .i64 q4) (.int .i64 q5) (.int .i64 q6) (.int .i64 q7) (.int .i64 q8) (.int .i64 q9) (.string ⟨tx.toArray⟩) (.slice A2 ls.length cz)
            have qq0 : V9.cell? ⟨w.heap.size, 0, none⟩ = some (.int .i64 q1) := tz.cell 0
            have qq1 : V9.cell? ⟨w.heap.size, 1, none⟩ = some (.int .i64 q2) := tz.cell 1
            have qq2 : V9.cell? ⟨w.heap.size, 2, none⟩ = some (.int .i64 q3) := tz.cell 2
            have qq3 : V9.cell? ⟨w.heap.size, 3, none⟩ = some (.int .i64 q4) := tz.cell 3
            have qq4 : V9.cell? ⟨w.heap.size, 4, none⟩ = some (.int .i64 q5) := tz.cell 4
            have qq5 : V9.cell? ⟨w.heap.size, 5, none⟩ = some (.int .i64 q6) := tz.cell 5
            have qq6 : V9.cell? ⟨w.heap.size, 6, none⟩ = some (.int .i64 q7) := tz.cell 6
            have qq7 : V9.cell? ⟨w.heap.size, 7, none⟩ = some (.int .i64 q8) := tz.cell 7
            have qq8 : V9.cell? ⟨w.heap.size, 8, none⟩ = some (.int .i64 q9) := tz.cell 8
            have qq9 : V9.cell? ⟨w.heap.size, 9, none⟩ = some (.string ⟨tx.toArray⟩) := tz.cell 9
            have qq10 : V9.cell? ⟨w.heap.size, 10, none⟩ = some (.slice A2 ls.length cz) := tz.cell 10
            have ho9 : V9.ownsRow w.heap.size 9 1 (.slice A2 ls.length cz) ls.length (ls.map strV) := by rw [hV]; exact owns_base (set11_owns HN6.out hs3 (.int .i64 q1) (.int .i64 q2) (.int .i64 q3) (.int .i64 q4) (.int .i64 q5) (.int .i64 q6) (.int .i64 q7) (.int .i64 q8) (.int .i64 q9) (.string ⟨tx.toArray⟩) (.slice A2 ls.length cz)) (Nat.le_of_lt hs3)
            clear hV
            go_wp2_with fail
            refine bodyPost_ret (v := .tuple #[.agg #[.int .i64 q1, .int .i64 q2, .int .i64 q3, .int .i64 q4, .int .i64 q5, .int .i64 q6, .int .i64 q7, .int .i64 q8, .int .i64 q9, .string ⟨tx.toArray⟩, .slice A2 ls.length cz], .int .i64 0]) (by simp [results, Try.results26, go_sem, qq0, qq1, qq2, qq3, qq4, qq5, qq6, qq7, qq8, qq9, qq10]) rfl ⟨A2, cz, by rw [HE.out]; rfl, by rw [HE.out]; exact ho9, hz⟩
          | cons x0 rest' =>
            have HE := Lib.hid (show q = (rsp0, 3) from by rw [HQ4.out]; simp)
            generalize hss : x0 :: rest' = rest at *
            have hsne : (rest == []) = false := by rw [← hss]; rfl
            have hsl : rest.length ≠ 0 := by rw [← hss]; simp
            clear hss
            have c0 : w4.cell? ⟨w.heap.size, 0, none⟩ = some (.int .i64 0) := HM4.out.cell 0
            have g0 := HM4.out.free 0
            have c1 : w4.cell? ⟨w.heap.size, 1, none⟩ = some (.int .i64 0) := HM4.out.cell 1
            have g1 := HM4.out.free 1
            have c2 : w4.cell? ⟨w.heap.size, 2, none⟩ = some (.int .i64 0) := HM4.out.cell 2
            have g2 := HM4.out.free 2
            have c3 : w4.cell? ⟨w.heap.size, 3, none⟩ = some (.int .i64 0) := HM4.out.cell 3
            have g3 := HM4.out.free 3
            have c4 : w4.cell? ⟨w.heap.size, 4, none⟩ = some (.int .i64 0) := HM4.out.cell 4
            have g4 := HM4.out.free 4
            have c5 : w4.cell? ⟨w.heap.size, 5, none⟩ = some (.int .i64 0) := HM4.out.cell 5
            have g5 := HM4.out.free 5
            have c6 : w4.cell? ⟨w.heap.size, 6, none⟩ = some (.int .i64 0) := HM4.out.cell 6
            have g6 := HM4.out.free 6
            have c7 : w4.cell? ⟨w.heap.size, 7, none⟩ = some (.int .i64 0) := HM4.out.cell 7
            have g7 := HM4.out.free 7
            have c8 : w4.cell? ⟨w.heap.size, 8, none⟩ = some (.int .i64 0) := HM4.out.cell 8
            have g8 := HM4.out.free 8
            have c9 : w4.cell? ⟨w.heap.size, 9, none⟩ = some (.string ⟨#[]⟩) := HM4.out.cell 9
            have g9 := HM4.out.free 9
            have c10 : w4.cell? ⟨w.heap.size, 10, none⟩ = some (.slice none 0 0) := HM4.out.cell 10
            have g10 := HM4.out.free 10
            go_wp2_with fail
            obtain ⟨V9, hV⟩ : ∃ V, V = (((((((((((w4.setCell ⟨w.heap.size, 0, none⟩ (.int .i64 0)).setCell ⟨w.heap.size, 1, none⟩ (.int .i64 0)).setCell ⟨w.heap.size, 2, none⟩ (.int .i64 0)).setCell ⟨w.heap.size, 3, none⟩ (.int .i64 0)).setCell ⟨w.heap.size, 4, none⟩ (.int .i64 0)).setCell ⟨w.heap.size, 5, none⟩ (.int .i64 0)).setCell ⟨w.heap.size, 6, none⟩ (.int .i64 0)).setCell ⟨w.heap.size, 7, none⟩ (.int .i64 0)).setCell ⟨w.heap.size, 8, none⟩ (.int .i64 0)).setCell ⟨w.heap.size, 9, none⟩ (.string ⟨#[]⟩)).setCell ⟨w.heap.size, 10, none⟩ (.slice none 0 0)) := ⟨_, rfl⟩
            rw [← hV]
            replace hV : V9 = set11 w4 w.heap.size (.int .i64 0) (.int .i64 0) (.int .i64 0) (.int .i64 0) (.int .i64 0) (.int .i64 0) (.int .i64 0) (.int .i64 0) (.int .i64 0) (.string ⟨#[]⟩) (.slice none 0 0) := hV
            have tz : TBox V9 w.heap.size 31 #[.int .i64 0, .int .i64 0, .int .i64 0, .int .i64 0, .int .i64 0, .int .i64 0, .int .i64 0, .int .i64 0, .int .i64 0, .string ⟨#[]⟩, .slice none 0 0] := by rw [hV]; exact set11_box HM4.out (.int .i64 0) (.int .i64 0) (.int .i64 0) (.int .i64 0) (.int .i64 0) (.int .i64 0) (.int .i64 0) (.int .i64 0) (.int .i64 0) (.string ⟨#[]⟩) (.slice none 0 0)
            have hz : Below w.heap.size w V9 := by rw [hV]; exact set11_below BW4.out (Nat.le_refl _) (.int .i64 0) (.int .i64 0) (.int .i64 0) (.int .i64 0) (.int .i64 0) (.int .i64 0) (.int .i64 0) (.int .i64 0) (.int .i64 0) (.string ⟨#[]⟩) (.slice none 0 0)
            have q0 : V9.cell? ⟨w.heap.size, 0, none⟩ = some (.int .i64 0) := tz.cell 0
            have q1 : V9.cell? ⟨w.heap.size, 1, none⟩ = some (.int .i64 0) := tz.cell 1
            have q2 : V9.cell? ⟨w.heap.size, 2, none⟩ = some (.int .i64 0) := tz.cell 2
            have q3 : V9.cell? ⟨w.heap.size, 3, none⟩ = some (.int .i64 0) := tz.cell 3
            have q4 : V9.cell? ⟨w.heap.size, 4, none⟩ = some (.int .i64 0) := tz.cell 4
            have q5 : V9.cell? ⟨w.heap.size, 5, none⟩ = some (.int .i64 0) := tz.cell 5
            have q6 : V9.cell? ⟨w.heap.size, 6, none⟩ = some (.int .i64 0) := tz.cell 6
            have q7 : V9.cell? ⟨w.heap.size, 7, none⟩ = some (.int .i64 0) := tz.cell 7
            have q8 : V9.cell? ⟨w.heap.size, 8, none⟩ = some (.int .i64 0) := tz.cell 8
            have q9 : V9.cell? ⟨w.heap.size, 9, none⟩ = some (.string ⟨#[]⟩) := tz.cell 9
            have q10 : V9.cell? ⟨w.heap.size, 10, none⟩ = some (.slice none 0 0) := tz.cell 10
            clear hV
            clear c0 g0 c1 g1 c2 g2 c3 g3 c4 g4 c5 g5 c6 g6 c7 g7 c8 g8 c9 g9 c10 g10
            refine bodyPost_ret (v := .tuple #[.agg #[.int .i64 0, .int .i64 0, .int .i64 0, .int .i64 0, .int .i64 0, .int .i64 0, .int .i64 0, .int .i64 0, .int .i64 0, .string ⟨#[]⟩, .slice none 0 0], .int .i64 3]) (by simp [results, Try.results26, go_sem, q0, q1, q2, q3, q4, q5, q6, q7, q8, q9, q10]) rfl ⟨none, 0, by rw [HE.out]; rfl, by rw [HE.out]; exact World.ownsRow_nil _ _ _ _, hz⟩
        · have HE := Lib.hid (show q = (rsp0, e4) from by rw [HQ4.out]; simp [he])
          have hne : (e4 == 0) = false := by simpa using he
          have hne2 : (e4 != 0) = true := by simpa using he
          have c0 : w4.cell? ⟨w.heap.size, 0, none⟩ = some (.int .i64 0) := HM4.out.cell 0
          have g0 := HM4.out.free 0
          have c1 : w4.cell? ⟨w.heap.size, 1, none⟩ = some (.int .i64 0) := HM4.out.cell 1
          have g1 := HM4.out.free 1
          have c2 : w4.cell? ⟨w.heap.size, 2, none⟩ = some (.int .i64 0) := HM4.out.cell 2
          have g2 := HM4.out.free 2
          have c3 : w4.cell? ⟨w.heap.size, 3, none⟩ = some (.int .i64 0) := HM4.out.cell 3
          have g3 := HM4.out.free 3
          have c4 : w4.cell? ⟨w.heap.size, 4, none⟩ = some (.int .i64 0) := HM4.out.cell 4
          have g4 := HM4.out.free 4
          have c5 : w4.cell? ⟨w.heap.size, 5, none⟩ = some (.int .i64 0) := HM4.out.cell 5
          have g5 := HM4.out.free 5
          have c6 : w4.cell? ⟨w.heap.size, 6, none⟩ = some (.int .i64 0) := HM4.out.cell 6
          have g6 := HM4.out.free 6
          have c7 : w4.cell? ⟨w.heap.size, 7, none⟩ = some (.int .i64 0) := HM4.out.cell 7
          have g7 := HM4.out.free 7
          have c8 : w4.cell? ⟨w.heap.size, 8, none⟩ = some (.int .i64 0) := HM4.out.cell 8
          have g8 := HM4.out.free 8
          have c9 : w4.cell? ⟨w.heap.size, 9, none⟩ = some (.string ⟨#[]⟩) := HM4.out.cell 9
          have g9 := HM4.out.free 9
          have c10 : w4.cell? ⟨w.heap.size, 10, none⟩ = some (.slice none 0 0) := HM4.out.cell 10
          have g10 := HM4.out.free 10
          go_wp2_with fail
          obtain ⟨V9, hV⟩ : ∃ V, V = (((((((((((w4.setCell ⟨w.heap.size, 0, none⟩ (.int .i64 0)).setCell ⟨w.heap.size, 1, none⟩ (.int .i64 0)).setCell ⟨w.heap.size, 2, none⟩ (.int .i64 0)).setCell ⟨w.heap.size, 3, none⟩ (.int .i64 0)).setCell ⟨w.heap.size, 4, none⟩ (.int .i64 0)).setCell ⟨w.heap.size, 5, none⟩ (.int .i64 0)).setCell ⟨w.heap.size, 6, none⟩ (.int .i64 0)).setCell ⟨w.heap.size, 7, none⟩ (.int .i64 0)).setCell ⟨w.heap.size, 8, none⟩ (.int .i64 0)).setCell ⟨w.heap.size, 9, none⟩ (.string ⟨#[]⟩)).setCell ⟨w.heap.size, 10, none⟩ (.slice none 0 0)) := ⟨_, rfl⟩
          rw [← hV]
          replace hV : V9 = set11 w4 w.heap.size (.int .i64 0) (.int .i64 0) (.int .i64 0) (.int .i64 0) (.int .i64 0) (.int .i64 0) (.int .i64 0) (.int .i64 0) (.int .i64 0) (.string ⟨#[]⟩) (.slice none 0 0) := hV
          have tz : TBox V9 w.heap.size 31 #[.int .i64 0, .int .i64 0, .int .i64 0, .int .i64 0, .int .i64 0, .int .i64 0, .int .i64 0, .int .i64 0, .int .i64 0, .string ⟨#[]⟩, .slice none 0 0] := by rw [hV]; exact set11_box HM4.out (.int .i64 0) (.int .i64 0) (.int .i64 0) (.int .i64 0) (.int .i64 0) (.int .i64 0) (.int .i64 0) (.int .i64 0) (.int .i64 0) (.string ⟨#[]⟩) (.slice none 0 0)
          have hz : Below w.heap.size w V9 := by rw [hV]; exact set11_below BW4.out (Nat.le_refl _) (.int .i64 0) (.int .i64 0) (.int .i64 0) (.int .i64 0) (.int .i64 0) (.int .i64 0) (.int .i64 0) (.int .i64 0) (.int .i64 0) (.string ⟨#[]⟩) (.slice none 0 0)
          have q0 : V9.cell? ⟨w.heap.size, 0, none⟩ = some (.int .i64 0) := tz.cell 0
          have q1 : V9.cell? ⟨w.heap.size, 1, none⟩ = some (.int .i64 0) := tz.cell 1
          have q2 : V9.cell? ⟨w.heap.size, 2, none⟩ = some (.int .i64 0) := tz.cell 2
          have q3 : V9.cell? ⟨w.heap.size, 3, none⟩ = some (.int .i64 0) := tz.cell 3
          have q4 : V9.cell? ⟨w.heap.size, 4, none⟩ = some (.int .i64 0) := tz.cell 4
          have q5 : V9.cell? ⟨w.heap.size, 5, none⟩ = some (.int .i64 0) := tz.cell 5
          have q6 : V9.cell? ⟨w.heap.size, 6, none⟩ = some (.int .i64 0) := tz.cell 6
          have q7 : V9.cell? ⟨w.heap.size, 7, none⟩ = some (.int .i64 0) := tz.cell 7
          have q8 : V9.cell? ⟨w.heap.size, 8, none⟩ = some (.int .i64 0) := tz.cell 8
          have q9 : V9.cell? ⟨w.heap.size, 9, none⟩ = some (.string ⟨#[]⟩) := tz.cell 9
          have q10 : V9.cell? ⟨w.heap.size, 10, none⟩ = some (.slice none 0 0) := tz.cell 10
          clear hV
          clear c0 g0 c1 g1 c2 g2 c3 g3 c4 g4 c5 g5 c6 g6 c7 g7 c8 g8 c9 g9 c10 g10
          refine bodyPost_ret (v := .tuple #[.agg #[.int .i64 0, .int .i64 0, .int .i64 0, .int .i64 0, .int .i64 0, .int .i64 0, .int .i64 0, .int .i64 0, .int .i64 0, .string ⟨#[]⟩, .slice none 0 0], .int .i64 e4]) (by simp [results, Try.results26, go_sem, q0, q1, q2, q3, q4, q5, q6, q7, q8, q9, q10]) rfl ⟨none, 0, by rw [HE.out]; rfl, by rw [HE.out]; exact World.ownsRow_nil _ _ _ _, hz⟩
      · have HE := Lib.hid (show q = (rsp0, e3) from by rw [HQ3.out, if_pos he])
        have hne : (e3 == 0) = false := by simpa using he
        have hne2 : (e3 != 0) = true := by simpa using he
        have c0 : w3.cell? ⟨w.heap.size, 0, none⟩ = some (.int .i64 0) := HM3.out.cell 0
        have g0 := HM3.out.free 0
        have c1 : w3.cell? ⟨w.heap.size, 1, none⟩ = some (.int .i64 0) := HM3.out.cell 1
        have g1 := HM3.out.free 1
        have c2 : w3.cell? ⟨w.heap.size, 2, none⟩ = some (.int .i64 0) := HM3.out.cell 2
        have g2 := HM3.out.free 2
        have c3 : w3.cell? ⟨w.heap.size, 3, none⟩ = some (.int .i64 0) := HM3.out.cell 3
        have g3 := HM3.out.free 3
        have c4 : w3.cell? ⟨w.heap.size, 4, none⟩ = some (.int .i64 0) := HM3.out.cell 4
        have g4 := HM3.out.free 4
        have c5 : w3.cell? ⟨w.heap.size, 5, none⟩ = some (.int .i64 0) := HM3.out.cell 5
        have g5 := HM3.out.free 5
        have c6 : w3.cell? ⟨w.heap.size, 6, none⟩ = some (.int .i64 0) := HM3.out.cell 6
        have g6 := HM3.out.free 6
        have c7 : w3.cell? ⟨w.heap.size, 7, none⟩ = some (.int .i64 0) := HM3.out.cell 7
        have g7 := HM3.out.free 7
        have c8 : w3.cell? ⟨w.heap.size, 8, none⟩ = some (.int .i64 0) := HM3.out.cell 8
        have g8 := HM3.out.free 8
        have c9 : w3.cell? ⟨w.heap.size, 9, none⟩ = some (.string ⟨#[]⟩) := HM3.out.cell 9
        have g9 := HM3.out.free 9
        have c10 : w3.cell? ⟨w.heap.size, 10, none⟩ = some (.slice none 0 0) := HM3.out.cell 10
        have g10 := HM3.out.free 10
        go_wp2_with fail
        obtain ⟨V9, hV⟩ : ∃ V, V = (((((((((((w3.setCell ⟨w.heap.size, 0, none⟩ (.int .i64 0)).setCell ⟨w.heap.size, 1, none⟩ (.int .i64 0)).setCell ⟨w.heap.size, 2, none⟩ (.int .i64 0)).setCell ⟨w.heap.size, 3, none⟩ (.int .i64 0)).setCell ⟨w.heap.size, 4, none⟩ (.int .i64 0)).setCell ⟨w.heap.size, 5, none⟩ (.int .i64 0)).setCell ⟨w.heap.size, 6, none⟩ (.int .i64 0)).setCell ⟨w.heap.size, 7, none⟩ (.int .i64 0)).setCell ⟨w.heap.size, 8, none⟩ (.int .i64 0)).setCell ⟨w.heap.size, 9, none⟩ (.string ⟨#[]⟩)).setCell ⟨w.heap.size, 10, none⟩ (.slice none 0 0)) := ⟨_, rfl⟩
        rw [← hV]
        replace hV : V9 = set11 w3 w.heap.size (.int .i64 0) (.int .i64 0) (.int .i64 0) (.int .i64 0) (.int .i64 0) (.int .i64 0) (.int .i64 0) (.int .i64 0) (.int .i64 0) (.string ⟨#[]⟩) (.slice none 0 0) := hV
        have tz : TBox V9 w.heap.size 31 #[.int .i64 0, .int .i64 0, .int .i64 0, .int .i64 0, .int .i64 0, .int .i64 0, .int .i64 0, .int .i64 0, .int .i64 0, .string ⟨#[]⟩, .slice none 0 0] := by rw [hV]; exact set11_box HM3.out (.int .i64 0) (.int .i64 0) (.int .i64 0) (.int .i64 0) (.int .i64 0) (.int .i64 0) (.int .i64 0) (.int .i64 0) (.int .i64 0) (.string ⟨#[]⟩) (.slice none 0 0)
        have hz : Below w.heap.size w V9 := by rw [hV]; exact set11_below BW3.out (Nat.le_refl _) (.int .i64 0) (.int .i64 0) (.int .i64 0) (.int .i64 0) (.int .i64 0) (.int .i64 0) (.int .i64 0) (.int .i64 0) (.int .i64 0) (.string ⟨#[]⟩) (.slice none 0 0)
        have q0 : V9.cell? ⟨w.heap.size, 0, none⟩ = some (.int .i64 0) := tz.cell 0
        have q1 : V9.cell? ⟨w.heap.size, 1, none⟩ = some (.int .i64 0) := tz.cell 1
        have q2 : V9.cell? ⟨w.heap.size, 2, none⟩ = some (.int .i64 0) := tz.cell 2
        have q3 : V9.cell? ⟨w.heap.size, 3, none⟩ = some (.int .i64 0) := tz.cell 3
        have q4 : V9.cell? ⟨w.heap.size, 4, none⟩ = some (.int .i64 0) := tz.cell 4
        have q5 : V9.cell? ⟨w.heap.size, 5, none⟩ = some (.int .i64 0) := tz.cell 5
        have q6 : V9.cell? ⟨w.heap.size, 6, none⟩ = some (.int .i64 0) := tz.cell 6
        have q7 : V9.cell? ⟨w.heap.size, 7, none⟩ = some (.int .i64 0) := tz.cell 7
        have q8 : V9.cell? ⟨w.heap.size, 8, none⟩ = some (.int .i64 0) := tz.cell 8
        have q9 : V9.cell? ⟨w.heap.size, 9, none⟩ = some (.string ⟨#[]⟩) := tz.cell 9
        have q10 : V9.cell? ⟨w.heap.size, 10, none⟩ = some (.slice none 0 0) := tz.cell 10
        clear hV
        clear c0 g0 c1 g1 c2 g2 c3 g3 c4 g4 c5 g5 c6 g6 c7 g7 c8 g8 c9 g9 c10 g10
        refine bodyPost_ret (v := .tuple #[.agg #[.int .i64 0, .int .i64 0, .int .i64 0, .int .i64 0, .int .i64 0, .int .i64 0, .int .i64 0, .int .i64 0, .int .i64 0, .string ⟨#[]⟩, .slice none 0 0], .int .i64 e3]) (by simp [results, Try.results26, go_sem, q0, q1, q2, q3, q4, q5, q6, q7, q8, q9, q10]) rfl ⟨none, 0, by rw [HE.out]; rfl, by rw [HE.out]; exact World.ownsRow_nil _ _ _ _, hz⟩
    · have HE := Lib.hid (show q = (rsp0, e2) from by rw [HQ2.out, if_pos he])
      have hne : (e2 == 0) = false := by simpa using he
      have hne2 : (e2 != 0) = true := by simpa using he
      have c0 : w2.cell? ⟨w.heap.size, 0, none⟩ = some (.int .i64 0) := HM2.out.cell 0
      have g0 := HM2.out.free 0
      have c1 : w2.cell? ⟨w.heap.size, 1, none⟩ = some (.int .i64 0) := HM2.out.cell 1
      have g1 := HM2.out.free 1
      have c2 : w2.cell? ⟨w.heap.size, 2, none⟩ = some (.int .i64 0) := HM2.out.cell 2
      have g2 := HM2.out.free 2
      have c3 : w2.cell? ⟨w.heap.size, 3, none⟩ = some (.int .i64 0) := HM2.out.cell 3
      have g3 := HM2.out.free 3
      have c4 : w2.cell? ⟨w.heap.size, 4, none⟩ = some (.int .i64 0) := HM2.out.cell 4
      have g4 := HM2.out.free 4
      have c5 : w2.cell? ⟨w.heap.size, 5, none⟩ = some (.int .i64 0) := HM2.out.cell 5
      have g5 := HM2.out.free 5
      have c6 : w2.cell? ⟨w.heap.size, 6, none⟩ = some (.int .i64 0) := HM2.out.cell 6
      have g6 := HM2.out.free 6
      have c7 : w2.cell? ⟨w.heap.size, 7, none⟩ = some (.int .i64 0) := HM2.out.cell 7
      have g7 := HM2.out.free 7
      have c8 : w2.cell? ⟨w.heap.size, 8, none⟩ = some (.int .i64 0) := HM2.out.cell 8
      have g8 := HM2.out.free 8
      have c9 : w2.cell? ⟨w.heap.size, 9, none⟩ = some (.string ⟨#[]⟩) := HM2.out.cell 9
      have g9 := HM2.out.free 9
      have c10 : w2.cell? ⟨w.heap.size, 10, none⟩ = some (.slice none 0 0) := HM2.out.cell 10
      have g10 := HM2.out.free 10
      go_wp2_with fail
      obtain ⟨V9, hV⟩ : ∃ V, V = (((((((((((w2.setCell ⟨w.heap.size, 0, none⟩ (.int .i64 0)).setCell ⟨w.heap.size, 1, none⟩ (.int .i64 0)).setCell ⟨w.heap.size, 2, none⟩ (.int .i64 0)).setCell ⟨w.heap.size, 3, none⟩ (.int .i64 0)).setCell ⟨w.heap.size, 4, none⟩ (.int .i64 0)).setCell ⟨w.heap.size, 5, none⟩ (.int .i64 0)).setCell ⟨w.heap.size, 6, none⟩ (.int .i64 0)).setCell ⟨w.heap.size, 7, none⟩ (.int .i64 0)).setCell ⟨w.heap.size, 8, none⟩ (.int .i64 0)).setCell ⟨w.heap.size, 9, none⟩ (.string ⟨#[]⟩)).setCell ⟨w.heap.size, 10, none⟩ (.slice none 0 0)) := ⟨_, rfl⟩
      rw [← hV]
      replace hV : V9 = set11 w2 w.heap.size (.int .i64 0) (.int .i64 0) (.int .i64 0) (.int .i64 0) (.int .i64 0) (.int .i64 0) (.int .i64 0) (.int .i64 0) (.int .i64 0) (.string ⟨#[]⟩) (.slice none 0 0) := hV
      have tz : TBox V9 w.heap.size 31 #[.int .i64 0, .int .i64 0, .int .i64 0, .int .i64 0, .int .i64 0, .int .i64 0, .int .i64 0, .int .i64 0, .int .i64 0, .string ⟨#[]⟩, .slice none 0 0] := by rw [hV]; exact set11_box HM2.out (.int .i64 0) (.int .i64 0) (.int .i64 0) (.int .i64 0) (.int .i64 0) (.int .i64 0) (.int .i64 0) (.int .i64 0) (.int .i64 0) (.string ⟨#[]⟩) (.slice none 0 0)
      have hz : Below w.heap.size w V9 := by rw [hV]; exact set11_below BW2.out (Nat.le_refl _) (.int .i64 0) (.int .i64 0) (.int .i64 0) (.int .i64 0) (.int .i64 0) (.int .i64 0) (.int .i64 0) (.int .i64 0) (.int .i64 0) (.string ⟨#[]⟩) (.slice none 0 0)
      have q0 : V9.cell? ⟨w.heap.size, 0, none⟩ = some (.int .i64 0) := tz.cell 0
      have q1 : V9.cell? ⟨w.heap.size, 1, none⟩ = some (.int .i64 0) := tz.cell 1
      have q2 : V9.cell? ⟨w.heap.size, 2, none⟩ = some (.int .i64 0) := tz.cell 2
      have q3 : V9.cell? ⟨w.heap.size, 3, none⟩ = some (.int .i64 0) := tz.cell 3
      have q4 : V9.cell? ⟨w.heap.size, 4, none⟩ = some (.int .i64 0) := tz.cell 4
      have q5 : V9.cell? ⟨w.heap.size, 5, none⟩ = some (.int .i64 0) := tz.cell 5
      have q6 : V9.cell? ⟨w.heap.size, 6, none⟩ = some (.int .i64 0) := tz.cell 6
      have q7 : V9.cell? ⟨w.heap.size, 7, none⟩ = some (.int .i64 0) := tz.cell 7
      have q8 : V9.cell? ⟨w.heap.size, 8, none⟩ = some (.int .i64 0) := tz.cell 8
      have q9 : V9.cell? ⟨w.heap.size, 9, none⟩ = some (.string ⟨#[]⟩) := tz.cell 9
      have q10 : V9.cell? ⟨w.heap.size, 10, none⟩ = some (.slice none 0 0) := tz.cell 10
      clear hV
      clear c0 g0 c1 g1 c2 g2 c3 g3 c4 g4 c5 g5 c6 g6 c7 g7 c8 g8 c9 g9 c10 g10
      refine bodyPost_ret (v := .tuple #[.agg #[.int .i64 0, .int .i64 0, .int .i64 0, .int .i64 0, .int .i64 0, .int .i64 0, .int .i64 0, .int .i64 0, .int .i64 0, .string ⟨#[]⟩, .slice none 0 0], .int .i64 e2]) (by simp [results, Try.results26, go_sem, q0, q1, q2, q3, q4, q5, q6, q7, q8, q9, q10]) rfl ⟨none, 0, by rw [HE.out]; rfl, by rw [HE.out]; exact World.ownsRow_nil _ _ _ _, hz⟩
  · have HE := Lib.hid (show q = (rsp0, e1) from by rw [HQ1.out, if_pos he])
    have hne : (e1 == 0) = false := by simpa using he
    have hne2 : (e1 != 0) = true := by simpa using he
    have c0 : w1.cell? ⟨w.heap.size, 0, none⟩ = some (.int .i64 0) := HM1.out.cell 0
    have g0 := HM1.out.free 0
    have c1 : w1.cell? ⟨w.heap.size, 1, none⟩ = some (.int .i64 0) := HM1.out.cell 1
    have g1 := HM1.out.free 1
    have c2 : w1.cell? ⟨w.heap.size, 2, none⟩ = some (.int .i64 0) := HM1.out.cell 2
    have g2 := HM1.out.free 2
    have c3 : w1.cell? ⟨w.heap.size, 3, none⟩ = some (.int .i64 0) := HM1.out.cell 3
    have g3 := HM1.out.free 3
    have c4 : w1.cell? ⟨w.heap.size, 4, none⟩ = some (.int .i64 0) := HM1.out.cell 4
    have g4 := HM1.out.free 4
    have c5 : w1.cell? ⟨w.heap.size, 5, none⟩ = some (.int .i64 0) := HM1.out.cell 5
    have g5 := HM1.out.free 5
    have c6 : w1.cell? ⟨w.heap.size, 6, none⟩ = some (.int .i64 0) := HM1.out.cell 6
    have g6 := HM1.out.free 6
    have c7 : w1.cell? ⟨w.heap.size, 7, none⟩ = some (.int .i64 0) := HM1.out.cell 7
    have g7 := HM1.out.free 7
    have c8 : w1.cell? ⟨w.heap.size, 8, none⟩ = some (.int .i64 0) := HM1.out.cell 8
    have g8 := HM1.out.free 8
    have c9 : w1.cell? ⟨w.heap.size, 9, none⟩ = some (.string ⟨#[]⟩) := HM1.out.cell 9
    have g9 := HM1.out.free 9
    have c10 : w1.cell? ⟨w.heap.size, 10, none⟩ = some (.slice none 0 0) := HM1.out.cell 10
    have g10 := HM1.out.free 10
    go_wp2_with fail
    obtain ⟨V9, hV⟩ : ∃ V, V = (((((((((((w1.setCell ⟨w.heap.size, 0, none⟩ (.int .i64 0)).setCell ⟨w.heap.size, 1, none⟩ (.int .i64 0)).setCell ⟨w.heap.size, 2, none⟩ (.int .i64 0)).setCell ⟨w.heap.size, 3, none⟩ (.int .i64 0)).setCell ⟨w.heap.size, 4, none⟩ (.int .i64 0)).setCell ⟨w.heap.size, 5, none⟩ (.int .i64 0)).setCell ⟨w.heap.size, 6, none⟩ (.int .i64 0)).setCell ⟨w.heap.size, 7, none⟩ (.int .i64 0)).setCell ⟨w.heap.size, 8, none⟩ (.int .i64 0)).setCell ⟨w.heap.size, 9, none⟩ (.string ⟨#[]⟩)).setCell ⟨w.heap.size, 10, none⟩ (.slice none 0 0)) := ⟨_, rfl⟩
    rw [← hV]
    replace hV : V9 = set11 w1 w.heap.size (.int .i64 0) (.int .i64 0) (.int .i64 0) (.int .i64 0) (.int .i64 0) (.int .i64 0) (.int .i64 0) (.int .i64 0) (.int .i64 0) (.string ⟨#[]⟩) (.slice none 0 0) := hV
    have tz : TBox V9 w.heap.size 31 #[.int .i64 0, .int .i64 0, .int .i64 0, .int .i64 0, .int .i64 0, .int .i64 0, .int .i64 0, .int .i64 0, .int .i64 0, .string ⟨#[]⟩, .slice none 0 0] := by rw [hV]; exact set11_box HM1.out (.int .i64 0) (.int .i64 0) (.int .i64 0) (.int .i64 0) (.int .i64 0) (.int .i64 0) (.int .i64 0) (.int .i64 0) (.int .i64 0) (.string ⟨#[]⟩) (.slice none 0 0)
    have hz : Below w.heap.size w V9 := by rw [hV]; exact set11_below BW1.out (Nat.le_refl _) (.int .i64 0) (.int .i64 0) (.int .i64 0) (.int .i64 0) (.int .i64 0) (.int .i64 0) (.int .i64 0) (.int .i64 0) (.int .i64 0) (.string ⟨#[]⟩) (.slice none 0 0)
    have q0 : V9.cell? ⟨w.heap.size, 0, none⟩ = some (.int .i64 0) := tz.cell 0
    have q1 : V9.cell? ⟨w.heap.size, 1, none⟩ = some (.int .i64 0) := tz.cell 1
    have q2 : V9.cell? ⟨w.heap.size, 2, none⟩ = some (.int .i64 0) := tz.cell 2
    have q3 : V9.cell? ⟨w.heap.size, 3, none⟩ = some (.int .i64 0) := tz.cell 3
    have q4 : V9.cell? ⟨w.heap.size, 4, none⟩ = some (.int .i64 0) := tz.cell 4
    have q5 : V9.cell? ⟨w.heap.size, 5, none⟩ = some (.int .i64 0) := tz.cell 5
    have q6 : V9.cell? ⟨w.heap.size, 6, none⟩ = some (.int .i64 0) := tz.cell 6
    have q7 : V9.cell? ⟨w.heap.size, 7, none⟩ = some (.int .i64 0) := tz.cell 7
    have q8 : V9.cell? ⟨w.heap.size, 8, none⟩ = some (.int .i64 0) := tz.cell 8
    have q9 : V9.cell? ⟨w.heap.size, 9, none⟩ = some (.string ⟨#[]⟩) := tz.cell 9
    have q10 : V9.cell? ⟨w.heap.size, 10, none⟩ = some (.slice none 0 0) := tz.cell 10
    clear hV
    clear c0 g0 c1 g1 c2 g2 c3 g3 c4 g4 c5 g5 c6 g6 c7 g7 c8 g8 c9 g9 c10 g10
    refine bodyPost_ret (v := .tuple #[.agg #[.int .i64 0, .int .i64 0, .int .i64 0, .int .i64 0, .int .i64 0, .int .i64 0, .int .i64 0, .int .i64 0, .int .i64 0, .string ⟨#[]⟩, .slice none 0 0], .int .i64 e1]) (by simp [results, Try.results26, go_sem, q0, q1, q2, q3, q4, q5, q6, q7, q8, q9, q10]) rfl ⟨none, 0, by rw [HE.out]; rfl, by rw [HE.out]; exact World.ownsRow_nil _ _ _ _, hz⟩

end Go.Proofs.Ytpojhcpkmpbflaa
