/- Proved: copyholdlaw15.WireTakes returns true for every text: a call, a message, and an answer that are taken are as the document says. No condition beyond the form's own reach. -/
import Derived.Test.YtpojhcpkmpbflaaWireLawK
import Derived.Test.YtpojhcpkmpbflaaRef15V
import Derived.Test.YtpojhcpkmpbflaaRef15S
import Derived.Test.YtpojhcpkmpbflaaLaw
namespace Go.Proofs.Ytpojhcpkmpbflaa.wireTakes
open Go.ChangeShapes Go.WideShapes Go.ChangeAt Go.RowKit Copyhold
open Go.ChangeMaps (open_string shut_string)
set_option linter.unusedVariables false
set_option linter.unusedSimpArgs false

set_option maxRecDepth 100000 in
set_option maxHeartbeats 16000000 in
theorem walk (w : World) (s : List UInt8) (hz : s.length ≤ 140737488351232) :
    Calls Try.prog 4 #[.string ⟨s.toArray⟩] w fun e w' => e = .returned (.bool true) ∧ Below w.heap.size w w' := by
  by_cases hs : s.length ≤ 6000
  · have HM := Lib.hid (fun W => wire_TakeMsg s W (by omega))
    have HR := Lib.hid (fun W => wire_TakeRsp s W (by omega))
    have HC := Lib.hid (fun W => wire_TakeCall s W (by omega))
    have HMf := Lib.hid (fun W => ref15_TakeMsg s W (by omega))
    have HRf := Lib.hid (fun W => ref15_TakeRsp s W (by omega))
    have HCf := Lib.hid (fun W => ref15_TakeCall s W (by omega))
    have hnl : (takeRsp s).1.names.length ≤ 2147483648 := by
      have := (takeRsp_ok s (by omega)).2.2
      omega
    generalize takeMsg s = x at *
    generalize takeRsp s = y at *
    generalize takeCall s = z at *
    obtain ⟨⟨m1, m2, m3, m4, m5, m6, ⟨k1, k2, k3, k4, k5, t1, t2, t3⟩⟩, er⟩ := x
    obtain ⟨⟨r1, r2, r3, r4, r5, r6, r7, r8, r9, tx, ls⟩, fr⟩ := y
    obtain ⟨⟨q1, q2, q3, q4, q5, u1, u2, u3⟩, rest, gr⟩ := z
    unfold RetRsp at HR HRf
    simp only [rspCells, msgV, msgCells, callV] at HM HR HC HMf HRf HCf hnl
    have HS := Lib.hid (fun vx vy W hx hy => ref15_Same ⟨r1, r2, r3, r4, r5, r6, r7, r8, r9, tx, ls⟩ ⟨r1, r2, r3, r4, r5, r6, r7, r8, r9, tx, ls⟩ vx vy W hx hy hnl hnl)
    rw [(sameR_iff ⟨r1, r2, r3, r4, r5, r6, r7, r8, r9, tx, ls⟩ ⟨r1, r2, r3, r4, r5, r6, r7, r8, r9, tx, ls⟩).2 rfl] at HS
    unfold RspV rspCells at HS
    simp only at HS
    go_enter Try.func4, Try.ntmps4
    go_wp2_with fail
    refine (law_shown _).mono ?_
    rintro e w1 ⟨rfl, hb⟩
    have BW_1 := Lib.hid hb
    clear hb 
    go_wp2_with fail
    refine (HC.out _).mono ?_
    rintro e w2 ⟨rfl, hb⟩
    have BW_2 := Lib.hid (below_trans BW_1.out hb BW_1.out.size)
    clear hb 
    obtain ⟨v3, hW⟩ : ∃ W, W = w2.alloc (.cells #[.int .i64 q1, .int .i64 q2, .int .i64 q3, .int .i64 q4, .int .i64 q5, .string ⟨u1.toArray⟩, .string ⟨u2.toArray⟩, .string ⟨u3.toArray⟩] 23) := ⟨_, rfl⟩
    have hbn : Below w2.heap.size w2 v3 := by rw [hW]; exact (Below.refl _ _).alloc (Nat.le_refl _) _
    have Ha := Lib.hid (show TBox v3 w2.heap.size 23 #[.int .i64 q1, .int .i64 q2, .int .i64 q3, .int .i64 q4, .int .i64 q5, .string ⟨u1.toArray⟩, .string ⟨u2.toArray⟩, .string ⟨u3.toArray⟩] from by rw [hW]; exact TBox.new _ _ _)
    have HWv3 := Lib.hid hW
    clear hW
    have BW_v3 := Lib.hid (below_trans BW_2.out hbn BW_2.out.size)
    clear hbn
    go_wp2_with fail
    rw [← HWv3.out]
    refine (HCf.out _).mono ?_
    rintro e w4 ⟨rfl, hb⟩
    have Ha_4 := Lib.hid (Ha.out.below hb)
    have BW_4 := Lib.hid (below_trans BW_v3.out hb BW_v3.out.size)
    clear hb 
    obtain ⟨v5, hW⟩ : ∃ W, W = w4.alloc (.cells #[.int .i64 q1, .int .i64 q2, .int .i64 q3, .int .i64 q4, .int .i64 q5, .string ⟨u1.toArray⟩, .string ⟨u2.toArray⟩, .string ⟨u3.toArray⟩] 23) := ⟨_, rfl⟩
    have hbn : Below w4.heap.size w4 v5 := by rw [hW]; exact (Below.refl _ _).alloc (Nat.le_refl _) _
    have Hb := Lib.hid (show TBox v5 w4.heap.size 23 #[.int .i64 q1, .int .i64 q2, .int .i64 q3, .int .i64 q4, .int .i64 q5, .string ⟨u1.toArray⟩, .string ⟨u2.toArray⟩, .string ⟨u3.toArray⟩] from by rw [hW]; exact TBox.new _ _ _)
    have HWv5 := Lib.hid hW
    clear hW
    have Ha_v5 := Lib.hid (Ha_4.out.below hbn)
    have BW_v5 := Lib.hid (below_trans BW_4.out hbn BW_4.out.size)
    clear hbn
    go_wp2_with fail
    rw [← HWv5.out]
    refine (HM.out _).mono ?_
    rintro e w6 ⟨rfl, hb⟩
    have Ha_6 := Lib.hid (Ha_v5.out.below hb)
    have Hb_6 := Lib.hid (Hb.out.below hb)
    have BW_6 := Lib.hid (below_trans BW_v5.out hb BW_v5.out.size)
    clear hb 
    obtain ⟨v7, hW⟩ : ∃ W, W = w6.alloc (.cells #[.int .i64 m1, .int .i64 m2, .int .i64 m3, .int .i64 m4, .int .i64 m5, .int .i64 m6, .int .i64 k1, .int .i64 k2, .int .i64 k3, .int .i64 k4, .int .i64 k5, .string ⟨t1.toArray⟩, .string ⟨t2.toArray⟩, .string ⟨t3.toArray⟩] 25) := ⟨_, rfl⟩
    have hbn : Below w6.heap.size w6 v7 := by rw [hW]; exact (Below.refl _ _).alloc (Nat.le_refl _) _
    have Hc := Lib.hid (show TBox v7 w6.heap.size 25 #[.int .i64 m1, .int .i64 m2, .int .i64 m3, .int .i64 m4, .int .i64 m5, .int .i64 m6, .int .i64 k1, .int .i64 k2, .int .i64 k3, .int .i64 k4, .int .i64 k5, .string ⟨t1.toArray⟩, .string ⟨t2.toArray⟩, .string ⟨t3.toArray⟩] from by rw [hW]; exact TBox.new _ _ _)
    have HWv7 := Lib.hid hW
    clear hW
    have Ha_v7 := Lib.hid (Ha_6.out.below hbn)
    have Hb_v7 := Lib.hid (Hb_6.out.below hbn)
    have BW_v7 := Lib.hid (below_trans BW_6.out hbn BW_6.out.size)
    clear hbn
    go_wp2_with fail
    rw [← HWv7.out]
    refine (HMf.out _).mono ?_
    rintro e w8 ⟨rfl, hb⟩
    have Ha_8 := Lib.hid (Ha_v7.out.below hb)
    have Hb_8 := Lib.hid (Hb_v7.out.below hb)
    have Hc_8 := Lib.hid (Hc.out.below hb)
    have BW_8 := Lib.hid (below_trans BW_v7.out hb BW_v7.out.size)
    clear hb 
    obtain ⟨v9, hW⟩ : ∃ W, W = w8.alloc (.cells #[.int .i64 m1, .int .i64 m2, .int .i64 m3, .int .i64 m4, .int .i64 m5, .int .i64 m6, .int .i64 k1, .int .i64 k2, .int .i64 k3, .int .i64 k4, .int .i64 k5, .string ⟨t1.toArray⟩, .string ⟨t2.toArray⟩, .string ⟨t3.toArray⟩] 25) := ⟨_, rfl⟩
    have hbn : Below w8.heap.size w8 v9 := by rw [hW]; exact (Below.refl _ _).alloc (Nat.le_refl _) _
    have Hd := Lib.hid (show TBox v9 w8.heap.size 25 #[.int .i64 m1, .int .i64 m2, .int .i64 m3, .int .i64 m4, .int .i64 m5, .int .i64 m6, .int .i64 k1, .int .i64 k2, .int .i64 k3, .int .i64 k4, .int .i64 k5, .string ⟨t1.toArray⟩, .string ⟨t2.toArray⟩, .string ⟨t3.toArray⟩] from by rw [hW]; exact TBox.new _ _ _)
    have HWv9 := Lib.hid hW
    clear hW
    have Ha_v9 := Lib.hid (Ha_8.out.below hbn)
    have Hb_v9 := Lib.hid (Hb_8.out.below hbn)
    have Hc_v9 := Lib.hid (Hc_8.out.below hbn)
    have BW_v9 := Lib.hid (below_trans BW_8.out hbn BW_8.out.size)
    clear hbn
    go_wp2_with fail
    rw [← HWv9.out]
    refine (HR.out _).mono ?_
    rintro e w10 ⟨A, cp, rfl, ho, hb⟩
    have Ha_10 := Lib.hid (Ha_v9.out.below hb)
    have Hb_10 := Lib.hid (Hb_v9.out.below hb)
    have Hc_10 := Lib.hid (Hc_v9.out.below hb)
    have Hd_10 := Lib.hid (Hd.out.below hb)
    have BW_10 := Lib.hid (below_trans BW_v9.out hb BW_v9.out.size)
    have Rp0 := Lib.hid (Row.of_owns ho)
    clear ho
    clear hb 
    obtain ⟨v11, hW⟩ : ∃ W, W = w10.alloc (.cells #[.int .i64 r1, .int .i64 r2, .int .i64 r3, .int .i64 r4, .int .i64 r5, .int .i64 r6, .int .i64 r7, .int .i64 r8, .int .i64 r9, .string ⟨tx.toArray⟩, .slice A ls.length cp] 31) := ⟨_, rfl⟩
    have hbn : Below w10.heap.size w10 v11 := by rw [hW]; exact (Below.refl _ _).alloc (Nat.le_refl _) _
    have Hp := Lib.hid (show TBox v11 w10.heap.size 31 #[.int .i64 r1, .int .i64 r2, .int .i64 r3, .int .i64 r4, .int .i64 r5, .int .i64 r6, .int .i64 r7, .int .i64 r8, .int .i64 r9, .string ⟨tx.toArray⟩, .slice A ls.length cp] from by rw [hW]; exact TBox.new _ _ _)
    have HWv11 := Lib.hid hW
    clear hW
    have Ha_v11 := Lib.hid (Ha_10.out.below hbn)
    have Hb_v11 := Lib.hid (Hb_10.out.below hbn)
    have Hc_v11 := Lib.hid (Hc_10.out.below hbn)
    have Hd_v11 := Lib.hid (Hd_10.out.below hbn)
    have Rp_v11 := Lib.hid (Rp0.out.below hbn)
    have BW_v11 := Lib.hid (below_trans BW_10.out hbn BW_10.out.size)
    clear hbn
    go_wp2_with fail
    rw [← HWv11.out]
    refine (HRf.out _).mono ?_
    rintro e w12 ⟨B, cq, rfl, ho, hb⟩
    have Ha_12 := Lib.hid (Ha_v11.out.below hb)
    have Hb_12 := Lib.hid (Hb_v11.out.below hb)
    have Hc_12 := Lib.hid (Hc_v11.out.below hb)
    have Hd_12 := Lib.hid (Hd_v11.out.below hb)
    have Hp_12 := Lib.hid (Hp.out.below hb)
    have Rp_12 := Lib.hid (Rp_v11.out.below hb)
    have BW_12 := Lib.hid (below_trans BW_v11.out hb BW_v11.out.size)
    have Rq0 := Lib.hid (Row.of_owns ho)
    clear ho
    clear hb 
    obtain ⟨v13, hW⟩ : ∃ W, W = w12.alloc (.cells #[.int .i64 r1, .int .i64 r2, .int .i64 r3, .int .i64 r4, .int .i64 r5, .int .i64 r6, .int .i64 r7, .int .i64 r8, .int .i64 r9, .string ⟨tx.toArray⟩, .slice B ls.length cq] 31) := ⟨_, rfl⟩
    have hbn : Below w12.heap.size w12 v13 := by rw [hW]; exact (Below.refl _ _).alloc (Nat.le_refl _) _
    have Hq := Lib.hid (show TBox v13 w12.heap.size 31 #[.int .i64 r1, .int .i64 r2, .int .i64 r3, .int .i64 r4, .int .i64 r5, .int .i64 r6, .int .i64 r7, .int .i64 r8, .int .i64 r9, .string ⟨tx.toArray⟩, .slice B ls.length cq] from by rw [hW]; exact TBox.new _ _ _)
    have HWv13 := Lib.hid hW
    clear hW
    have Ha_v13 := Lib.hid (Ha_12.out.below hbn)
    have Hb_v13 := Lib.hid (Hb_12.out.below hbn)
    have Hc_v13 := Lib.hid (Hc_12.out.below hbn)
    have Hd_v13 := Lib.hid (Hd_12.out.below hbn)
    have Hp_v13 := Lib.hid (Hp_12.out.below hbn)
    have Rp_v13 := Lib.hid (Rp_12.out.below hbn)
    have Rq_v13 := Lib.hid (Rq0.out.below hbn)
    have BW_v13 := Lib.hid (below_trans BW_12.out hbn BW_12.out.size)
    clear hbn
    have lta := Ha_12.out.lt
    have ltb := Hb_12.out.lt
    have ltc := Hc_12.out.lt
    have ltd := Hd_12.out.lt
    have ltp := Hp_12.out.lt
    have cp_0 : w12.cell? ⟨w10.heap.size, 0, none⟩ = some (.int .i64 r1) := Hp_12.out.cell 0
    have cp_1 : w12.cell? ⟨w10.heap.size, 1, none⟩ = some (.int .i64 r2) := Hp_12.out.cell 1
    have cp_2 : w12.cell? ⟨w10.heap.size, 2, none⟩ = some (.int .i64 r3) := Hp_12.out.cell 2
    have cp_3 : w12.cell? ⟨w10.heap.size, 3, none⟩ = some (.int .i64 r4) := Hp_12.out.cell 3
    have cp_4 : w12.cell? ⟨w10.heap.size, 4, none⟩ = some (.int .i64 r5) := Hp_12.out.cell 4
    have cp_5 : w12.cell? ⟨w10.heap.size, 5, none⟩ = some (.int .i64 r6) := Hp_12.out.cell 5
    have cp_6 : w12.cell? ⟨w10.heap.size, 6, none⟩ = some (.int .i64 r7) := Hp_12.out.cell 6
    have cp_7 : w12.cell? ⟨w10.heap.size, 7, none⟩ = some (.int .i64 r8) := Hp_12.out.cell 7
    have cp_8 : w12.cell? ⟨w10.heap.size, 8, none⟩ = some (.int .i64 r9) := Hp_12.out.cell 8
    have cp_9 : w12.cell? ⟨w10.heap.size, 9, none⟩ = some (.string ⟨tx.toArray⟩) := Hp_12.out.cell 9
    have cp_10 : w12.cell? ⟨w10.heap.size, 10, none⟩ = some (.slice A ls.length cp) := Hp_12.out.cell 10
    go_wp2_with fail
    rw [← HWv13.out]
    refine (HS.out _ _ _ ⟨A, cp, rfl, Rp_v13.out⟩ ⟨B, cq, rfl, Rq_v13.out⟩).mono ?_
    rintro e w14 ⟨rfl, hb⟩
    have Ha_14 := Lib.hid (Ha_v13.out.below hb)
    have Hb_14 := Lib.hid (Hb_v13.out.below hb)
    have Hc_14 := Lib.hid (Hc_v13.out.below hb)
    have Hd_14 := Lib.hid (Hd_v13.out.below hb)
    have Hp_14 := Lib.hid (Hp_v13.out.below hb)
    have Hq_14 := Lib.hid (Hq.out.below hb)
    have Rp_14 := Lib.hid (Rp_v13.out.below hb)
    have Rq_14 := Lib.hid (Rq_v13.out.below hb)
    have BW_14 := Lib.hid (below_trans BW_v13.out hb BW_v13.out.size)
    clear hb 
    clear cp_0 cp_1 cp_2 cp_3 cp_4 cp_5 cp_6 cp_7 cp_8 cp_9 cp_10
    have ca_0 : w14.cell? ⟨w2.heap.size, 0, none⟩ = some (.int .i64 q1) := Ha_14.out.cell 0
    have ca_1 : w14.cell? ⟨w2.heap.size, 1, none⟩ = some (.int .i64 q2) := Ha_14.out.cell 1
    have ca_2 : w14.cell? ⟨w2.heap.size, 2, none⟩ = some (.int .i64 q3) := Ha_14.out.cell 2
    have ca_3 : w14.cell? ⟨w2.heap.size, 3, none⟩ = some (.int .i64 q4) := Ha_14.out.cell 3
    have ca_4 : w14.cell? ⟨w2.heap.size, 4, none⟩ = some (.int .i64 q5) := Ha_14.out.cell 4
    have ca_5 : w14.cell? ⟨w2.heap.size, 5, none⟩ = some (.string ⟨u1.toArray⟩) := Ha_14.out.cell 5
    have ca_6 : w14.cell? ⟨w2.heap.size, 6, none⟩ = some (.string ⟨u2.toArray⟩) := Ha_14.out.cell 6
    have ca_7 : w14.cell? ⟨w2.heap.size, 7, none⟩ = some (.string ⟨u3.toArray⟩) := Ha_14.out.cell 7
    have cb_0 : w14.cell? ⟨w4.heap.size, 0, none⟩ = some (.int .i64 q1) := Hb_14.out.cell 0
    have cb_1 : w14.cell? ⟨w4.heap.size, 1, none⟩ = some (.int .i64 q2) := Hb_14.out.cell 1
    have cb_2 : w14.cell? ⟨w4.heap.size, 2, none⟩ = some (.int .i64 q3) := Hb_14.out.cell 2
    have cb_3 : w14.cell? ⟨w4.heap.size, 3, none⟩ = some (.int .i64 q4) := Hb_14.out.cell 3
    have cb_4 : w14.cell? ⟨w4.heap.size, 4, none⟩ = some (.int .i64 q5) := Hb_14.out.cell 4
    have cb_5 : w14.cell? ⟨w4.heap.size, 5, none⟩ = some (.string ⟨u1.toArray⟩) := Hb_14.out.cell 5
    have cb_6 : w14.cell? ⟨w4.heap.size, 6, none⟩ = some (.string ⟨u2.toArray⟩) := Hb_14.out.cell 6
    have cb_7 : w14.cell? ⟨w4.heap.size, 7, none⟩ = some (.string ⟨u3.toArray⟩) := Hb_14.out.cell 7
    have cc_0 : w14.cell? ⟨w6.heap.size, 0, none⟩ = some (.int .i64 m1) := Hc_14.out.cell 0
    have cc_1 : w14.cell? ⟨w6.heap.size, 1, none⟩ = some (.int .i64 m2) := Hc_14.out.cell 1
    have cc_2 : w14.cell? ⟨w6.heap.size, 2, none⟩ = some (.int .i64 m3) := Hc_14.out.cell 2
    have cc_3 : w14.cell? ⟨w6.heap.size, 3, none⟩ = some (.int .i64 m4) := Hc_14.out.cell 3
    have cc_4 : w14.cell? ⟨w6.heap.size, 4, none⟩ = some (.int .i64 m5) := Hc_14.out.cell 4
    have cc_5 : w14.cell? ⟨w6.heap.size, 5, none⟩ = some (.int .i64 m6) := Hc_14.out.cell 5
    have cc_6 : w14.cell? ⟨w6.heap.size, 6, none⟩ = some (.int .i64 k1) := Hc_14.out.cell 6
    have cc_7 : w14.cell? ⟨w6.heap.size, 7, none⟩ = some (.int .i64 k2) := Hc_14.out.cell 7
    have cc_8 : w14.cell? ⟨w6.heap.size, 8, none⟩ = some (.int .i64 k3) := Hc_14.out.cell 8
    have cc_9 : w14.cell? ⟨w6.heap.size, 9, none⟩ = some (.int .i64 k4) := Hc_14.out.cell 9
    have cc_10 : w14.cell? ⟨w6.heap.size, 10, none⟩ = some (.int .i64 k5) := Hc_14.out.cell 10
    have cc_11 : w14.cell? ⟨w6.heap.size, 11, none⟩ = some (.string ⟨t1.toArray⟩) := Hc_14.out.cell 11
    have cc_12 : w14.cell? ⟨w6.heap.size, 12, none⟩ = some (.string ⟨t2.toArray⟩) := Hc_14.out.cell 12
    have cc_13 : w14.cell? ⟨w6.heap.size, 13, none⟩ = some (.string ⟨t3.toArray⟩) := Hc_14.out.cell 13
    have cd_0 : w14.cell? ⟨w8.heap.size, 0, none⟩ = some (.int .i64 m1) := Hd_14.out.cell 0
    have cd_1 : w14.cell? ⟨w8.heap.size, 1, none⟩ = some (.int .i64 m2) := Hd_14.out.cell 1
    have cd_2 : w14.cell? ⟨w8.heap.size, 2, none⟩ = some (.int .i64 m3) := Hd_14.out.cell 2
    have cd_3 : w14.cell? ⟨w8.heap.size, 3, none⟩ = some (.int .i64 m4) := Hd_14.out.cell 3
    have cd_4 : w14.cell? ⟨w8.heap.size, 4, none⟩ = some (.int .i64 m5) := Hd_14.out.cell 4
    have cd_5 : w14.cell? ⟨w8.heap.size, 5, none⟩ = some (.int .i64 m6) := Hd_14.out.cell 5
    have cd_6 : w14.cell? ⟨w8.heap.size, 6, none⟩ = some (.int .i64 k1) := Hd_14.out.cell 6
    have cd_7 : w14.cell? ⟨w8.heap.size, 7, none⟩ = some (.int .i64 k2) := Hd_14.out.cell 7
    have cd_8 : w14.cell? ⟨w8.heap.size, 8, none⟩ = some (.int .i64 k3) := Hd_14.out.cell 8
    have cd_9 : w14.cell? ⟨w8.heap.size, 9, none⟩ = some (.int .i64 k4) := Hd_14.out.cell 9
    have cd_10 : w14.cell? ⟨w8.heap.size, 10, none⟩ = some (.int .i64 k5) := Hd_14.out.cell 10
    have cd_11 : w14.cell? ⟨w8.heap.size, 11, none⟩ = some (.string ⟨t1.toArray⟩) := Hd_14.out.cell 11
    have cd_12 : w14.cell? ⟨w8.heap.size, 12, none⟩ = some (.string ⟨t2.toArray⟩) := Hd_14.out.cell 12
    have cd_13 : w14.cell? ⟨w8.heap.size, 13, none⟩ = some (.string ⟨t3.toArray⟩) := Hd_14.out.cell 13
    go_wp2_with fail
    go_ret
    exact ⟨rfl, BW_14.out⟩
  · go_enter Try.func4, Try.ntmps4
    go_wp2_with fail
    refine (law_shown _).mono ?_
    rintro e w1 ⟨rfl, hb⟩
    have BW_1 := Lib.hid hb
    clear hb 
    go_wp2_with fail
    go_ret
    exact ⟨rfl, BW_1.out⟩
theorem own : ownKnob Try.prog.godebug = none := by kernel_rfl
theorem laidOut : laidOutB Try.prog = true := by kernel_rfl

set_option maxRecDepth 100000 in
set_option maxHeartbeats 1000000 in
theorem lifted (os : Os) (started : os.Started) (H : Type) (enc : TypeId × Value → H) :
    ReturnsInHanded {} Try.checked os 4 .any (Rows.wireTakesSpec.pre6 enc Try.prog Try.f4 Rows.wireTakesRow.domain false) (Rows.wireTakesSpec.post enc Try.prog Try.f4 false true false false) := by
  refine returnsInHanded_of_change_sized (C := Try.checked) own started (by kernel_rfl) Try.func4
    (ChangeSpec.witness6 (enc := enc) (C := Try.checked) false ⟨#[], #[.string ByteArray.empty], []⟩ 8 (by kernel_rfl) (by kernel_rfl) (by kernel_rfl) (by kernel_rfl)) ?_
  intro W base args ds gs before hval0 hW hcnd hsz0 _
  have hsz : (DataW.weightsEach Try.prog (Try.f4.params.toList ++ []) (ds ++ gs)).all (· ≤ reachBytes) = true := hsz0
  clear hsz0
  have hval : ∀ (j : Nat) t v, Try.f4.params[j]? = some t → args[j]? = some v → Value.okWide Try.prog W .any base t v := hval0
  have hW' := hW
  have hlt := hW.lt
  obtain ⟨p, q, hA0, hV, rfl, hfz, hnd⟩ := hW
  have hA : DataW.TrodAll enc Try.prog W 0 (fun _ => true) true Try.f4.params.toList args.toList ds p := hA0
  rw [Try.params4] at hA hval
  obtain ⟨v0, vs0, d0, ds0, p0, q0, hargs, rfl, rfl, h0, r0⟩ := trodAll_cons hA
  obtain ⟨rfl, rfl, rfl⟩ := trodAll_nil r0
  obtain rfl : args = #[v0] := by cases args; simp_all
  obtain ⟨rfl, rfl⟩ := trodVars_none hV
  obtain ⟨s0, rfl, rfl, rfl, w0⟩ := open_string Try.underlying9 (hval 0 9 v0 rfl rfl) h0
  have z0 : s0.data.toList.length ≤ 140737488351232 := sized_string hsz (j := 0) (t := 9) (by rw [Try.params4]; rfl) rfl
  obtain ⟨a0, rfl⟩ : ∃ l : List UInt8, s0 = ⟨l.toArray⟩ := ⟨s0.data.toList, rfl⟩
  refine (walk W a0 z0).mono fun e W' ⟨he, hg⟩ => ?_
  subst he
  exact ⟨_, rfl, Copyhold.law_post laidOut (by kernel_rfl) (by kernel_rfl) Try.underlying4 rfl rfl rfl rfl hW' hg⟩

theorem over : Rows.wireTakesRow.holds Try.pinned (OpenSpec.ofChange Rows.wireTakesSpec) :=
  OpenClaim.holds_of_wide 4 Try.f4 rfl rfl rfl rfl rfl rfl rfl ⟨rfl, rfl, rfl, rfl, rfl⟩ rfl rfl rfl rfl rfl (by kernel_rfl) Try.func4 (by kernel_rfl)
    (of_decide_eq_true (by kernel_rfl)) (by unfold Func.isWrapper; first | (rw [if_pos (by decide +kernel)]; kernel_rfl) | (rw [if_neg (by decide +kernel)]; exact ⟨rfl, rfl⟩))
    (fun os started H enc _ => lifted os started H enc)

theorem proved : Rows.WireTakesSaid :=
  over
end Go.Proofs.Ytpojhcpkmpbflaa.wireTakes
