/- Proved: copyholdlaw15.WireOnly returns true for every text: what is taken was laid: laid again it is what was taken. No condition beyond the form's own reach. -/
import Derived.Test.YtpojhcpkmpbflaaWireLawK
import Derived.Test.YtpojhcpkmpbflaaWireTk5
import Derived.Test.YtpojhcpkmpbflaaWireP3
import Derived.Test.YtpojhcpkmpbflaaLaw
namespace Go.Proofs.Ytpojhcpkmpbflaa.wireOnly
open Go.ChangeShapes Go.WideShapes Go.ChangeAt Go.RowKit Copyhold
open Go.ChangeMaps (open_string shut_string)
set_option linter.unusedVariables false
set_option linter.unusedSimpArgs false

set_option maxRecDepth 100000 in
set_option maxHeartbeats 16000000 in
theorem walk_101 (w : World) (s : List UInt8) (hs : s.length ≤ 6000) (he : (takeMsg s).2 = 0) (hf : ¬ (takeRsp s).2 = 0) (hg : (takeCall s).2.2 = 0) :
    Calls Try.prog 7 #[.string ⟨s.toArray⟩] w fun e w' => e = .returned (.bool true) ∧ Below w.heap.size w w' := by
  have HM := Lib.hid (fun W => wire_TakeMsg s W (by omega))
  have HR := Lib.hid (fun W => wire_TakeRsp s W (by omega))
  have HC := Lib.hid (fun W => wire_TakeCall s W (by omega))
  unfold RetRsp at HR
  have om := takeMsg_ok s
  have or' := takeRsp_ok s (by omega)
  have oc := takeCall_bds s
  have lm := (takeMsg_laid he).1
  have lc := (takeCall_laid hg).1
  generalize takeMsg s = x at *
  generalize takeRsp s = y at *
  generalize takeCall s = z at *
  obtain ⟨⟨m1, m2, m3, m4, m5, m6, ⟨k1, k2, k3, k4, k5, t1, t2, t3⟩⟩, er⟩ := x
  obtain ⟨⟨r1, r2, r3, r4, r5, r6, r7, r8, r9, tx, ls⟩, fr⟩ := y
  obtain ⟨⟨q1, q2, q3, q4, q5, u1, u2, u3⟩, rest, gr⟩ := z
  simp only at he hf hg om or' oc
  simp only at lm
  have HMs := Lib.hid (fun W => wire_Msg ⟨m1, m2, m3, m4, m5, m6, ⟨k1, k2, k3, k4, k5, t1, t2, t3⟩⟩ W ⟨om.1, om.2.mono (by decide)⟩)
  rw [lm] at HMs
  unfold msgV msgCells at HMs
  simp only at HMs
  subst he
  clear lm
  have hnf : (fr == 0) = false := by simpa using hf
  have hnf2 : (fr != 0) = true := by simpa using hf
  clear hf
  simp only at lc
  have HCs := Lib.hid (fun W => wire_Call ⟨q1, q2, q3, q4, q5, u1, u2, u3⟩ W (oc.1.mono (by omega)))
  have hcl := callB_len _ _ oc.1 (by omega)
  generalize callB ⟨q1, q2, q3, q4, q5, u1, u2, u3⟩ = B at *
  unfold callV at HCs
  simp only at HCs
  subst hg
  have HL := Lib.hid lc
  clear lc
  have hrl := oc.2
  simp only [RetRsp, rspCells, msgV, msgCells, callV] at HM HR HC
  clear om or' oc
  go_enter Try.func7, Try.ntmps7
  go_wp2_with fail
  refine (law_shown _).mono ?_
  rintro e w1 ⟨rfl, hb⟩
  have BW1 := Lib.hid hb
  clear hb
  go_wp2_with fail
  refine (HM.out w1).mono ?_
  rintro e w2 ⟨rfl, hb⟩
  have BW2 := Lib.hid (below_trans BW1.out hb BW1.out.size)
  clear hb
  obtain ⟨V3, hW⟩ : ∃ W, W = w2.alloc (.cells #[.int .i64 m1, .int .i64 m2, .int .i64 m3, .int .i64 m4, .int .i64 m5, .int .i64 m6, .int .i64 k1, .int .i64 k2, .int .i64 k3, .int .i64 k4, .int .i64 k5, .string ⟨t1.toArray⟩, .string ⟨t2.toArray⟩, .string ⟨t3.toArray⟩] 25) := ⟨_, rfl⟩
  have hbn : Below w2.heap.size w2 V3 := by rw [hW]; exact (Below.refl _ _).alloc (Nat.le_refl _) _
  have HM3 := Lib.hid (show TBox V3 w2.heap.size 25 #[.int .i64 m1, .int .i64 m2, .int .i64 m3, .int .i64 m4, .int .i64 m5, .int .i64 m6, .int .i64 k1, .int .i64 k2, .int .i64 k3, .int .i64 k4, .int .i64 k5, .string ⟨t1.toArray⟩, .string ⟨t2.toArray⟩, .string ⟨t3.toArray⟩] from by rw [hW]; exact TBox.new _ _ _)
  have HWV3 := Lib.hid hW
  clear hW
  have BW3 := Lib.hid (below_trans BW2.out hbn BW2.out.size)
  clear hbn
  go_wp2_with fail
  rw [← HWV3.out]
  refine (HR.out V3).mono ?_
  rintro e w4 ⟨A, cp, rfl, ho, hb⟩
  have HM4 := Lib.hid (HM3.out.below hb)
  have BW4 := Lib.hid (below_trans BW3.out hb BW3.out.size)
  have HO4 := Lib.hid (Row.of_owns ho)
  clear hb ho
  obtain ⟨V5, hW⟩ : ∃ W, W = w4.alloc (.cells #[.int .i64 r1, .int .i64 r2, .int .i64 r3, .int .i64 r4, .int .i64 r5, .int .i64 r6, .int .i64 r7, .int .i64 r8, .int .i64 r9, .string ⟨tx.toArray⟩, .slice A ls.length cp] 31) := ⟨_, rfl⟩
  have hbn : Below w4.heap.size w4 V5 := by rw [hW]; exact (Below.refl _ _).alloc (Nat.le_refl _) _
  have HR5 := Lib.hid (show TBox V5 w4.heap.size 31 #[.int .i64 r1, .int .i64 r2, .int .i64 r3, .int .i64 r4, .int .i64 r5, .int .i64 r6, .int .i64 r7, .int .i64 r8, .int .i64 r9, .string ⟨tx.toArray⟩, .slice A ls.length cp] from by rw [hW]; exact TBox.new _ _ _)
  have HWV5 := Lib.hid hW
  clear hW
  have HM5 := Lib.hid (HM4.out.below hbn)
  have BW5 := Lib.hid (below_trans BW4.out hbn BW4.out.size)
  have HO5 := Lib.hid (HO4.out.below hbn)
  clear hbn
  go_wp2_with fail
  rw [← HWV5.out]
  refine (HC.out V5).mono ?_
  rintro e w6 ⟨rfl, hb⟩
  have HM6 := Lib.hid (HM5.out.below hb)
  have HR6 := Lib.hid (HR5.out.below hb)
  have HO6 := Lib.hid (HO5.out.below hb)
  have BW6 := Lib.hid (below_trans BW5.out hb BW5.out.size)
  clear hb
  obtain ⟨V7, hW⟩ : ∃ W, W = w6.alloc (.cells #[.int .i64 q1, .int .i64 q2, .int .i64 q3, .int .i64 q4, .int .i64 q5, .string ⟨u1.toArray⟩, .string ⟨u2.toArray⟩, .string ⟨u3.toArray⟩] 23) := ⟨_, rfl⟩
  have hbn : Below w6.heap.size w6 V7 := by rw [hW]; exact (Below.refl _ _).alloc (Nat.le_refl _) _
  have HC7 := Lib.hid (show TBox V7 w6.heap.size 23 #[.int .i64 q1, .int .i64 q2, .int .i64 q3, .int .i64 q4, .int .i64 q5, .string ⟨u1.toArray⟩, .string ⟨u2.toArray⟩, .string ⟨u3.toArray⟩] from by rw [hW]; exact TBox.new _ _ _)
  have HWV7 := Lib.hid hW
  clear hW
  have HM7 := Lib.hid (HM6.out.below hbn)
  have HR7 := Lib.hid (HR6.out.below hbn)
  have HO7 := Lib.hid (HO6.out.below hbn)
  have BW7 := Lib.hid (below_trans BW6.out hbn BW6.out.size)
  clear hbn
  have lt1 := HM6.out.lt
  have lt2 := HR6.out.lt
  have a0 : w6.cell? ⟨w2.heap.size, 0, none⟩ = some (.int .i64 m1) := HM6.out.cell 0
  have a1 : w6.cell? ⟨w2.heap.size, 1, none⟩ = some (.int .i64 m2) := HM6.out.cell 1
  have a2 : w6.cell? ⟨w2.heap.size, 2, none⟩ = some (.int .i64 m3) := HM6.out.cell 2
  have a3 : w6.cell? ⟨w2.heap.size, 3, none⟩ = some (.int .i64 m4) := HM6.out.cell 3
  have a4 : w6.cell? ⟨w2.heap.size, 4, none⟩ = some (.int .i64 m5) := HM6.out.cell 4
  have a5 : w6.cell? ⟨w2.heap.size, 5, none⟩ = some (.int .i64 m6) := HM6.out.cell 5
  have a6 : w6.cell? ⟨w2.heap.size, 6, none⟩ = some (.int .i64 k1) := HM6.out.cell 6
  have a7 : w6.cell? ⟨w2.heap.size, 7, none⟩ = some (.int .i64 k2) := HM6.out.cell 7
  have a8 : w6.cell? ⟨w2.heap.size, 8, none⟩ = some (.int .i64 k3) := HM6.out.cell 8
  have a9 : w6.cell? ⟨w2.heap.size, 9, none⟩ = some (.int .i64 k4) := HM6.out.cell 9
  have a10 : w6.cell? ⟨w2.heap.size, 10, none⟩ = some (.int .i64 k5) := HM6.out.cell 10
  have a11 : w6.cell? ⟨w2.heap.size, 11, none⟩ = some (.string ⟨t1.toArray⟩) := HM6.out.cell 11
  have a12 : w6.cell? ⟨w2.heap.size, 12, none⟩ = some (.string ⟨t2.toArray⟩) := HM6.out.cell 12
  have a13 : w6.cell? ⟨w2.heap.size, 13, none⟩ = some (.string ⟨t3.toArray⟩) := HM6.out.cell 13
  go_wp2_with fail
  rw [← HWV7.out]
  refine (HMs.out _).mono ?_
  rintro e w8 ⟨rfl, hb⟩
  have HC7_8 := Lib.hid (HC7.out.below hb)
  have HO8 := Lib.hid (HO7.out.below hb)
  have BW8 := Lib.hid (below_trans BW7.out hb BW7.out.size)
  clear hb a0 a1 a2 a3 a4 a5 a6 a7 a8 a9 a10 a11 a12 a13
  have g0 : w8.cell? ⟨w6.heap.size, 0, none⟩ = some (.int .i64 q1) := HC7_8.out.cell 0
  have g1 : w8.cell? ⟨w6.heap.size, 1, none⟩ = some (.int .i64 q2) := HC7_8.out.cell 1
  have g2 : w8.cell? ⟨w6.heap.size, 2, none⟩ = some (.int .i64 q3) := HC7_8.out.cell 2
  have g3 : w8.cell? ⟨w6.heap.size, 3, none⟩ = some (.int .i64 q4) := HC7_8.out.cell 3
  have g4 : w8.cell? ⟨w6.heap.size, 4, none⟩ = some (.int .i64 q5) := HC7_8.out.cell 4
  have g5 : w8.cell? ⟨w6.heap.size, 5, none⟩ = some (.string ⟨u1.toArray⟩) := HC7_8.out.cell 5
  have g6 : w8.cell? ⟨w6.heap.size, 6, none⟩ = some (.string ⟨u2.toArray⟩) := HC7_8.out.cell 6
  have g7 : w8.cell? ⟨w6.heap.size, 7, none⟩ = some (.string ⟨u3.toArray⟩) := HC7_8.out.cell 7
  have hq : ¬ 9223372036854775807 < B.length + rest.length := by omega
  go_wp2_with fail
  refine (HCs.out _).mono ?_
  rintro e w9 ⟨rfl, hb⟩
  have HO9 := Lib.hid (HO8.out.below hb)
  have BW9 := Lib.hid (below_trans BW8.out hb BW8.out.size)
  clear hb g0 g1 g2 g3 g4 g5 g6 g7
  have hq2 := HL.out
  go_wp2_with fail
  go_ret
  exact ⟨rfl, BW9.out⟩
set_option maxRecDepth 100000 in
set_option maxHeartbeats 16000000 in
theorem walk_100 (w : World) (s : List UInt8) (hs : s.length ≤ 6000) (he : (takeMsg s).2 = 0) (hf : ¬ (takeRsp s).2 = 0) (hg : ¬ (takeCall s).2.2 = 0) :
    Calls Try.prog 7 #[.string ⟨s.toArray⟩] w fun e w' => e = .returned (.bool true) ∧ Below w.heap.size w w' := by
  have HM := Lib.hid (fun W => wire_TakeMsg s W (by omega))
  have HR := Lib.hid (fun W => wire_TakeRsp s W (by omega))
  have HC := Lib.hid (fun W => wire_TakeCall s W (by omega))
  unfold RetRsp at HR
  have om := takeMsg_ok s
  have or' := takeRsp_ok s (by omega)
  have oc := takeCall_bds s
  have lm := (takeMsg_laid he).1
  generalize takeMsg s = x at *
  generalize takeRsp s = y at *
  generalize takeCall s = z at *
  obtain ⟨⟨m1, m2, m3, m4, m5, m6, ⟨k1, k2, k3, k4, k5, t1, t2, t3⟩⟩, er⟩ := x
  obtain ⟨⟨r1, r2, r3, r4, r5, r6, r7, r8, r9, tx, ls⟩, fr⟩ := y
  obtain ⟨⟨q1, q2, q3, q4, q5, u1, u2, u3⟩, rest, gr⟩ := z
  simp only at he hf hg om or' oc
  simp only at lm
  have HMs := Lib.hid (fun W => wire_Msg ⟨m1, m2, m3, m4, m5, m6, ⟨k1, k2, k3, k4, k5, t1, t2, t3⟩⟩ W ⟨om.1, om.2.mono (by decide)⟩)
  rw [lm] at HMs
  unfold msgV msgCells at HMs
  simp only at HMs
  subst he
  clear lm
  have hnf : (fr == 0) = false := by simpa using hf
  have hnf2 : (fr != 0) = true := by simpa using hf
  clear hf
  have hng : (gr == 0) = false := by simpa using hg
  have hng2 : (gr != 0) = true := by simpa using hg
  clear hg
  have hrl := oc.2
  simp only [RetRsp, rspCells, msgV, msgCells, callV] at HM HR HC
  clear om or' oc
  go_enter Try.func7, Try.ntmps7
  go_wp2_with fail
  refine (law_shown _).mono ?_
  rintro e w1 ⟨rfl, hb⟩
  have BW1 := Lib.hid hb
  clear hb
  go_wp2_with fail
  refine (HM.out w1).mono ?_
  rintro e w2 ⟨rfl, hb⟩
  have BW2 := Lib.hid (below_trans BW1.out hb BW1.out.size)
  clear hb
  obtain ⟨V3, hW⟩ : ∃ W, W = w2.alloc (.cells #[.int .i64 m1, .int .i64 m2, .int .i64 m3, .int .i64 m4, .int .i64 m5, .int .i64 m6, .int .i64 k1, .int .i64 k2, .int .i64 k3, .int .i64 k4, .int .i64 k5, .string ⟨t1.toArray⟩, .string ⟨t2.toArray⟩, .string ⟨t3.toArray⟩] 25) := ⟨_, rfl⟩
  have hbn : Below w2.heap.size w2 V3 := by rw [hW]; exact (Below.refl _ _).alloc (Nat.le_refl _) _
  have HM3 := Lib.hid (show TBox V3 w2.heap.size 25 #[.int .i64 m1, .int .i64 m2, .int .i64 m3, .int .i64 m4, .int .i64 m5, .int .i64 m6, .int .i64 k1, .int .i64 k2, .int .i64 k3, .int .i64 k4, .int .i64 k5, .string ⟨t1.toArray⟩, .string ⟨t2.toArray⟩, .string ⟨t3.toArray⟩] from by rw [hW]; exact TBox.new _ _ _)
  have HWV3 := Lib.hid hW
  clear hW
  have BW3 := Lib.hid (below_trans BW2.out hbn BW2.out.size)
  clear hbn
  go_wp2_with fail
  rw [← HWV3.out]
  refine (HR.out V3).mono ?_
  rintro e w4 ⟨A, cp, rfl, ho, hb⟩
  have HM4 := Lib.hid (HM3.out.below hb)
  have BW4 := Lib.hid (below_trans BW3.out hb BW3.out.size)
  have HO4 := Lib.hid (Row.of_owns ho)
  clear hb ho
  obtain ⟨V5, hW⟩ : ∃ W, W = w4.alloc (.cells #[.int .i64 r1, .int .i64 r2, .int .i64 r3, .int .i64 r4, .int .i64 r5, .int .i64 r6, .int .i64 r7, .int .i64 r8, .int .i64 r9, .string ⟨tx.toArray⟩, .slice A ls.length cp] 31) := ⟨_, rfl⟩
  have hbn : Below w4.heap.size w4 V5 := by rw [hW]; exact (Below.refl _ _).alloc (Nat.le_refl _) _
  have HR5 := Lib.hid (show TBox V5 w4.heap.size 31 #[.int .i64 r1, .int .i64 r2, .int .i64 r3, .int .i64 r4, .int .i64 r5, .int .i64 r6, .int .i64 r7, .int .i64 r8, .int .i64 r9, .string ⟨tx.toArray⟩, .slice A ls.length cp] from by rw [hW]; exact TBox.new _ _ _)
  have HWV5 := Lib.hid hW
  clear hW
  have HM5 := Lib.hid (HM4.out.below hbn)
  have BW5 := Lib.hid (below_trans BW4.out hbn BW4.out.size)
  have HO5 := Lib.hid (HO4.out.below hbn)
  clear hbn
  go_wp2_with fail
  rw [← HWV5.out]
  refine (HC.out V5).mono ?_
  rintro e w6 ⟨rfl, hb⟩
  have HM6 := Lib.hid (HM5.out.below hb)
  have HR6 := Lib.hid (HR5.out.below hb)
  have HO6 := Lib.hid (HO5.out.below hb)
  have BW6 := Lib.hid (below_trans BW5.out hb BW5.out.size)
  clear hb
  obtain ⟨V7, hW⟩ : ∃ W, W = w6.alloc (.cells #[.int .i64 q1, .int .i64 q2, .int .i64 q3, .int .i64 q4, .int .i64 q5, .string ⟨u1.toArray⟩, .string ⟨u2.toArray⟩, .string ⟨u3.toArray⟩] 23) := ⟨_, rfl⟩
  have hbn : Below w6.heap.size w6 V7 := by rw [hW]; exact (Below.refl _ _).alloc (Nat.le_refl _) _
  have HC7 := Lib.hid (show TBox V7 w6.heap.size 23 #[.int .i64 q1, .int .i64 q2, .int .i64 q3, .int .i64 q4, .int .i64 q5, .string ⟨u1.toArray⟩, .string ⟨u2.toArray⟩, .string ⟨u3.toArray⟩] from by rw [hW]; exact TBox.new _ _ _)
  have HWV7 := Lib.hid hW
  clear hW
  have HM7 := Lib.hid (HM6.out.below hbn)
  have HR7 := Lib.hid (HR6.out.below hbn)
  have HO7 := Lib.hid (HO6.out.below hbn)
  have BW7 := Lib.hid (below_trans BW6.out hbn BW6.out.size)
  clear hbn
  have lt1 := HM6.out.lt
  have lt2 := HR6.out.lt
  have a0 : w6.cell? ⟨w2.heap.size, 0, none⟩ = some (.int .i64 m1) := HM6.out.cell 0
  have a1 : w6.cell? ⟨w2.heap.size, 1, none⟩ = some (.int .i64 m2) := HM6.out.cell 1
  have a2 : w6.cell? ⟨w2.heap.size, 2, none⟩ = some (.int .i64 m3) := HM6.out.cell 2
  have a3 : w6.cell? ⟨w2.heap.size, 3, none⟩ = some (.int .i64 m4) := HM6.out.cell 3
  have a4 : w6.cell? ⟨w2.heap.size, 4, none⟩ = some (.int .i64 m5) := HM6.out.cell 4
  have a5 : w6.cell? ⟨w2.heap.size, 5, none⟩ = some (.int .i64 m6) := HM6.out.cell 5
  have a6 : w6.cell? ⟨w2.heap.size, 6, none⟩ = some (.int .i64 k1) := HM6.out.cell 6
  have a7 : w6.cell? ⟨w2.heap.size, 7, none⟩ = some (.int .i64 k2) := HM6.out.cell 7
  have a8 : w6.cell? ⟨w2.heap.size, 8, none⟩ = some (.int .i64 k3) := HM6.out.cell 8
  have a9 : w6.cell? ⟨w2.heap.size, 9, none⟩ = some (.int .i64 k4) := HM6.out.cell 9
  have a10 : w6.cell? ⟨w2.heap.size, 10, none⟩ = some (.int .i64 k5) := HM6.out.cell 10
  have a11 : w6.cell? ⟨w2.heap.size, 11, none⟩ = some (.string ⟨t1.toArray⟩) := HM6.out.cell 11
  have a12 : w6.cell? ⟨w2.heap.size, 12, none⟩ = some (.string ⟨t2.toArray⟩) := HM6.out.cell 12
  have a13 : w6.cell? ⟨w2.heap.size, 13, none⟩ = some (.string ⟨t3.toArray⟩) := HM6.out.cell 13
  go_wp2_with fail
  rw [← HWV7.out]
  refine (HMs.out _).mono ?_
  rintro e w8 ⟨rfl, hb⟩
  have HO8 := Lib.hid (HO7.out.below hb)
  have BW8 := Lib.hid (below_trans BW7.out hb BW7.out.size)
  clear hb a0 a1 a2 a3 a4 a5 a6 a7 a8 a9 a10 a11 a12 a13
  go_wp2_with fail
  go_ret
  exact ⟨rfl, BW8.out⟩
set_option maxRecDepth 100000 in
set_option maxHeartbeats 16000000 in
theorem walk_011 (w : World) (s : List UInt8) (hs : s.length ≤ 6000) (he : ¬ (takeMsg s).2 = 0) (hf : (takeRsp s).2 = 0) (hg : (takeCall s).2.2 = 0) :
    Calls Try.prog 7 #[.string ⟨s.toArray⟩] w fun e w' => e = .returned (.bool true) ∧ Below w.heap.size w w' := by
  have HM := Lib.hid (fun W => wire_TakeMsg s W (by omega))
  have HR := Lib.hid (fun W => wire_TakeRsp s W (by omega))
  have HC := Lib.hid (fun W => wire_TakeCall s W (by omega))
  unfold RetRsp at HR
  have om := takeMsg_ok s
  have or' := takeRsp_ok s (by omega)
  have oc := takeCall_bds s
  have lr := takeRsp_laid hf
  have lc := (takeCall_laid hg).1
  generalize takeMsg s = x at *
  generalize takeRsp s = y at *
  generalize takeCall s = z at *
  obtain ⟨⟨m1, m2, m3, m4, m5, m6, ⟨k1, k2, k3, k4, k5, t1, t2, t3⟩⟩, er⟩ := x
  obtain ⟨⟨r1, r2, r3, r4, r5, r6, r7, r8, r9, tx, ls⟩, fr⟩ := y
  obtain ⟨⟨q1, q2, q3, q4, q5, u1, u2, u3⟩, rest, gr⟩ := z
  simp only at he hf hg om or' oc
  have hne : (er == 0) = false := by simpa using he
  have hne2 : (er != 0) = true := by simpa using he
  clear he
  simp only at lr
  have HRs := Lib.hid (fun W v hv => wire_Rsp ⟨r1, r2, r3, r4, r5, r6, r7, r8, r9, tx, ls⟩ v W hv or')
  rw [lr] at HRs
  unfold RspV rspCells at HRs
  simp only at HRs
  subst hf
  clear lr
  simp only at lc
  have HCs := Lib.hid (fun W => wire_Call ⟨q1, q2, q3, q4, q5, u1, u2, u3⟩ W (oc.1.mono (by omega)))
  have hcl := callB_len _ _ oc.1 (by omega)
  generalize callB ⟨q1, q2, q3, q4, q5, u1, u2, u3⟩ = B at *
  unfold callV at HCs
  simp only at HCs
  subst hg
  have HL := Lib.hid lc
  clear lc
  have hrl := oc.2
  simp only [RetRsp, rspCells, msgV, msgCells, callV] at HM HR HC
  clear om or' oc
  go_enter Try.func7, Try.ntmps7
  go_wp2_with fail
  refine (law_shown _).mono ?_
  rintro e w1 ⟨rfl, hb⟩
  have BW1 := Lib.hid hb
  clear hb
  go_wp2_with fail
  refine (HM.out w1).mono ?_
  rintro e w2 ⟨rfl, hb⟩
  have BW2 := Lib.hid (below_trans BW1.out hb BW1.out.size)
  clear hb
  obtain ⟨V3, hW⟩ : ∃ W, W = w2.alloc (.cells #[.int .i64 m1, .int .i64 m2, .int .i64 m3, .int .i64 m4, .int .i64 m5, .int .i64 m6, .int .i64 k1, .int .i64 k2, .int .i64 k3, .int .i64 k4, .int .i64 k5, .string ⟨t1.toArray⟩, .string ⟨t2.toArray⟩, .string ⟨t3.toArray⟩] 25) := ⟨_, rfl⟩
  have hbn : Below w2.heap.size w2 V3 := by rw [hW]; exact (Below.refl _ _).alloc (Nat.le_refl _) _
  have HM3 := Lib.hid (show TBox V3 w2.heap.size 25 #[.int .i64 m1, .int .i64 m2, .int .i64 m3, .int .i64 m4, .int .i64 m5, .int .i64 m6, .int .i64 k1, .int .i64 k2, .int .i64 k3, .int .i64 k4, .int .i64 k5, .string ⟨t1.toArray⟩, .string ⟨t2.toArray⟩, .string ⟨t3.toArray⟩] from by rw [hW]; exact TBox.new _ _ _)
  have HWV3 := Lib.hid hW
  clear hW
  have BW3 := Lib.hid (below_trans BW2.out hbn BW2.out.size)
  clear hbn
  go_wp2_with fail
  rw [← HWV3.out]
  refine (HR.out V3).mono ?_
  rintro e w4 ⟨A, cp, rfl, ho, hb⟩
  have HM4 := Lib.hid (HM3.out.below hb)
  have BW4 := Lib.hid (below_trans BW3.out hb BW3.out.size)
  have HO4 := Lib.hid (Row.of_owns ho)
  clear hb ho
  obtain ⟨V5, hW⟩ : ∃ W, W = w4.alloc (.cells #[.int .i64 r1, .int .i64 r2, .int .i64 r3, .int .i64 r4, .int .i64 r5, .int .i64 r6, .int .i64 r7, .int .i64 r8, .int .i64 r9, .string ⟨tx.toArray⟩, .slice A ls.length cp] 31) := ⟨_, rfl⟩
  have hbn : Below w4.heap.size w4 V5 := by rw [hW]; exact (Below.refl _ _).alloc (Nat.le_refl _) _
  have HR5 := Lib.hid (show TBox V5 w4.heap.size 31 #[.int .i64 r1, .int .i64 r2, .int .i64 r3, .int .i64 r4, .int .i64 r5, .int .i64 r6, .int .i64 r7, .int .i64 r8, .int .i64 r9, .string ⟨tx.toArray⟩, .slice A ls.length cp] from by rw [hW]; exact TBox.new _ _ _)
  have HWV5 := Lib.hid hW
  clear hW
  have HM5 := Lib.hid (HM4.out.below hbn)
  have BW5 := Lib.hid (below_trans BW4.out hbn BW4.out.size)
  have HO5 := Lib.hid (HO4.out.below hbn)
  clear hbn
  go_wp2_with fail
  rw [← HWV5.out]
  refine (HC.out V5).mono ?_
  rintro e w6 ⟨rfl, hb⟩
  have HM6 := Lib.hid (HM5.out.below hb)
  have HR6 := Lib.hid (HR5.out.below hb)
  have HO6 := Lib.hid (HO5.out.below hb)
  have BW6 := Lib.hid (below_trans BW5.out hb BW5.out.size)
  clear hb
  obtain ⟨V7, hW⟩ : ∃ W, W = w6.alloc (.cells #[.int .i64 q1, .int .i64 q2, .int .i64 q3, .int .i64 q4, .int .i64 q5, .string ⟨u1.toArray⟩, .string ⟨u2.toArray⟩, .string ⟨u3.toArray⟩] 23) := ⟨_, rfl⟩
  have hbn : Below w6.heap.size w6 V7 := by rw [hW]; exact (Below.refl _ _).alloc (Nat.le_refl _) _
  have HC7 := Lib.hid (show TBox V7 w6.heap.size 23 #[.int .i64 q1, .int .i64 q2, .int .i64 q3, .int .i64 q4, .int .i64 q5, .string ⟨u1.toArray⟩, .string ⟨u2.toArray⟩, .string ⟨u3.toArray⟩] from by rw [hW]; exact TBox.new _ _ _)
  have HWV7 := Lib.hid hW
  clear hW
  have HM7 := Lib.hid (HM6.out.below hbn)
  have HR7 := Lib.hid (HR6.out.below hbn)
  have HO7 := Lib.hid (HO6.out.below hbn)
  have BW7 := Lib.hid (below_trans BW6.out hbn BW6.out.size)
  clear hbn
  have lt1 := HM6.out.lt
  have lt2 := HR6.out.lt
  have d0 : w6.cell? ⟨w4.heap.size, 0, none⟩ = some (.int .i64 r1) := HR6.out.cell 0
  have d1 : w6.cell? ⟨w4.heap.size, 1, none⟩ = some (.int .i64 r2) := HR6.out.cell 1
  have d2 : w6.cell? ⟨w4.heap.size, 2, none⟩ = some (.int .i64 r3) := HR6.out.cell 2
  have d3 : w6.cell? ⟨w4.heap.size, 3, none⟩ = some (.int .i64 r4) := HR6.out.cell 3
  have d4 : w6.cell? ⟨w4.heap.size, 4, none⟩ = some (.int .i64 r5) := HR6.out.cell 4
  have d5 : w6.cell? ⟨w4.heap.size, 5, none⟩ = some (.int .i64 r6) := HR6.out.cell 5
  have d6 : w6.cell? ⟨w4.heap.size, 6, none⟩ = some (.int .i64 r7) := HR6.out.cell 6
  have d7 : w6.cell? ⟨w4.heap.size, 7, none⟩ = some (.int .i64 r8) := HR6.out.cell 7
  have d8 : w6.cell? ⟨w4.heap.size, 8, none⟩ = some (.int .i64 r9) := HR6.out.cell 8
  have d9 : w6.cell? ⟨w4.heap.size, 9, none⟩ = some (.string ⟨tx.toArray⟩) := HR6.out.cell 9
  have d10 : w6.cell? ⟨w4.heap.size, 10, none⟩ = some (.slice A ls.length cp) := HR6.out.cell 10
  go_wp2_with fail
  rw [← HWV7.out]
  refine (HRs.out _ _ ⟨A, cp, rfl, HO7.out⟩).mono ?_
  rintro e w8 ⟨rfl, hb⟩
  have HC7_8 := Lib.hid (HC7.out.below hb)
  have HO8 := Lib.hid (HO7.out.below hb)
  have BW8 := Lib.hid (below_trans BW7.out hb BW7.out.size)
  clear hb d0 d1 d2 d3 d4 d5 d6 d7 d8 d9 d10
  have g0 : w8.cell? ⟨w6.heap.size, 0, none⟩ = some (.int .i64 q1) := HC7_8.out.cell 0
  have g1 : w8.cell? ⟨w6.heap.size, 1, none⟩ = some (.int .i64 q2) := HC7_8.out.cell 1
  have g2 : w8.cell? ⟨w6.heap.size, 2, none⟩ = some (.int .i64 q3) := HC7_8.out.cell 2
  have g3 : w8.cell? ⟨w6.heap.size, 3, none⟩ = some (.int .i64 q4) := HC7_8.out.cell 3
  have g4 : w8.cell? ⟨w6.heap.size, 4, none⟩ = some (.int .i64 q5) := HC7_8.out.cell 4
  have g5 : w8.cell? ⟨w6.heap.size, 5, none⟩ = some (.string ⟨u1.toArray⟩) := HC7_8.out.cell 5
  have g6 : w8.cell? ⟨w6.heap.size, 6, none⟩ = some (.string ⟨u2.toArray⟩) := HC7_8.out.cell 6
  have g7 : w8.cell? ⟨w6.heap.size, 7, none⟩ = some (.string ⟨u3.toArray⟩) := HC7_8.out.cell 7
  have hq : ¬ 9223372036854775807 < B.length + rest.length := by omega
  go_wp2_with fail
  refine (HCs.out _).mono ?_
  rintro e w9 ⟨rfl, hb⟩
  have HO9 := Lib.hid (HO8.out.below hb)
  have BW9 := Lib.hid (below_trans BW8.out hb BW8.out.size)
  clear hb g0 g1 g2 g3 g4 g5 g6 g7
  have hq2 := HL.out
  go_wp2_with fail
  go_ret
  exact ⟨rfl, BW9.out⟩
set_option maxRecDepth 100000 in
set_option maxHeartbeats 16000000 in
theorem walk_010 (w : World) (s : List UInt8) (hs : s.length ≤ 6000) (he : ¬ (takeMsg s).2 = 0) (hf : (takeRsp s).2 = 0) (hg : ¬ (takeCall s).2.2 = 0) :
    Calls Try.prog 7 #[.string ⟨s.toArray⟩] w fun e w' => e = .returned (.bool true) ∧ Below w.heap.size w w' := by
  have HM := Lib.hid (fun W => wire_TakeMsg s W (by omega))
  have HR := Lib.hid (fun W => wire_TakeRsp s W (by omega))
  have HC := Lib.hid (fun W => wire_TakeCall s W (by omega))
  unfold RetRsp at HR
  have om := takeMsg_ok s
  have or' := takeRsp_ok s (by omega)
  have oc := takeCall_bds s
  have lr := takeRsp_laid hf
  generalize takeMsg s = x at *
  generalize takeRsp s = y at *
  generalize takeCall s = z at *
  obtain ⟨⟨m1, m2, m3, m4, m5, m6, ⟨k1, k2, k3, k4, k5, t1, t2, t3⟩⟩, er⟩ := x
  obtain ⟨⟨r1, r2, r3, r4, r5, r6, r7, r8, r9, tx, ls⟩, fr⟩ := y
  obtain ⟨⟨q1, q2, q3, q4, q5, u1, u2, u3⟩, rest, gr⟩ := z
  simp only at he hf hg om or' oc
  have hne : (er == 0) = false := by simpa using he
  have hne2 : (er != 0) = true := by simpa using he
  clear he
  simp only at lr
  have HRs := Lib.hid (fun W v hv => wire_Rsp ⟨r1, r2, r3, r4, r5, r6, r7, r8, r9, tx, ls⟩ v W hv or')
  rw [lr] at HRs
  unfold RspV rspCells at HRs
  simp only at HRs
  subst hf
  clear lr
  have hng : (gr == 0) = false := by simpa using hg
  have hng2 : (gr != 0) = true := by simpa using hg
  clear hg
  have hrl := oc.2
  simp only [RetRsp, rspCells, msgV, msgCells, callV] at HM HR HC
  clear om or' oc
  go_enter Try.func7, Try.ntmps7
  go_wp2_with fail
  refine (law_shown _).mono ?_
  rintro e w1 ⟨rfl, hb⟩
  have BW1 := Lib.hid hb
  clear hb
  go_wp2_with fail
  refine (HM.out w1).mono ?_
  rintro e w2 ⟨rfl, hb⟩
  have BW2 := Lib.hid (below_trans BW1.out hb BW1.out.size)
  clear hb
  obtain ⟨V3, hW⟩ : ∃ W, W = w2.alloc (.cells #[.int .i64 m1, .int .i64 m2, .int .i64 m3, .int .i64 m4, .int .i64 m5, .int .i64 m6, .int .i64 k1, .int .i64 k2, .int .i64 k3, .int .i64 k4, .int .i64 k5, .string ⟨t1.toArray⟩, .string ⟨t2.toArray⟩, .string ⟨t3.toArray⟩] 25) := ⟨_, rfl⟩
  have hbn : Below w2.heap.size w2 V3 := by rw [hW]; exact (Below.refl _ _).alloc (Nat.le_refl _) _
  have HM3 := Lib.hid (show TBox V3 w2.heap.size 25 #[.int .i64 m1, .int .i64 m2, .int .i64 m3, .int .i64 m4, .int .i64 m5, .int .i64 m6, .int .i64 k1, .int .i64 k2, .int .i64 k3, .int .i64 k4, .int .i64 k5, .string ⟨t1.toArray⟩, .string ⟨t2.toArray⟩, .string ⟨t3.toArray⟩] from by rw [hW]; exact TBox.new _ _ _)
  have HWV3 := Lib.hid hW
  clear hW
  have BW3 := Lib.hid (below_trans BW2.out hbn BW2.out.size)
  clear hbn
  go_wp2_with fail
  rw [← HWV3.out]
  refine (HR.out V3).mono ?_
  rintro e w4 ⟨A, cp, rfl, ho, hb⟩
  have HM4 := Lib.hid (HM3.out.below hb)
  have BW4 := Lib.hid (below_trans BW3.out hb BW3.out.size)
  have HO4 := Lib.hid (Row.of_owns ho)
  clear hb ho
  obtain ⟨V5, hW⟩ : ∃ W, W = w4.alloc (.cells #[.int .i64 r1, .int .i64 r2, .int .i64 r3, .int .i64 r4, .int .i64 r5, .int .i64 r6, .int .i64 r7, .int .i64 r8, .int .i64 r9, .string ⟨tx.toArray⟩, .slice A ls.length cp] 31) := ⟨_, rfl⟩
  have hbn : Below w4.heap.size w4 V5 := by rw [hW]; exact (Below.refl _ _).alloc (Nat.le_refl _) _
  have HR5 := Lib.hid (show TBox V5 w4.heap.size 31 #[.int .i64 r1, .int .i64 r2, .int .i64 r3, .int .i64 r4, .int .i64 r5, .int .i64 r6, .int .i64 r7, .int .i64 r8, .int .i64 r9, .string ⟨tx.toArray⟩, .slice A ls.length cp] from by rw [hW]; exact TBox.new _ _ _)
  have HWV5 := Lib.hid hW
  clear hW
  have HM5 := Lib.hid (HM4.out.below hbn)
  have BW5 := Lib.hid (below_trans BW4.out hbn BW4.out.size)
  have HO5 := Lib.hid (HO4.out.below hbn)
  clear hbn
  go_wp2_with fail
  rw [← HWV5.out]
  refine (HC.out V5).mono ?_
  rintro e w6 ⟨rfl, hb⟩
  have HM6 := Lib.hid (HM5.out.below hb)
  have HR6 := Lib.hid (HR5.out.below hb)
  have HO6 := Lib.hid (HO5.out.below hb)
  have BW6 := Lib.hid (below_trans BW5.out hb BW5.out.size)
  clear hb
  obtain ⟨V7, hW⟩ : ∃ W, W = w6.alloc (.cells #[.int .i64 q1, .int .i64 q2, .int .i64 q3, .int .i64 q4, .int .i64 q5, .string ⟨u1.toArray⟩, .string ⟨u2.toArray⟩, .string ⟨u3.toArray⟩] 23) := ⟨_, rfl⟩
  have hbn : Below w6.heap.size w6 V7 := by rw [hW]; exact (Below.refl _ _).alloc (Nat.le_refl _) _
  have HC7 := Lib.hid (show TBox V7 w6.heap.size 23 #[.int .i64 q1, .int .i64 q2, .int .i64 q3, .int .i64 q4, .int .i64 q5, .string ⟨u1.toArray⟩, .string ⟨u2.toArray⟩, .string ⟨u3.toArray⟩] from by rw [hW]; exact TBox.new _ _ _)
  have HWV7 := Lib.hid hW
  clear hW
  have HM7 := Lib.hid (HM6.out.below hbn)
  have HR7 := Lib.hid (HR6.out.below hbn)
  have HO7 := Lib.hid (HO6.out.below hbn)
  have BW7 := Lib.hid (below_trans BW6.out hbn BW6.out.size)
  clear hbn
  have lt1 := HM6.out.lt
  have lt2 := HR6.out.lt
  have d0 : w6.cell? ⟨w4.heap.size, 0, none⟩ = some (.int .i64 r1) := HR6.out.cell 0
  have d1 : w6.cell? ⟨w4.heap.size, 1, none⟩ = some (.int .i64 r2) := HR6.out.cell 1
  have d2 : w6.cell? ⟨w4.heap.size, 2, none⟩ = some (.int .i64 r3) := HR6.out.cell 2
  have d3 : w6.cell? ⟨w4.heap.size, 3, none⟩ = some (.int .i64 r4) := HR6.out.cell 3
  have d4 : w6.cell? ⟨w4.heap.size, 4, none⟩ = some (.int .i64 r5) := HR6.out.cell 4
  have d5 : w6.cell? ⟨w4.heap.size, 5, none⟩ = some (.int .i64 r6) := HR6.out.cell 5
  have d6 : w6.cell? ⟨w4.heap.size, 6, none⟩ = some (.int .i64 r7) := HR6.out.cell 6
  have d7 : w6.cell? ⟨w4.heap.size, 7, none⟩ = some (.int .i64 r8) := HR6.out.cell 7
  have d8 : w6.cell? ⟨w4.heap.size, 8, none⟩ = some (.int .i64 r9) := HR6.out.cell 8
  have d9 : w6.cell? ⟨w4.heap.size, 9, none⟩ = some (.string ⟨tx.toArray⟩) := HR6.out.cell 9
  have d10 : w6.cell? ⟨w4.heap.size, 10, none⟩ = some (.slice A ls.length cp) := HR6.out.cell 10
  go_wp2_with fail
  rw [← HWV7.out]
  refine (HRs.out _ _ ⟨A, cp, rfl, HO7.out⟩).mono ?_
  rintro e w8 ⟨rfl, hb⟩
  have HO8 := Lib.hid (HO7.out.below hb)
  have BW8 := Lib.hid (below_trans BW7.out hb BW7.out.size)
  clear hb d0 d1 d2 d3 d4 d5 d6 d7 d8 d9 d10
  go_wp2_with fail
  go_ret
  exact ⟨rfl, BW8.out⟩
set_option maxRecDepth 100000 in
set_option maxHeartbeats 16000000 in
theorem walk_001 (w : World) (s : List UInt8) (hs : s.length ≤ 6000) (he : ¬ (takeMsg s).2 = 0) (hf : ¬ (takeRsp s).2 = 0) (hg : (takeCall s).2.2 = 0) :
    Calls Try.prog 7 #[.string ⟨s.toArray⟩] w fun e w' => e = .returned (.bool true) ∧ Below w.heap.size w w' := by
  have HM := Lib.hid (fun W => wire_TakeMsg s W (by omega))
  have HR := Lib.hid (fun W => wire_TakeRsp s W (by omega))
  have HC := Lib.hid (fun W => wire_TakeCall s W (by omega))
  unfold RetRsp at HR
  have om := takeMsg_ok s
  have or' := takeRsp_ok s (by omega)
  have oc := takeCall_bds s
  have lc := (takeCall_laid hg).1
  generalize takeMsg s = x at *
  generalize takeRsp s = y at *
  generalize takeCall s = z at *
  obtain ⟨⟨m1, m2, m3, m4, m5, m6, ⟨k1, k2, k3, k4, k5, t1, t2, t3⟩⟩, er⟩ := x
  obtain ⟨⟨r1, r2, r3, r4, r5, r6, r7, r8, r9, tx, ls⟩, fr⟩ := y
  obtain ⟨⟨q1, q2, q3, q4, q5, u1, u2, u3⟩, rest, gr⟩ := z
  simp only at he hf hg om or' oc
  have hne : (er == 0) = false := by simpa using he
  have hne2 : (er != 0) = true := by simpa using he
  clear he
  have hnf : (fr == 0) = false := by simpa using hf
  have hnf2 : (fr != 0) = true := by simpa using hf
  clear hf
  simp only at lc
  have HCs := Lib.hid (fun W => wire_Call ⟨q1, q2, q3, q4, q5, u1, u2, u3⟩ W (oc.1.mono (by omega)))
  have hcl := callB_len _ _ oc.1 (by omega)
  generalize callB ⟨q1, q2, q3, q4, q5, u1, u2, u3⟩ = B at *
  unfold callV at HCs
  simp only at HCs
  subst hg
  have HL := Lib.hid lc
  clear lc
  have hrl := oc.2
  simp only [RetRsp, rspCells, msgV, msgCells, callV] at HM HR HC
  clear om or' oc
  go_enter Try.func7, Try.ntmps7
  go_wp2_with fail
  refine (law_shown _).mono ?_
  rintro e w1 ⟨rfl, hb⟩
  have BW1 := Lib.hid hb
  clear hb
  go_wp2_with fail
  refine (HM.out w1).mono ?_
  rintro e w2 ⟨rfl, hb⟩
  have BW2 := Lib.hid (below_trans BW1.out hb BW1.out.size)
  clear hb
  obtain ⟨V3, hW⟩ : ∃ W, W = w2.alloc (.cells #[.int .i64 m1, .int .i64 m2, .int .i64 m3, .int .i64 m4, .int .i64 m5, .int .i64 m6, .int .i64 k1, .int .i64 k2, .int .i64 k3, .int .i64 k4, .int .i64 k5, .string ⟨t1.toArray⟩, .string ⟨t2.toArray⟩, .string ⟨t3.toArray⟩] 25) := ⟨_, rfl⟩
  have hbn : Below w2.heap.size w2 V3 := by rw [hW]; exact (Below.refl _ _).alloc (Nat.le_refl _) _
  have HM3 := Lib.hid (show TBox V3 w2.heap.size 25 #[.int .i64 m1, .int .i64 m2, .int .i64 m3, .int .i64 m4, .int .i64 m5, .int .i64 m6, .int .i64 k1, .int .i64 k2, .int .i64 k3, .int .i64 k4, .int .i64 k5, .string ⟨t1.toArray⟩, .string ⟨t2.toArray⟩, .string ⟨t3.toArray⟩] from by rw [hW]; exact TBox.new _ _ _)
  have HWV3 := Lib.hid hW
  clear hW
  have BW3 := Lib.hid (below_trans BW2.out hbn BW2.out.size)
  clear hbn
  go_wp2_with fail
  rw [← HWV3.out]
  refine (HR.out V3).mono ?_
  rintro e w4 ⟨A, cp, rfl, ho, hb⟩
  have HM4 := Lib.hid (HM3.out.below hb)
  have BW4 := Lib.hid (below_trans BW3.out hb BW3.out.size)
  have HO4 := Lib.hid (Row.of_owns ho)
  clear hb ho
  obtain ⟨V5, hW⟩ : ∃ W, W = w4.alloc (.cells #[.int .i64 r1, .int .i64 r2, .int .i64 r3, .int .i64 r4, .int .i64 r5, .int .i64 r6, .int .i64 r7, .int .i64 r8, .int .i64 r9, .string ⟨tx.toArray⟩, .slice A ls.length cp] 31) := ⟨_, rfl⟩
  have hbn : Below w4.heap.size w4 V5 := by rw [hW]; exact (Below.refl _ _).alloc (Nat.le_refl _) _
  have HR5 := Lib.hid (show TBox V5 w4.heap.size 31 #[.int .i64 r1, .int .i64 r2, .int .i64 r3, .int .i64 r4, .int .i64 r5, .int .i64 r6, .int .i64 r7, .int .i64 r8, .int .i64 r9, .string ⟨tx.toArray⟩, .slice A ls.length cp] from by rw [hW]; exact TBox.new _ _ _)
  have HWV5 := Lib.hid hW
  clear hW
  have HM5 := Lib.hid (HM4.out.below hbn)
  have BW5 := Lib.hid (below_trans BW4.out hbn BW4.out.size)
  have HO5 := Lib.hid (HO4.out.below hbn)
  clear hbn
  go_wp2_with fail
  rw [← HWV5.out]
  refine (HC.out V5).mono ?_
  rintro e w6 ⟨rfl, hb⟩
  have HM6 := Lib.hid (HM5.out.below hb)
  have HR6 := Lib.hid (HR5.out.below hb)
  have HO6 := Lib.hid (HO5.out.below hb)
  have BW6 := Lib.hid (below_trans BW5.out hb BW5.out.size)
  clear hb
  obtain ⟨V7, hW⟩ : ∃ W, W = w6.alloc (.cells #[.int .i64 q1, .int .i64 q2, .int .i64 q3, .int .i64 q4, .int .i64 q5, .string ⟨u1.toArray⟩, .string ⟨u2.toArray⟩, .string ⟨u3.toArray⟩] 23) := ⟨_, rfl⟩
  have hbn : Below w6.heap.size w6 V7 := by rw [hW]; exact (Below.refl _ _).alloc (Nat.le_refl _) _
  have HC7 := Lib.hid (show TBox V7 w6.heap.size 23 #[.int .i64 q1, .int .i64 q2, .int .i64 q3, .int .i64 q4, .int .i64 q5, .string ⟨u1.toArray⟩, .string ⟨u2.toArray⟩, .string ⟨u3.toArray⟩] from by rw [hW]; exact TBox.new _ _ _)
  have HWV7 := Lib.hid hW
  clear hW
  have HM7 := Lib.hid (HM6.out.below hbn)
  have HR7 := Lib.hid (HR6.out.below hbn)
  have HO7 := Lib.hid (HO6.out.below hbn)
  have BW7 := Lib.hid (below_trans BW6.out hbn BW6.out.size)
  clear hbn
  have lt1 := HM6.out.lt
  have lt2 := HR6.out.lt
  have hq : ¬ 9223372036854775807 < B.length + rest.length := by omega
  go_wp2_with fail
  rw [← HWV7.out]
  refine (HCs.out _).mono ?_
  rintro e w8 ⟨rfl, hb⟩
  have HO8 := Lib.hid (HO7.out.below hb)
  have BW8 := Lib.hid (below_trans BW7.out hb BW7.out.size)
  clear hb 
  have hq2 := HL.out
  go_wp2_with fail
  go_ret
  exact ⟨rfl, BW8.out⟩
set_option maxRecDepth 100000 in
set_option maxHeartbeats 16000000 in
theorem walk_000 (w : World) (s : List UInt8) (hs : s.length ≤ 6000) (he : ¬ (takeMsg s).2 = 0) (hf : ¬ (takeRsp s).2 = 0) (hg : ¬ (takeCall s).2.2 = 0) :
    Calls Try.prog 7 #[.string ⟨s.toArray⟩] w fun e w' => e = .returned (.bool true) ∧ Below w.heap.size w w' := by
  have HM := Lib.hid (fun W => wire_TakeMsg s W (by omega))
  have HR := Lib.hid (fun W => wire_TakeRsp s W (by omega))
  have HC := Lib.hid (fun W => wire_TakeCall s W (by omega))
  unfold RetRsp at HR
  have om := takeMsg_ok s
  have or' := takeRsp_ok s (by omega)
  have oc := takeCall_bds s
  generalize takeMsg s = x at *
  generalize takeRsp s = y at *
  generalize takeCall s = z at *
  obtain ⟨⟨m1, m2, m3, m4, m5, m6, ⟨k1, k2, k3, k4, k5, t1, t2, t3⟩⟩, er⟩ := x
  obtain ⟨⟨r1, r2, r3, r4, r5, r6, r7, r8, r9, tx, ls⟩, fr⟩ := y
  obtain ⟨⟨q1, q2, q3, q4, q5, u1, u2, u3⟩, rest, gr⟩ := z
  simp only at he hf hg om or' oc
  have hne : (er == 0) = false := by simpa using he
  have hne2 : (er != 0) = true := by simpa using he
  clear he
  have hnf : (fr == 0) = false := by simpa using hf
  have hnf2 : (fr != 0) = true := by simpa using hf
  clear hf
  have hng : (gr == 0) = false := by simpa using hg
  have hng2 : (gr != 0) = true := by simpa using hg
  clear hg
  have hrl := oc.2
  simp only [RetRsp, rspCells, msgV, msgCells, callV] at HM HR HC
  clear om or' oc
  go_enter Try.func7, Try.ntmps7
  go_wp2_with fail
  refine (law_shown _).mono ?_
  rintro e w1 ⟨rfl, hb⟩
  have BW1 := Lib.hid hb
  clear hb
  go_wp2_with fail
  refine (HM.out w1).mono ?_
  rintro e w2 ⟨rfl, hb⟩
  have BW2 := Lib.hid (below_trans BW1.out hb BW1.out.size)
  clear hb
  obtain ⟨V3, hW⟩ : ∃ W, W = w2.alloc (.cells #[.int .i64 m1, .int .i64 m2, .int .i64 m3, .int .i64 m4, .int .i64 m5, .int .i64 m6, .int .i64 k1, .int .i64 k2, .int .i64 k3, .int .i64 k4, .int .i64 k5, .string ⟨t1.toArray⟩, .string ⟨t2.toArray⟩, .string ⟨t3.toArray⟩] 25) := ⟨_, rfl⟩
  have hbn : Below w2.heap.size w2 V3 := by rw [hW]; exact (Below.refl _ _).alloc (Nat.le_refl _) _
  have HM3 := Lib.hid (show TBox V3 w2.heap.size 25 #[.int .i64 m1, .int .i64 m2, .int .i64 m3, .int .i64 m4, .int .i64 m5, .int .i64 m6, .int .i64 k1, .int .i64 k2, .int .i64 k3, .int .i64 k4, .int .i64 k5, .string ⟨t1.toArray⟩, .string ⟨t2.toArray⟩, .string ⟨t3.toArray⟩] from by rw [hW]; exact TBox.new _ _ _)
  have HWV3 := Lib.hid hW
  clear hW
  have BW3 := Lib.hid (below_trans BW2.out hbn BW2.out.size)
  clear hbn
  go_wp2_with fail
  rw [← HWV3.out]
  refine (HR.out V3).mono ?_
  rintro e w4 ⟨A, cp, rfl, ho, hb⟩
  have HM4 := Lib.hid (HM3.out.below hb)
  have BW4 := Lib.hid (below_trans BW3.out hb BW3.out.size)
  have HO4 := Lib.hid (Row.of_owns ho)
  clear hb ho
  obtain ⟨V5, hW⟩ : ∃ W, W = w4.alloc (.cells #[.int .i64 r1, .int .i64 r2, .int .i64 r3, .int .i64 r4, .int .i64 r5, .int .i64 r6, .int .i64 r7, .int .i64 r8, .int .i64 r9, .string ⟨tx.toArray⟩, .slice A ls.length cp] 31) := ⟨_, rfl⟩
  have hbn : Below w4.heap.size w4 V5 := by rw [hW]; exact (Below.refl _ _).alloc (Nat.le_refl _) _
  have HR5 := Lib.hid (show TBox V5 w4.heap.size 31 #[.int .i64 r1, .int .i64 r2, .int .i64 r3, .int .i64 r4, .int .i64 r5, .int .i64 r6, .int .i64 r7, .int .i64 r8, .int .i64 r9, .string ⟨tx.toArray⟩, .slice A ls.length cp] from by rw [hW]; exact TBox.new _ _ _)
  have HWV5 := Lib.hid hW
  clear hW
  have HM5 := Lib.hid (HM4.out.below hbn)
  have BW5 := Lib.hid (below_trans BW4.out hbn BW4.out.size)
  have HO5 := Lib.hid (HO4.out.below hbn)
  clear hbn
  go_wp2_with fail
  rw [← HWV5.out]
  refine (HC.out V5).mono ?_
  rintro e w6 ⟨rfl, hb⟩
  have HM6 := Lib.hid (HM5.out.below hb)
  have HR6 := Lib.hid (HR5.out.below hb)
  have HO6 := Lib.hid (HO5.out.below hb)
  have BW6 := Lib.hid (below_trans BW5.out hb BW5.out.size)
  clear hb
  obtain ⟨V7, hW⟩ : ∃ W, W = w6.alloc (.cells #[.int .i64 q1, .int .i64 q2, .int .i64 q3, .int .i64 q4, .int .i64 q5, .string ⟨u1.toArray⟩, .string ⟨u2.toArray⟩, .string ⟨u3.toArray⟩] 23) := ⟨_, rfl⟩
  have hbn : Below w6.heap.size w6 V7 := by rw [hW]; exact (Below.refl _ _).alloc (Nat.le_refl _) _
  have HC7 := Lib.hid (show TBox V7 w6.heap.size 23 #[.int .i64 q1, .int .i64 q2, .int .i64 q3, .int .i64 q4, .int .i64 q5, .string ⟨u1.toArray⟩, .string ⟨u2.toArray⟩, .string ⟨u3.toArray⟩] from by rw [hW]; exact TBox.new _ _ _)
  have HWV7 := Lib.hid hW
  clear hW
  have HM7 := Lib.hid (HM6.out.below hbn)
  have HR7 := Lib.hid (HR6.out.below hbn)
  have HO7 := Lib.hid (HO6.out.below hbn)
  have BW7 := Lib.hid (below_trans BW6.out hbn BW6.out.size)
  clear hbn
  have lt1 := HM6.out.lt
  have lt2 := HR6.out.lt
  go_wp2_with fail
  go_ret
  exact ⟨rfl, BW6.out.alloc BW6.out.size _⟩
set_option maxRecDepth 100000 in
set_option maxHeartbeats 4000000 in
theorem walk (w : World) (s : List UInt8) (hz : s.length ≤ 140737488351232) :
    Calls Try.prog 7 #[.string ⟨s.toArray⟩] w fun e w' => e = .returned (.bool true) ∧ Below w.heap.size w w' := by
  by_cases hs : s.length ≤ 6000
  · by_cases he : (takeMsg s).2 = 0
    · have hf : ¬ (takeRsp s).2 = 0 := fun hf => take_notboth s he hf
      by_cases hg : (takeCall s).2.2 = 0
      · exact walk_101 w s hs he hf hg
      · exact walk_100 w s hs he hf hg
    · by_cases hf : (takeRsp s).2 = 0
      · by_cases hg : (takeCall s).2.2 = 0
        · exact walk_011 w s hs he hf hg
        · exact walk_010 w s hs he hf hg
      · by_cases hg : (takeCall s).2.2 = 0
        · exact walk_001 w s hs he hf hg
        · exact walk_000 w s hs he hf hg
  · go_enter Try.func7, Try.ntmps7
    go_wp2_with fail
    refine (law_shown _).mono ?_
    rintro e w1 ⟨rfl, hb⟩
    have BW1 := Lib.hid hb
    clear hb
    go_wp2_with fail
    go_ret
    exact ⟨rfl, BW1.out⟩
theorem own : ownKnob Try.prog.godebug = none := by kernel_rfl
theorem laidOut : laidOutB Try.prog = true := by kernel_rfl

set_option maxRecDepth 100000 in
set_option maxHeartbeats 1000000 in
theorem lifted (os : Os) (started : os.Started) (H : Type) (enc : TypeId × Value → H) :
    ReturnsInHanded {} Try.checked os 7 .any (Rows.wireOnlySpec.pre6 enc Try.prog Try.f7 Rows.wireOnlyRow.domain false) (Rows.wireOnlySpec.post enc Try.prog Try.f7 false true false false) := by
  refine returnsInHanded_of_change_sized (C := Try.checked) own started (by kernel_rfl) Try.func7
    (ChangeSpec.witness6 (enc := enc) (C := Try.checked) false ⟨#[], #[.string ByteArray.empty], []⟩ 8 (by kernel_rfl) (by kernel_rfl) (by kernel_rfl) (by kernel_rfl)) ?_
  intro W base args ds gs before hval0 hW hcnd hsz0 _
  have hsz : (DataW.weightsEach Try.prog (Try.f7.params.toList ++ []) (ds ++ gs)).all (· ≤ reachBytes) = true := hsz0
  clear hsz0
  have hval : ∀ (j : Nat) t v, Try.f7.params[j]? = some t → args[j]? = some v → Value.okWide Try.prog W .any base t v := hval0
  have hW' := hW
  have hlt := hW.lt
  obtain ⟨p, q, hA0, hV, rfl, hfz, hnd⟩ := hW
  have hA : DataW.TrodAll enc Try.prog W 0 (fun _ => true) true Try.f7.params.toList args.toList ds p := hA0
  rw [Try.params7] at hA hval
  obtain ⟨v0, vs0, d0, ds0, p0, q0, hargs, rfl, rfl, h0, r0⟩ := trodAll_cons hA
  obtain ⟨rfl, rfl, rfl⟩ := trodAll_nil r0
  obtain rfl : args = #[v0] := by cases args; simp_all
  obtain ⟨rfl, rfl⟩ := trodVars_none hV
  obtain ⟨s0, rfl, rfl, rfl, w0⟩ := open_string Try.underlying9 (hval 0 9 v0 rfl rfl) h0
  have z0 : s0.data.toList.length ≤ 140737488351232 := sized_string hsz (j := 0) (t := 9) (by rw [Try.params7]; rfl) rfl
  obtain ⟨a0, rfl⟩ : ∃ l : List UInt8, s0 = ⟨l.toArray⟩ := ⟨s0.data.toList, rfl⟩
  refine (walk W a0 z0).mono fun e W' ⟨he, hg⟩ => ?_
  subst he
  exact ⟨_, rfl, Copyhold.law_post laidOut (by kernel_rfl) (by kernel_rfl) Try.underlying4 rfl rfl rfl rfl hW' hg⟩

theorem over : Rows.wireOnlyRow.holds Try.pinned (OpenSpec.ofChange Rows.wireOnlySpec) :=
  OpenClaim.holds_of_wide 7 Try.f7 rfl rfl rfl rfl rfl rfl rfl ⟨rfl, rfl, rfl, rfl, rfl⟩ rfl rfl rfl rfl rfl (by kernel_rfl) Try.func7 (by kernel_rfl)
    (of_decide_eq_true (by kernel_rfl)) (by unfold Func.isWrapper; first | (rw [if_pos (by decide +kernel)]; kernel_rfl) | (rw [if_neg (by decide +kernel)]; exact ⟨rfl, rfl⟩))
    (fun os started H enc _ => lifted os started H enc)

theorem proved : Rows.WireOnlySaid :=
  over
end Go.Proofs.Ytpojhcpkmpbflaa.wireOnly
