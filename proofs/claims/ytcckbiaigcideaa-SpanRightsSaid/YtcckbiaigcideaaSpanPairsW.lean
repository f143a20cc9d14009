/- The walk of SpanPairs, case by case. -/
import Derived.Test.YtcckbiaigcideaaSpanRef
import Derived.Test.YtcckbiaigcideaaSpanBothsP
set_option linter.unusedVariables false
namespace Go.Proofs.Ytcckbiaigcideaa.spanPairs
open Go.RowKit Copyhold

theorem eq_zero : Op.floatEq .f64 0 0 = true := by decide +kernel
/-- why two numbers may not be a span's parts -/
noncomputable def errD (a b : Int) : Int := open Classical in if ofOk a b then 0 else 1

theorem of_any (a b : Int) (w : World) (ha1 : -9223372036854775808 ≤ a) (ha2 : a ≤ 9223372036854775807) (hb1 : -9223372036854775808 ≤ b) (hb2 : b ≤ 9223372036854775807) :
    Calls Try.prog 11 #[.int .i64 a, .int .i64 b] w fun e w' => e = .returned (.tuple #[.complex .f64 (fl (givenD a b).1) (fl (givenD a b).2), .int .i64 (errD a b)]) ∧ w = w' := by
  by_cases h : ofOk a b
  · have hg : givenD a b = (a.toNat, b.toNat) := if_pos h
    have he : errD a b = 0 := if_pos h
    rw [hg, he]
    obtain ⟨h1, h2, h3, h4⟩ := id h
    obtain ⟨a, rfl⟩ := Int.eq_ofNat_of_zero_le h1
    obtain ⟨b, rfl⟩ := Int.eq_ofNat_of_zero_le h2
    rw [Int.toNat_natCast, Int.toNat_natCast]
    exact span_Of_ok a b w h
  · have hg : givenD a b = (0, 0) := if_neg h
    have he : errD a b = 1 := if_neg h
    rw [hg, he]
    exact span_Of_bad a b w ha1 ha2 hb1 hb2 h
theorem ref_of_any (a b : Int) (w : World) (ha1 : -9223372036854775808 ≤ a) (ha2 : a ≤ 9223372036854775807) (hb1 : -9223372036854775808 ≤ b) (hb2 : b ≤ 9223372036854775807) :
    Calls Try.prog 12 #[.int .i64 a, .int .i64 b] w fun e w' => e = .returned (.tuple #[.complex .f64 (fl (givenD a b).1) (fl (givenD a b).2), .int .i64 (errD a b)]) ∧ w = w' := by
  by_cases h : ofOk a b
  · have hg : givenD a b = (a.toNat, b.toNat) := if_pos h
    have he : errD a b = 0 := if_pos h
    rw [hg, he]
    obtain ⟨h1, h2, h3, h4⟩ := id h
    obtain ⟨a, rfl⟩ := Int.eq_ofNat_of_zero_le h1
    obtain ⟨b, rfl⟩ := Int.eq_ofNat_of_zero_le h2
    rw [Int.toNat_natCast, Int.toNat_natCast]
    exact ref_Of_ok a b w h
  · have hg : givenD a b = (0, 0) := if_neg h
    have he : errD a b = 1 := if_neg h
    rw [hg, he]
    exact ref_Of_bad a b w ha1 ha2 hb1 hb2 h
theorem errD_range (a b : Int) : 0 ≤ errD a b ∧ errD a b ≤ 1 := by
  unfold errD
  split <;> decide

set_option maxRecDepth 100000 in
set_option maxHeartbeats 4000000 in
theorem walk_nn (w : World) (a0 a1 c0 c1 z : Int) (a00 : -9223372036854775808 ≤ a0) (a01 : a0 ≤ 9223372036854775807) (a10 : -9223372036854775808 ≤ a1) (a11 : a1 ≤ 9223372036854775807) (c00 : -9223372036854775808 ≤ c0) (c01 : c0 ≤ 9223372036854775807) (c10 : -9223372036854775808 ≤ c1) (c11 : c1 ≤ 9223372036854775807) (z0 : -9223372036854775808 ≤ z) (z1 : z ≤ 9223372036854775807)
    (a b c d : Nat) (HA : Hid (a = (givenD a0 a1).1 ∧ b = (givenD a0 a1).2)) (HC : Hid (c = (givenD c0 c1).1 ∧ d = (givenD c0 c1).2)) (hx : a + b ≤ 1099511627776) (hy : c + d ≤ 1099511627776) (HO : Hid (bothD a b c d = none)) (HS : Hid (shiftD a b z = none)) :
    Calls Try.prog 3 #[.agg #[.int .i64 a0, .int .i64 a1], .agg #[.int .i64 c0, .int .i64 c1], .int .i64 z] w fun e w' => e = .returned (.bool true) ∧ Below w.heap.size w w' := by
  have hrl := around_le a b c d hx hy
  obtain ⟨r1, r2, hr⟩ : ∃ r1 r2, aroundD a b c d = (r1, r2) := ⟨_, _, rfl⟩
  have HRR := Lib.hid hr
  rw [hr] at hrl
  simp only at hrl
  clear hr
  obtain ⟨er0, er1⟩ := errD_range a0 a1
  obtain ⟨er, her⟩ : ∃ er, er = errD a0 a1 := ⟨_, rfl⟩
  rw [← her] at er0 er1
  have HER := Lib.hid her
  clear her
  have heq := fun W : World => spanShifts.run_complex_eql (P := Try.prog) W 24 (fl a) (fl b) (fl a) (fl b)
  rw [spanShifts.floatEq_self a (by omega), spanShifts.floatEq_self b (by omega), Bool.and_self] at heq
  have heqr := fun W : World => spanShifts.run_complex_eql (P := Try.prog) W 24 (fl r1) (fl r2) (fl r1) (fl r2)
  rw [spanShifts.floatEq_self r1 (by omega), spanShifts.floatEq_self r2 (by omega), Bool.and_self] at heqr
  have heqz := fun W : World => spanShifts.run_complex_eql (P := Try.prog) W 24 0 0 0 0
  rw [eq_zero, Bool.and_self] at heqz
  have hb0 : Below w.heap.size w ((w.alloc (.cells #[.int .i64 a0, .int .i64 a1] 22)).alloc (.cells #[.int .i64 c0, .int .i64 c1] 22)) := ((Below.refl _ _).alloc (Nat.le_refl _) _).alloc (by simp) _
  have HB0 := Lib.hid hb0
  clear hb0
  go_enter Try.func3, Try.ntmps3
  go_wp2_with fail
  refine (law_shown _).mono ?_
  rintro e w1 ⟨rfl, rfl⟩
  go_wp2_with fail
  refine (of_any a0 a1 _ a00 a01 a10 a11).mono ?_
  rintro e w1 ⟨rfl, rfl⟩
  rw [← HA.out.1, ← HA.out.2, ← HER.out]
  go_wp2_with fail
  refine (ref_of_any a0 a1 _ a00 a01 a10 a11).mono ?_
  rintro e w1 ⟨rfl, rfl⟩
  rw [← HA.out.1, ← HA.out.2, ← HER.out]
  go_wp2_with fail
  refine (law_given a0 a1 _ a00 a01 a10 a11).mono ?_
  rintro e w1 ⟨rfl, rfl⟩
  rw [← HA.out.1, ← HA.out.2]
  go_wp2_with fail
  refine (law_given c0 c1 _ c00 c01 c10 c11).mono ?_
  rintro e w1 ⟨rfl, rfl⟩
  rw [← HC.out.1, ← HC.out.2]
  go_wp2_with fail
  refine (span_Parts a b _ (by omega) (by omega)).mono ?_
  rintro e w1 ⟨rfl, rfl⟩
  go_wp2_with fail
  refine (ref_Parts a b hx _).mono ?_
  rintro e w1 ⟨rfl, rfl⟩
  go_wp2_with fail
  refine (span_Both a b c d _ hx hy).mono ?_
  rw [HO.out]
  rintro e w1 ⟨rfl, he⟩
  simp only at he
  subst he
  go_wp2_with fail
  refine (ref_Both a b c d _ hx hy).mono ?_
  rw [HO.out]
  rintro e w1 ⟨rfl, he⟩
  simp only at he
  subst he
  go_wp2_with fail
  refine (span_Shift a b z _ hx z0 z1).mono ?_
  rw [HS.out]
  rintro e w1 ⟨rfl, rfl⟩
  simp only
  go_wp2_with fail
  refine (ref_Shift a b z _ hx z0 z1).mono ?_
  rw [HS.out]
  rintro e w1 ⟨rfl, rfl⟩
  simp only
  go_wp2_with fail
  refine (span_Around a b c d _ hx hy).mono ?_
  rintro e w4 ⟨rfl, rfl⟩
  rw [HRR.out]
  simp only
  go_wp2_with fail
  refine (ref_Around a b c d _ hx hy).mono ?_
  rintro e w4 ⟨rfl, rfl⟩
  rw [HRR.out]
  simp only
  go_wp2_with fail
  refine (right_fl a b hx _).mono ?_
  rintro e w4 ⟨rfl, rfl⟩
  go_wp2_with fail
  go_ret
  exact ⟨rfl, HB0.out⟩

set_option maxRecDepth 100000 in
set_option maxHeartbeats 4000000 in
theorem walk_ns (w : World) (a0 a1 c0 c1 z : Int) (a00 : -9223372036854775808 ≤ a0) (a01 : a0 ≤ 9223372036854775807) (a10 : -9223372036854775808 ≤ a1) (a11 : a1 ≤ 9223372036854775807) (c00 : -9223372036854775808 ≤ c0) (c01 : c0 ≤ 9223372036854775807) (c10 : -9223372036854775808 ≤ c1) (c11 : c1 ≤ 9223372036854775807) (z0 : -9223372036854775808 ≤ z) (z1 : z ≤ 9223372036854775807)
    (a b c d : Nat) (HA : Hid (a = (givenD a0 a1).1 ∧ b = (givenD a0 a1).2)) (HC : Hid (c = (givenD c0 c1).1 ∧ d = (givenD c0 c1).2)) (hx : a + b ≤ 1099511627776) (hy : c + d ≤ 1099511627776) (HO : Hid (bothD a b c d = none)) (p1 p2 : Nat) (HS : Hid (shiftD a b z = some (p1, p2))) :
    Calls Try.prog 3 #[.agg #[.int .i64 a0, .int .i64 a1], .agg #[.int .i64 c0, .int .i64 c1], .int .i64 z] w fun e w' => e = .returned (.bool true) ∧ Below w.heap.size w w' := by
  have hrl := around_le a b c d hx hy
  obtain ⟨r1, r2, hr⟩ : ∃ r1 r2, aroundD a b c d = (r1, r2) := ⟨_, _, rfl⟩
  have HRR := Lib.hid hr
  rw [hr] at hrl
  simp only at hrl
  clear hr
  obtain ⟨er0, er1⟩ := errD_range a0 a1
  obtain ⟨er, her⟩ : ∃ er, er = errD a0 a1 := ⟨_, rfl⟩
  rw [← her] at er0 er1
  have HER := Lib.hid her
  clear her
  have heq := fun W : World => spanShifts.run_complex_eql (P := Try.prog) W 24 (fl a) (fl b) (fl a) (fl b)
  rw [spanShifts.floatEq_self a (by omega), spanShifts.floatEq_self b (by omega), Bool.and_self] at heq
  have heqr := fun W : World => spanShifts.run_complex_eql (P := Try.prog) W 24 (fl r1) (fl r2) (fl r1) (fl r2)
  rw [spanShifts.floatEq_self r1 (by omega), spanShifts.floatEq_self r2 (by omega), Bool.and_self] at heqr
  have heqz := fun W : World => spanShifts.run_complex_eql (P := Try.prog) W 24 0 0 0 0
  rw [eq_zero, Bool.and_self] at heqz
  have hpl := spanShifts.shift_some HS.out
  simp only at hpl
  have hpl1 : p1 ≤ 1099511627776 := by omega
  have hpl2 : p2 ≤ 1099511627776 := by omega
  have heqs := fun W : World => spanShifts.run_complex_eql (P := Try.prog) W 24 (fl p1) (fl p2) (fl p1) (fl p2)
  rw [spanShifts.floatEq_self p1 (by omega), spanShifts.floatEq_self p2 (by omega), Bool.and_self] at heqs
  clear hpl
  have hb0 : Below w.heap.size w ((w.alloc (.cells #[.int .i64 a0, .int .i64 a1] 22)).alloc (.cells #[.int .i64 c0, .int .i64 c1] 22)) := ((Below.refl _ _).alloc (Nat.le_refl _) _).alloc (by simp) _
  have HB0 := Lib.hid hb0
  clear hb0
  go_enter Try.func3, Try.ntmps3
  go_wp2_with fail
  refine (law_shown _).mono ?_
  rintro e w1 ⟨rfl, rfl⟩
  go_wp2_with fail
  refine (of_any a0 a1 _ a00 a01 a10 a11).mono ?_
  rintro e w1 ⟨rfl, rfl⟩
  rw [← HA.out.1, ← HA.out.2, ← HER.out]
  go_wp2_with fail
  refine (ref_of_any a0 a1 _ a00 a01 a10 a11).mono ?_
  rintro e w1 ⟨rfl, rfl⟩
  rw [← HA.out.1, ← HA.out.2, ← HER.out]
  go_wp2_with fail
  refine (law_given a0 a1 _ a00 a01 a10 a11).mono ?_
  rintro e w1 ⟨rfl, rfl⟩
  rw [← HA.out.1, ← HA.out.2]
  go_wp2_with fail
  refine (law_given c0 c1 _ c00 c01 c10 c11).mono ?_
  rintro e w1 ⟨rfl, rfl⟩
  rw [← HC.out.1, ← HC.out.2]
  go_wp2_with fail
  refine (span_Parts a b _ (by omega) (by omega)).mono ?_
  rintro e w1 ⟨rfl, rfl⟩
  go_wp2_with fail
  refine (ref_Parts a b hx _).mono ?_
  rintro e w1 ⟨rfl, rfl⟩
  go_wp2_with fail
  refine (span_Both a b c d _ hx hy).mono ?_
  rw [HO.out]
  rintro e w1 ⟨rfl, he⟩
  simp only at he
  subst he
  go_wp2_with fail
  refine (ref_Both a b c d _ hx hy).mono ?_
  rw [HO.out]
  rintro e w1 ⟨rfl, he⟩
  simp only at he
  subst he
  go_wp2_with fail
  refine (span_Shift a b z _ hx z0 z1).mono ?_
  rw [HS.out]
  rintro e w1 ⟨rfl, rfl⟩
  simp only
  go_wp2_with fail
  refine (ref_Shift a b z _ hx z0 z1).mono ?_
  rw [HS.out]
  rintro e w1 ⟨rfl, rfl⟩
  simp only
  go_wp2_with fail
  refine (span_Around a b c d _ hx hy).mono ?_
  rintro e w4 ⟨rfl, rfl⟩
  rw [HRR.out]
  simp only
  go_wp2_with fail
  refine (ref_Around a b c d _ hx hy).mono ?_
  rintro e w4 ⟨rfl, rfl⟩
  rw [HRR.out]
  simp only
  go_wp2_with fail
  refine (right_fl a b hx _).mono ?_
  rintro e w4 ⟨rfl, rfl⟩
  go_wp2_with fail
  go_ret
  exact ⟨rfl, HB0.out⟩

set_option maxRecDepth 100000 in
set_option maxHeartbeats 4000000 in
theorem walk_sn (w : World) (a0 a1 c0 c1 z : Int) (a00 : -9223372036854775808 ≤ a0) (a01 : a0 ≤ 9223372036854775807) (a10 : -9223372036854775808 ≤ a1) (a11 : a1 ≤ 9223372036854775807) (c00 : -9223372036854775808 ≤ c0) (c01 : c0 ≤ 9223372036854775807) (c10 : -9223372036854775808 ≤ c1) (c11 : c1 ≤ 9223372036854775807) (z0 : -9223372036854775808 ≤ z) (z1 : z ≤ 9223372036854775807)
    (a b c d : Nat) (HA : Hid (a = (givenD a0 a1).1 ∧ b = (givenD a0 a1).2)) (HC : Hid (c = (givenD c0 c1).1 ∧ d = (givenD c0 c1).2)) (hx : a + b ≤ 1099511627776) (hy : c + d ≤ 1099511627776) (u v : Nat) (HO : Hid (bothD a b c d = some (u, v))) (HS : Hid (shiftD a b z = none)) :
    Calls Try.prog 3 #[.agg #[.int .i64 a0, .int .i64 a1], .agg #[.int .i64 c0, .int .i64 c1], .int .i64 z] w fun e w' => e = .returned (.bool true) ∧ Below w.heap.size w w' := by
  have hrl := around_le a b c d hx hy
  obtain ⟨r1, r2, hr⟩ : ∃ r1 r2, aroundD a b c d = (r1, r2) := ⟨_, _, rfl⟩
  have HRR := Lib.hid hr
  rw [hr] at hrl
  simp only at hrl
  clear hr
  obtain ⟨er0, er1⟩ := errD_range a0 a1
  obtain ⟨er, her⟩ : ∃ er, er = errD a0 a1 := ⟨_, rfl⟩
  rw [← her] at er0 er1
  have HER := Lib.hid her
  clear her
  have heq := fun W : World => spanShifts.run_complex_eql (P := Try.prog) W 24 (fl a) (fl b) (fl a) (fl b)
  rw [spanShifts.floatEq_self a (by omega), spanShifts.floatEq_self b (by omega), Bool.and_self] at heq
  have heqr := fun W : World => spanShifts.run_complex_eql (P := Try.prog) W 24 (fl r1) (fl r2) (fl r1) (fl r2)
  rw [spanShifts.floatEq_self r1 (by omega), spanShifts.floatEq_self r2 (by omega), Bool.and_self] at heqr
  have heqz := fun W : World => spanShifts.run_complex_eql (P := Try.prog) W 24 0 0 0 0
  rw [eq_zero, Bool.and_self] at heqz
  have hul : u + v ≤ 1099511627776 := by have := (both_some a b c d u v 0 HO.out).2; omega
  have heqo := fun W : World => spanShifts.run_complex_eql (P := Try.prog) W 24 (fl u) (fl v) (fl u) (fl v)
  rw [spanShifts.floatEq_self u (by omega), spanShifts.floatEq_self v (by omega), Bool.and_self] at heqo
  have hb0 : Below w.heap.size w ((w.alloc (.cells #[.int .i64 a0, .int .i64 a1] 22)).alloc (.cells #[.int .i64 c0, .int .i64 c1] 22)) := ((Below.refl _ _).alloc (Nat.le_refl _) _).alloc (by simp) _
  have HB0 := Lib.hid hb0
  clear hb0
  go_enter Try.func3, Try.ntmps3
  go_wp2_with fail
  refine (law_shown _).mono ?_
  rintro e w1 ⟨rfl, rfl⟩
  go_wp2_with fail
  refine (of_any a0 a1 _ a00 a01 a10 a11).mono ?_
  rintro e w1 ⟨rfl, rfl⟩
  rw [← HA.out.1, ← HA.out.2, ← HER.out]
  go_wp2_with fail
  refine (ref_of_any a0 a1 _ a00 a01 a10 a11).mono ?_
  rintro e w1 ⟨rfl, rfl⟩
  rw [← HA.out.1, ← HA.out.2, ← HER.out]
  go_wp2_with fail
  refine (law_given a0 a1 _ a00 a01 a10 a11).mono ?_
  rintro e w1 ⟨rfl, rfl⟩
  rw [← HA.out.1, ← HA.out.2]
  go_wp2_with fail
  refine (law_given c0 c1 _ c00 c01 c10 c11).mono ?_
  rintro e w1 ⟨rfl, rfl⟩
  rw [← HC.out.1, ← HC.out.2]
  go_wp2_with fail
  refine (span_Parts a b _ (by omega) (by omega)).mono ?_
  rintro e w1 ⟨rfl, rfl⟩
  go_wp2_with fail
  refine (ref_Parts a b hx _).mono ?_
  rintro e w1 ⟨rfl, rfl⟩
  go_wp2_with fail
  refine (span_Both a b c d _ hx hy).mono ?_
  rw [HO.out]
  rintro e w1 ⟨rfl, he⟩
  simp only at he
  subst he
  go_wp2_with fail
  refine (ref_Both a b c d _ hx hy).mono ?_
  rw [HO.out]
  rintro e w1 ⟨rfl, he⟩
  simp only at he
  subst he
  go_wp2_with fail
  refine (span_Shift a b z _ hx z0 z1).mono ?_
  rw [HS.out]
  rintro e w1 ⟨rfl, rfl⟩
  simp only
  go_wp2_with fail
  refine (ref_Shift a b z _ hx z0 z1).mono ?_
  rw [HS.out]
  rintro e w1 ⟨rfl, rfl⟩
  simp only
  go_wp2_with fail
  refine (span_Around a b c d _ hx hy).mono ?_
  rintro e w4 ⟨rfl, rfl⟩
  rw [HRR.out]
  simp only
  go_wp2_with fail
  refine (ref_Around a b c d _ hx hy).mono ?_
  rintro e w4 ⟨rfl, rfl⟩
  rw [HRR.out]
  simp only
  go_wp2_with fail
  refine (right_fl a b hx _).mono ?_
  rintro e w4 ⟨rfl, rfl⟩
  go_wp2_with fail
  go_ret
  exact ⟨rfl, HB0.out⟩

set_option maxRecDepth 100000 in
set_option maxHeartbeats 4000000 in
theorem walk_ss (w : World) (a0 a1 c0 c1 z : Int) (a00 : -9223372036854775808 ≤ a0) (a01 : a0 ≤ 9223372036854775807) (a10 : -9223372036854775808 ≤ a1) (a11 : a1 ≤ 9223372036854775807) (c00 : -9223372036854775808 ≤ c0) (c01 : c0 ≤ 9223372036854775807) (c10 : -9223372036854775808 ≤ c1) (c11 : c1 ≤ 9223372036854775807) (z0 : -9223372036854775808 ≤ z) (z1 : z ≤ 9223372036854775807)
    (a b c d : Nat) (HA : Hid (a = (givenD a0 a1).1 ∧ b = (givenD a0 a1).2)) (HC : Hid (c = (givenD c0 c1).1 ∧ d = (givenD c0 c1).2)) (hx : a + b ≤ 1099511627776) (hy : c + d ≤ 1099511627776) (u v : Nat) (HO : Hid (bothD a b c d = some (u, v))) (p1 p2 : Nat) (HS : Hid (shiftD a b z = some (p1, p2))) :
    Calls Try.prog 3 #[.agg #[.int .i64 a0, .int .i64 a1], .agg #[.int .i64 c0, .int .i64 c1], .int .i64 z] w fun e w' => e = .returned (.bool true) ∧ Below w.heap.size w w' := by
  have hrl := around_le a b c d hx hy
  obtain ⟨r1, r2, hr⟩ : ∃ r1 r2, aroundD a b c d = (r1, r2) := ⟨_, _, rfl⟩
  have HRR := Lib.hid hr
  rw [hr] at hrl
  simp only at hrl
  clear hr
  obtain ⟨er0, er1⟩ := errD_range a0 a1
  obtain ⟨er, her⟩ : ∃ er, er = errD a0 a1 := ⟨_, rfl⟩
  rw [← her] at er0 er1
  have HER := Lib.hid her
  clear her
  have heq := fun W : World => spanShifts.run_complex_eql (P := Try.prog) W 24 (fl a) (fl b) (fl a) (fl b)
  rw [spanShifts.floatEq_self a (by omega), spanShifts.floatEq_self b (by omega), Bool.and_self] at heq
  have heqr := fun W : World => spanShifts.run_complex_eql (P := Try.prog) W 24 (fl r1) (fl r2) (fl r1) (fl r2)
  rw [spanShifts.floatEq_self r1 (by omega), spanShifts.floatEq_self r2 (by omega), Bool.and_self] at heqr
  have heqz := fun W : World => spanShifts.run_complex_eql (P := Try.prog) W 24 0 0 0 0
  rw [eq_zero, Bool.and_self] at heqz
  have hul : u + v ≤ 1099511627776 := by have := (both_some a b c d u v 0 HO.out).2; omega
  have heqo := fun W : World => spanShifts.run_complex_eql (P := Try.prog) W 24 (fl u) (fl v) (fl u) (fl v)
  rw [spanShifts.floatEq_self u (by omega), spanShifts.floatEq_self v (by omega), Bool.and_self] at heqo
  have hpl := spanShifts.shift_some HS.out
  simp only at hpl
  have hpl1 : p1 ≤ 1099511627776 := by omega
  have hpl2 : p2 ≤ 1099511627776 := by omega
  have heqs := fun W : World => spanShifts.run_complex_eql (P := Try.prog) W 24 (fl p1) (fl p2) (fl p1) (fl p2)
  rw [spanShifts.floatEq_self p1 (by omega), spanShifts.floatEq_self p2 (by omega), Bool.and_self] at heqs
  clear hpl
  have hb0 : Below w.heap.size w ((w.alloc (.cells #[.int .i64 a0, .int .i64 a1] 22)).alloc (.cells #[.int .i64 c0, .int .i64 c1] 22)) := ((Below.refl _ _).alloc (Nat.le_refl _) _).alloc (by simp) _
  have HB0 := Lib.hid hb0
  clear hb0
  go_enter Try.func3, Try.ntmps3
  go_wp2_with fail
  refine (law_shown _).mono ?_
  rintro e w1 ⟨rfl, rfl⟩
  go_wp2_with fail
  refine (of_any a0 a1 _ a00 a01 a10 a11).mono ?_
  rintro e w1 ⟨rfl, rfl⟩
  rw [← HA.out.1, ← HA.out.2, ← HER.out]
  go_wp2_with fail
  refine (ref_of_any a0 a1 _ a00 a01 a10 a11).mono ?_
  rintro e w1 ⟨rfl, rfl⟩
  rw [← HA.out.1, ← HA.out.2, ← HER.out]
  go_wp2_with fail
  refine (law_given a0 a1 _ a00 a01 a10 a11).mono ?_
  rintro e w1 ⟨rfl, rfl⟩
  rw [← HA.out.1, ← HA.out.2]
  go_wp2_with fail
  refine (law_given c0 c1 _ c00 c01 c10 c11).mono ?_
  rintro e w1 ⟨rfl, rfl⟩
  rw [← HC.out.1, ← HC.out.2]
  go_wp2_with fail
  refine (span_Parts a b _ (by omega) (by omega)).mono ?_
  rintro e w1 ⟨rfl, rfl⟩
  go_wp2_with fail
  refine (ref_Parts a b hx _).mono ?_
  rintro e w1 ⟨rfl, rfl⟩
  go_wp2_with fail
  refine (span_Both a b c d _ hx hy).mono ?_
  rw [HO.out]
  rintro e w1 ⟨rfl, he⟩
  simp only at he
  subst he
  go_wp2_with fail
  refine (ref_Both a b c d _ hx hy).mono ?_
  rw [HO.out]
  rintro e w1 ⟨rfl, he⟩
  simp only at he
  subst he
  go_wp2_with fail
  refine (span_Shift a b z _ hx z0 z1).mono ?_
  rw [HS.out]
  rintro e w1 ⟨rfl, rfl⟩
  simp only
  go_wp2_with fail
  refine (ref_Shift a b z _ hx z0 z1).mono ?_
  rw [HS.out]
  rintro e w1 ⟨rfl, rfl⟩
  simp only
  go_wp2_with fail
  refine (span_Around a b c d _ hx hy).mono ?_
  rintro e w4 ⟨rfl, rfl⟩
  rw [HRR.out]
  simp only
  go_wp2_with fail
  refine (ref_Around a b c d _ hx hy).mono ?_
  rintro e w4 ⟨rfl, rfl⟩
  rw [HRR.out]
  simp only
  go_wp2_with fail
  refine (right_fl a b hx _).mono ?_
  rintro e w4 ⟨rfl, rfl⟩
  go_wp2_with fail
  go_ret
  exact ⟨rfl, HB0.out⟩

end Go.Proofs.Ytcckbiaigcideaa.spanPairs
