/- The walk of SpanBoths, case by case. -/
import Derived.Test.YtcckbiaigcideaaSpanBothsP
import Derived.Test.YtcckbiaigcideaaSpanShifts
set_option linter.unusedVariables false
namespace Go.Proofs.Ytcckbiaigcideaa.spanBoths
open Go.RowKit Copyhold

theorem eq_zero : Op.floatEq .f64 0 0 = true := by decide +kernel

set_option maxRecDepth 100000 in
set_option maxHeartbeats 4000000 in
theorem walk_n10 (w : World) (a0 a1 c0 c1 t : Int) (a00 : -9223372036854775808 ≤ a0) (a01 : a0 ≤ 9223372036854775807) (a10 : -9223372036854775808 ≤ a1) (a11 : a1 ≤ 9223372036854775807) (c00 : -9223372036854775808 ≤ c0) (c01 : c0 ≤ 9223372036854775807) (c10 : -9223372036854775808 ≤ c1) (c11 : c1 ≤ 9223372036854775807)
    (a b c d : Nat) (HA : Hid (a = (givenD a0 a1).1 ∧ b = (givenD a0 a1).2)) (HC : Hid (c = (givenD c0 c1).1 ∧ d = (givenD c0 c1).2)) (hx : a + b ≤ 1099511627776) (hy : c + d ≤ 1099511627776) (HP : Hid (hasOne (a, b) t = true)) (HQ : Hid (hasOne (c, d) t = false)) (HO : Hid (bothD a b c d = none)) :
    Calls Try.prog 6 #[.agg #[.int .i64 a0, .int .i64 a1], .agg #[.int .i64 c0, .int .i64 c1], .int .i64 t] w fun e w' => e = .returned (.bool true) ∧ Below w.heap.size w w' := by
  have HO2 := Lib.hid ((both_comm a b c d).trans HO.out)
  have HR := Lib.hid (around_has a b c d t)
  have hrl := around_le a b c d hx hy
  obtain ⟨r1, r2, hr⟩ : ∃ r1 r2, aroundD a b c d = (r1, r2) := ⟨_, _, rfl⟩
  have HRR := Lib.hid hr
  rw [hr] at hrl
  simp only at hrl
  clear hr
  have heq := fun W : World => spanShifts.run_complex_eql (P := Try.prog) W 24 0 0 0 0
  rw [eq_zero, Bool.and_self] at heq
  have hb0 : Below w.heap.size w ((w.alloc (.cells #[.int .i64 a0, .int .i64 a1] 22)).alloc (.cells #[.int .i64 c0, .int .i64 c1] 22)) := ((Below.refl _ _).alloc (Nat.le_refl _) _).alloc (by simp) _
  have HB0 := Lib.hid hb0
  clear hb0
  go_enter Try.func6, Try.ntmps6
  go_wp2_with fail
  refine (law_shown _).mono ?_
  rintro e w1 ⟨rfl, rfl⟩
  go_wp2_with fail
  refine (law_given a0 a1 _ a00 a01 a10 a11).mono ?_
  rintro e w1 ⟨rfl, rfl⟩
  rw [← HA.out.1, ← HA.out.2]
  go_wp2_with fail
  refine (law_given c0 c1 _ c00 c01 c10 c11).mono ?_
  rintro e w1 ⟨rfl, rfl⟩
  rw [← HC.out.1, ← HC.out.2]
  go_wp2_with fail
  refine (span_Both a b c d _ hx hy).mono ?_
  rw [HO.out]
  rintro e w1 ⟨rfl, he⟩
  simp only at he
  subst he
  go_wp2_with fail
  refine (span_Both c d a b _ hy hx).mono ?_
  rw [HO2.out]
  rintro e w1 ⟨rfl, he⟩
  simp only at he
  subst he
  have HB := HB0
  generalize ((w.alloc (.cells #[.int .i64 a0, .int .i64 a1] 22)).alloc (.cells #[.int .i64 c0, .int .i64 c1] 22)) = W0 at *
  go_wp2_with fail
  refine (has1 a b t _ hx).mono ?_
  rintro e w2 ⟨rfl, hb2⟩
  have HB2 := Lib.hid (below_trans HB.out hb2 HB.out.size)
  rw [HP.out]
  clear hb2
  go_wp2_with fail
  refine (has1 c d t _ hy).mono ?_
  rintro e w3 ⟨rfl, hb3⟩
  have HB3 := Lib.hid (below_trans HB2.out hb3 HB2.out.size)
  rw [HQ.out]
  clear hb3
  go_wp2_with fail
  refine (span_Around a b c d _ hx hy).mono ?_
  rintro e w4 ⟨rfl, rfl⟩
  rw [HRR.out]
  simp only
  go_wp2_with fail
  refine (has2 a b c d t _ hx hy).mono ?_
  rintro e w5 ⟨rfl, hb5⟩
  have HB5 := Lib.hid (below_trans HB3.out hb5 HB3.out.size)
  rw [HP.out, HQ.out]
  rw [show (true || false) = true from rfl]
  clear hb5
  go_wp2_with fail
  refine (has1 r1 r2 t _ hrl).mono ?_
  rintro e w7 ⟨rfl, hb7⟩
  have HB7 := Lib.hid (below_trans HB5.out hb7 HB5.out.size)
  have hfin : hasOne (r1, r2) t = true := by
    have := HR.out
    rw [HP.out, HQ.out, HRR.out] at this
    simpa using this
  rw [hfin]
  clear hb7 hfin
  go_wp2_with fail
  go_ret
  exact ⟨rfl, HB7.out⟩

set_option maxRecDepth 100000 in
set_option maxHeartbeats 4000000 in
theorem walk_n01 (w : World) (a0 a1 c0 c1 t : Int) (a00 : -9223372036854775808 ≤ a0) (a01 : a0 ≤ 9223372036854775807) (a10 : -9223372036854775808 ≤ a1) (a11 : a1 ≤ 9223372036854775807) (c00 : -9223372036854775808 ≤ c0) (c01 : c0 ≤ 9223372036854775807) (c10 : -9223372036854775808 ≤ c1) (c11 : c1 ≤ 9223372036854775807)
    (a b c d : Nat) (HA : Hid (a = (givenD a0 a1).1 ∧ b = (givenD a0 a1).2)) (HC : Hid (c = (givenD c0 c1).1 ∧ d = (givenD c0 c1).2)) (hx : a + b ≤ 1099511627776) (hy : c + d ≤ 1099511627776) (HP : Hid (hasOne (a, b) t = false)) (HQ : Hid (hasOne (c, d) t = true)) (HO : Hid (bothD a b c d = none)) :
    Calls Try.prog 6 #[.agg #[.int .i64 a0, .int .i64 a1], .agg #[.int .i64 c0, .int .i64 c1], .int .i64 t] w fun e w' => e = .returned (.bool true) ∧ Below w.heap.size w w' := by
  have HO2 := Lib.hid ((both_comm a b c d).trans HO.out)
  have HR := Lib.hid (around_has a b c d t)
  have hrl := around_le a b c d hx hy
  obtain ⟨r1, r2, hr⟩ : ∃ r1 r2, aroundD a b c d = (r1, r2) := ⟨_, _, rfl⟩
  have HRR := Lib.hid hr
  rw [hr] at hrl
  simp only at hrl
  clear hr
  have heq := fun W : World => spanShifts.run_complex_eql (P := Try.prog) W 24 0 0 0 0
  rw [eq_zero, Bool.and_self] at heq
  have hb0 : Below w.heap.size w ((w.alloc (.cells #[.int .i64 a0, .int .i64 a1] 22)).alloc (.cells #[.int .i64 c0, .int .i64 c1] 22)) := ((Below.refl _ _).alloc (Nat.le_refl _) _).alloc (by simp) _
  have HB0 := Lib.hid hb0
  clear hb0
  go_enter Try.func6, Try.ntmps6
  go_wp2_with fail
  refine (law_shown _).mono ?_
  rintro e w1 ⟨rfl, rfl⟩
  go_wp2_with fail
  refine (law_given a0 a1 _ a00 a01 a10 a11).mono ?_
  rintro e w1 ⟨rfl, rfl⟩
  rw [← HA.out.1, ← HA.out.2]
  go_wp2_with fail
  refine (law_given c0 c1 _ c00 c01 c10 c11).mono ?_
  rintro e w1 ⟨rfl, rfl⟩
  rw [← HC.out.1, ← HC.out.2]
  go_wp2_with fail
  refine (span_Both a b c d _ hx hy).mono ?_
  rw [HO.out]
  rintro e w1 ⟨rfl, he⟩
  simp only at he
  subst he
  go_wp2_with fail
  refine (span_Both c d a b _ hy hx).mono ?_
  rw [HO2.out]
  rintro e w1 ⟨rfl, he⟩
  simp only at he
  subst he
  have HB := HB0
  generalize ((w.alloc (.cells #[.int .i64 a0, .int .i64 a1] 22)).alloc (.cells #[.int .i64 c0, .int .i64 c1] 22)) = W0 at *
  go_wp2_with fail
  refine (has1 a b t _ hx).mono ?_
  rintro e w2 ⟨rfl, hb2⟩
  have HB2 := Lib.hid (below_trans HB.out hb2 HB.out.size)
  rw [HP.out]
  clear hb2
  go_wp2_with fail
  refine (span_Around a b c d _ hx hy).mono ?_
  rintro e w4 ⟨rfl, rfl⟩
  rw [HRR.out]
  simp only
  go_wp2_with fail
  refine (has2 a b c d t _ hx hy).mono ?_
  rintro e w5 ⟨rfl, hb5⟩
  have HB5 := Lib.hid (below_trans HB2.out hb5 HB2.out.size)
  rw [HP.out, HQ.out]
  rw [show (false || true) = true from rfl]
  clear hb5
  go_wp2_with fail
  refine (has1 r1 r2 t _ hrl).mono ?_
  rintro e w7 ⟨rfl, hb7⟩
  have HB7 := Lib.hid (below_trans HB5.out hb7 HB5.out.size)
  have hfin : hasOne (r1, r2) t = true := by
    have := HR.out
    rw [HP.out, HQ.out, HRR.out] at this
    simpa using this
  rw [hfin]
  clear hb7 hfin
  go_wp2_with fail
  go_ret
  exact ⟨rfl, HB7.out⟩

set_option maxRecDepth 100000 in
set_option maxHeartbeats 4000000 in
theorem walk_n00 (w : World) (a0 a1 c0 c1 t : Int) (a00 : -9223372036854775808 ≤ a0) (a01 : a0 ≤ 9223372036854775807) (a10 : -9223372036854775808 ≤ a1) (a11 : a1 ≤ 9223372036854775807) (c00 : -9223372036854775808 ≤ c0) (c01 : c0 ≤ 9223372036854775807) (c10 : -9223372036854775808 ≤ c1) (c11 : c1 ≤ 9223372036854775807)
    (a b c d : Nat) (HA : Hid (a = (givenD a0 a1).1 ∧ b = (givenD a0 a1).2)) (HC : Hid (c = (givenD c0 c1).1 ∧ d = (givenD c0 c1).2)) (hx : a + b ≤ 1099511627776) (hy : c + d ≤ 1099511627776) (HP : Hid (hasOne (a, b) t = false)) (HQ : Hid (hasOne (c, d) t = false)) (HO : Hid (bothD a b c d = none)) :
    Calls Try.prog 6 #[.agg #[.int .i64 a0, .int .i64 a1], .agg #[.int .i64 c0, .int .i64 c1], .int .i64 t] w fun e w' => e = .returned (.bool true) ∧ Below w.heap.size w w' := by
  have HO2 := Lib.hid ((both_comm a b c d).trans HO.out)
  have HR := Lib.hid (around_has a b c d t)
  have hrl := around_le a b c d hx hy
  obtain ⟨r1, r2, hr⟩ : ∃ r1 r2, aroundD a b c d = (r1, r2) := ⟨_, _, rfl⟩
  have HRR := Lib.hid hr
  rw [hr] at hrl
  simp only at hrl
  clear hr
  have heq := fun W : World => spanShifts.run_complex_eql (P := Try.prog) W 24 0 0 0 0
  rw [eq_zero, Bool.and_self] at heq
  have hb0 : Below w.heap.size w ((w.alloc (.cells #[.int .i64 a0, .int .i64 a1] 22)).alloc (.cells #[.int .i64 c0, .int .i64 c1] 22)) := ((Below.refl _ _).alloc (Nat.le_refl _) _).alloc (by simp) _
  have HB0 := Lib.hid hb0
  clear hb0
  go_enter Try.func6, Try.ntmps6
  go_wp2_with fail
  refine (law_shown _).mono ?_
  rintro e w1 ⟨rfl, rfl⟩
  go_wp2_with fail
  refine (law_given a0 a1 _ a00 a01 a10 a11).mono ?_
  rintro e w1 ⟨rfl, rfl⟩
  rw [← HA.out.1, ← HA.out.2]
  go_wp2_with fail
  refine (law_given c0 c1 _ c00 c01 c10 c11).mono ?_
  rintro e w1 ⟨rfl, rfl⟩
  rw [← HC.out.1, ← HC.out.2]
  go_wp2_with fail
  refine (span_Both a b c d _ hx hy).mono ?_
  rw [HO.out]
  rintro e w1 ⟨rfl, he⟩
  simp only at he
  subst he
  go_wp2_with fail
  refine (span_Both c d a b _ hy hx).mono ?_
  rw [HO2.out]
  rintro e w1 ⟨rfl, he⟩
  simp only at he
  subst he
  have HB := HB0
  generalize ((w.alloc (.cells #[.int .i64 a0, .int .i64 a1] 22)).alloc (.cells #[.int .i64 c0, .int .i64 c1] 22)) = W0 at *
  go_wp2_with fail
  refine (has1 a b t _ hx).mono ?_
  rintro e w2 ⟨rfl, hb2⟩
  have HB2 := Lib.hid (below_trans HB.out hb2 HB.out.size)
  rw [HP.out]
  clear hb2
  go_wp2_with fail
  refine (span_Around a b c d _ hx hy).mono ?_
  rintro e w4 ⟨rfl, rfl⟩
  rw [HRR.out]
  simp only
  go_wp2_with fail
  refine (has2 a b c d t _ hx hy).mono ?_
  rintro e w5 ⟨rfl, hb5⟩
  have HB5 := Lib.hid (below_trans HB2.out hb5 HB2.out.size)
  rw [HP.out, HQ.out]
  rw [show (false || false) = false from rfl]
  clear hb5
  go_wp2_with fail
  go_ret
  exact ⟨rfl, HB5.out⟩

set_option maxRecDepth 100000 in
set_option maxHeartbeats 4000000 in
theorem walk_s11 (w : World) (a0 a1 c0 c1 t : Int) (a00 : -9223372036854775808 ≤ a0) (a01 : a0 ≤ 9223372036854775807) (a10 : -9223372036854775808 ≤ a1) (a11 : a1 ≤ 9223372036854775807) (c00 : -9223372036854775808 ≤ c0) (c01 : c0 ≤ 9223372036854775807) (c10 : -9223372036854775808 ≤ c1) (c11 : c1 ≤ 9223372036854775807)
    (a b c d : Nat) (HA : Hid (a = (givenD a0 a1).1 ∧ b = (givenD a0 a1).2)) (HC : Hid (c = (givenD c0 c1).1 ∧ d = (givenD c0 c1).2)) (hx : a + b ≤ 1099511627776) (hy : c + d ≤ 1099511627776) (HP : Hid (hasOne (a, b) t = true)) (HQ : Hid (hasOne (c, d) t = true)) (u v : Nat) (HO : Hid (bothD a b c d = some (u, v))) :
    Calls Try.prog 6 #[.agg #[.int .i64 a0, .int .i64 a1], .agg #[.int .i64 c0, .int .i64 c1], .int .i64 t] w fun e w' => e = .returned (.bool true) ∧ Below w.heap.size w w' := by
  have HO2 := Lib.hid ((both_comm a b c d).trans HO.out)
  have HR := Lib.hid (around_has a b c d t)
  have hrl := around_le a b c d hx hy
  obtain ⟨r1, r2, hr⟩ : ∃ r1 r2, aroundD a b c d = (r1, r2) := ⟨_, _, rfl⟩
  have HRR := Lib.hid hr
  rw [hr] at hrl
  simp only at hrl
  clear hr
  have hbs := both_some a b c d u v t HO.out
  have HU := Lib.hid hbs.1
  have hul : u + v ≤ 1099511627776 := by have := hbs.2; omega
  have heq := fun W : World => spanShifts.run_complex_eql (P := Try.prog) W 24 (fl u) (fl v) (fl u) (fl v)
  rw [spanShifts.floatEq_self u (by omega), spanShifts.floatEq_self v (by omega), Bool.and_self] at heq
  clear hbs
  have hb0 : Below w.heap.size w ((w.alloc (.cells #[.int .i64 a0, .int .i64 a1] 22)).alloc (.cells #[.int .i64 c0, .int .i64 c1] 22)) := ((Below.refl _ _).alloc (Nat.le_refl _) _).alloc (by simp) _
  have HB0 := Lib.hid hb0
  clear hb0
  go_enter Try.func6, Try.ntmps6
  go_wp2_with fail
  refine (law_shown _).mono ?_
  rintro e w1 ⟨rfl, rfl⟩
  go_wp2_with fail
  refine (law_given a0 a1 _ a00 a01 a10 a11).mono ?_
  rintro e w1 ⟨rfl, rfl⟩
  rw [← HA.out.1, ← HA.out.2]
  go_wp2_with fail
  refine (law_given c0 c1 _ c00 c01 c10 c11).mono ?_
  rintro e w1 ⟨rfl, rfl⟩
  rw [← HC.out.1, ← HC.out.2]
  go_wp2_with fail
  refine (span_Both a b c d _ hx hy).mono ?_
  rw [HO.out]
  rintro e w1 ⟨rfl, he⟩
  simp only at he
  subst he
  go_wp2_with fail
  refine (span_Both c d a b _ hy hx).mono ?_
  rw [HO2.out]
  rintro e w1 ⟨rfl, he⟩
  simp only at he
  subst he
  have HB := HB0
  generalize ((w.alloc (.cells #[.int .i64 a0, .int .i64 a1] 22)).alloc (.cells #[.int .i64 c0, .int .i64 c1] 22)) = W0 at *
  go_wp2_with fail
  refine (has1 a b t _ hx).mono ?_
  rintro e w2 ⟨rfl, hb2⟩
  have HB2 := Lib.hid (below_trans HB.out hb2 HB.out.size)
  rw [HP.out]
  clear hb2
  go_wp2_with fail
  refine (has1 c d t _ hy).mono ?_
  rintro e w3 ⟨rfl, hb3⟩
  have HB3 := Lib.hid (below_trans HB2.out hb3 HB2.out.size)
  rw [HQ.out]
  clear hb3
  go_wp2_with fail
  refine (span_Around a b c d _ hx hy).mono ?_
  rintro e w4 ⟨rfl, rfl⟩
  rw [HRR.out]
  simp only
  go_wp2_with fail
  refine (has2 a b c d t _ hx hy).mono ?_
  rintro e w5 ⟨rfl, hb5⟩
  have HB5 := Lib.hid (below_trans HB3.out hb5 HB3.out.size)
  rw [HP.out, HQ.out]
  rw [show (true || true) = true from rfl]
  clear hb5
  go_wp2_with fail
  refine (has1 u v t _ hul).mono ?_
  rintro e w6 ⟨rfl, hb6⟩
  have HB6 := Lib.hid (below_trans HB5.out hb6 HB5.out.size)
  rw [HU.out, HP.out, HQ.out]
  rw [show (true && true) = true from rfl]
  clear hb6
  go_wp2_with fail
  refine (has1 r1 r2 t _ hrl).mono ?_
  rintro e w7 ⟨rfl, hb7⟩
  have HB7 := Lib.hid (below_trans HB6.out hb7 HB6.out.size)
  have hfin : hasOne (r1, r2) t = true := by
    have := HR.out
    rw [HP.out, HQ.out, HRR.out] at this
    simpa using this
  rw [hfin]
  clear hb7 hfin
  go_wp2_with fail
  go_ret
  exact ⟨rfl, HB7.out⟩

set_option maxRecDepth 100000 in
set_option maxHeartbeats 4000000 in
theorem walk_s10 (w : World) (a0 a1 c0 c1 t : Int) (a00 : -9223372036854775808 ≤ a0) (a01 : a0 ≤ 9223372036854775807) (a10 : -9223372036854775808 ≤ a1) (a11 : a1 ≤ 9223372036854775807) (c00 : -9223372036854775808 ≤ c0) (c01 : c0 ≤ 9223372036854775807) (c10 : -9223372036854775808 ≤ c1) (c11 : c1 ≤ 9223372036854775807)
    (a b c d : Nat) (HA : Hid (a = (givenD a0 a1).1 ∧ b = (givenD a0 a1).2)) (HC : Hid (c = (givenD c0 c1).1 ∧ d = (givenD c0 c1).2)) (hx : a + b ≤ 1099511627776) (hy : c + d ≤ 1099511627776) (HP : Hid (hasOne (a, b) t = true)) (HQ : Hid (hasOne (c, d) t = false)) (u v : Nat) (HO : Hid (bothD a b c d = some (u, v))) :
    Calls Try.prog 6 #[.agg #[.int .i64 a0, .int .i64 a1], .agg #[.int .i64 c0, .int .i64 c1], .int .i64 t] w fun e w' => e = .returned (.bool true) ∧ Below w.heap.size w w' := by
  have HO2 := Lib.hid ((both_comm a b c d).trans HO.out)
  have HR := Lib.hid (around_has a b c d t)
  have hrl := around_le a b c d hx hy
  obtain ⟨r1, r2, hr⟩ : ∃ r1 r2, aroundD a b c d = (r1, r2) := ⟨_, _, rfl⟩
  have HRR := Lib.hid hr
  rw [hr] at hrl
  simp only at hrl
  clear hr
  have hbs := both_some a b c d u v t HO.out
  have HU := Lib.hid hbs.1
  have hul : u + v ≤ 1099511627776 := by have := hbs.2; omega
  have heq := fun W : World => spanShifts.run_complex_eql (P := Try.prog) W 24 (fl u) (fl v) (fl u) (fl v)
  rw [spanShifts.floatEq_self u (by omega), spanShifts.floatEq_self v (by omega), Bool.and_self] at heq
  clear hbs
  have hb0 : Below w.heap.size w ((w.alloc (.cells #[.int .i64 a0, .int .i64 a1] 22)).alloc (.cells #[.int .i64 c0, .int .i64 c1] 22)) := ((Below.refl _ _).alloc (Nat.le_refl _) _).alloc (by simp) _
  have HB0 := Lib.hid hb0
  clear hb0
  go_enter Try.func6, Try.ntmps6
  go_wp2_with fail
  refine (law_shown _).mono ?_
  rintro e w1 ⟨rfl, rfl⟩
  go_wp2_with fail
  refine (law_given a0 a1 _ a00 a01 a10 a11).mono ?_
  rintro e w1 ⟨rfl, rfl⟩
  rw [← HA.out.1, ← HA.out.2]
  go_wp2_with fail
  refine (law_given c0 c1 _ c00 c01 c10 c11).mono ?_
  rintro e w1 ⟨rfl, rfl⟩
  rw [← HC.out.1, ← HC.out.2]
  go_wp2_with fail
  refine (span_Both a b c d _ hx hy).mono ?_
  rw [HO.out]
  rintro e w1 ⟨rfl, he⟩
  simp only at he
  subst he
  go_wp2_with fail
  refine (span_Both c d a b _ hy hx).mono ?_
  rw [HO2.out]
  rintro e w1 ⟨rfl, he⟩
  simp only at he
  subst he
  have HB := HB0
  generalize ((w.alloc (.cells #[.int .i64 a0, .int .i64 a1] 22)).alloc (.cells #[.int .i64 c0, .int .i64 c1] 22)) = W0 at *
  go_wp2_with fail
  refine (has1 a b t _ hx).mono ?_
  rintro e w2 ⟨rfl, hb2⟩
  have HB2 := Lib.hid (below_trans HB.out hb2 HB.out.size)
  rw [HP.out]
  clear hb2
  go_wp2_with fail
  refine (has1 c d t _ hy).mono ?_
  rintro e w3 ⟨rfl, hb3⟩
  have HB3 := Lib.hid (below_trans HB2.out hb3 HB2.out.size)
  rw [HQ.out]
  clear hb3
  go_wp2_with fail
  refine (span_Around a b c d _ hx hy).mono ?_
  rintro e w4 ⟨rfl, rfl⟩
  rw [HRR.out]
  simp only
  go_wp2_with fail
  refine (has2 a b c d t _ hx hy).mono ?_
  rintro e w5 ⟨rfl, hb5⟩
  have HB5 := Lib.hid (below_trans HB3.out hb5 HB3.out.size)
  rw [HP.out, HQ.out]
  rw [show (true || false) = true from rfl]
  clear hb5
  go_wp2_with fail
  refine (has1 u v t _ hul).mono ?_
  rintro e w6 ⟨rfl, hb6⟩
  have HB6 := Lib.hid (below_trans HB5.out hb6 HB5.out.size)
  rw [HU.out, HP.out, HQ.out]
  rw [show (true && false) = false from rfl]
  clear hb6
  go_wp2_with fail
  refine (has1 r1 r2 t _ hrl).mono ?_
  rintro e w7 ⟨rfl, hb7⟩
  have HB7 := Lib.hid (below_trans HB6.out hb7 HB6.out.size)
  have hfin : hasOne (r1, r2) t = true := by
    have := HR.out
    rw [HP.out, HQ.out, HRR.out] at this
    simpa using this
  rw [hfin]
  clear hb7 hfin
  go_wp2_with fail
  go_ret
  exact ⟨rfl, HB7.out⟩

set_option maxRecDepth 100000 in
set_option maxHeartbeats 4000000 in
theorem walk_s01 (w : World) (a0 a1 c0 c1 t : Int) (a00 : -9223372036854775808 ≤ a0) (a01 : a0 ≤ 9223372036854775807) (a10 : -9223372036854775808 ≤ a1) (a11 : a1 ≤ 9223372036854775807) (c00 : -9223372036854775808 ≤ c0) (c01 : c0 ≤ 9223372036854775807) (c10 : -9223372036854775808 ≤ c1) (c11 : c1 ≤ 9223372036854775807)
    (a b c d : Nat) (HA : Hid (a = (givenD a0 a1).1 ∧ b = (givenD a0 a1).2)) (HC : Hid (c = (givenD c0 c1).1 ∧ d = (givenD c0 c1).2)) (hx : a + b ≤ 1099511627776) (hy : c + d ≤ 1099511627776) (HP : Hid (hasOne (a, b) t = false)) (HQ : Hid (hasOne (c, d) t = true)) (u v : Nat) (HO : Hid (bothD a b c d = some (u, v))) :
    Calls Try.prog 6 #[.agg #[.int .i64 a0, .int .i64 a1], .agg #[.int .i64 c0, .int .i64 c1], .int .i64 t] w fun e w' => e = .returned (.bool true) ∧ Below w.heap.size w w' := by
  have HO2 := Lib.hid ((both_comm a b c d).trans HO.out)
  have HR := Lib.hid (around_has a b c d t)
  have hrl := around_le a b c d hx hy
  obtain ⟨r1, r2, hr⟩ : ∃ r1 r2, aroundD a b c d = (r1, r2) := ⟨_, _, rfl⟩
  have HRR := Lib.hid hr
  rw [hr] at hrl
  simp only at hrl
  clear hr
  have hbs := both_some a b c d u v t HO.out
  have HU := Lib.hid hbs.1
  have hul : u + v ≤ 1099511627776 := by have := hbs.2; omega
  have heq := fun W : World => spanShifts.run_complex_eql (P := Try.prog) W 24 (fl u) (fl v) (fl u) (fl v)
  rw [spanShifts.floatEq_self u (by omega), spanShifts.floatEq_self v (by omega), Bool.and_self] at heq
  clear hbs
  have hb0 : Below w.heap.size w ((w.alloc (.cells #[.int .i64 a0, .int .i64 a1] 22)).alloc (.cells #[.int .i64 c0, .int .i64 c1] 22)) := ((Below.refl _ _).alloc (Nat.le_refl _) _).alloc (by simp) _
  have HB0 := Lib.hid hb0
  clear hb0
  go_enter Try.func6, Try.ntmps6
  go_wp2_with fail
  refine (law_shown _).mono ?_
  rintro e w1 ⟨rfl, rfl⟩
  go_wp2_with fail
  refine (law_given a0 a1 _ a00 a01 a10 a11).mono ?_
  rintro e w1 ⟨rfl, rfl⟩
  rw [← HA.out.1, ← HA.out.2]
  go_wp2_with fail
  refine (law_given c0 c1 _ c00 c01 c10 c11).mono ?_
  rintro e w1 ⟨rfl, rfl⟩
  rw [← HC.out.1, ← HC.out.2]
  go_wp2_with fail
  refine (span_Both a b c d _ hx hy).mono ?_
  rw [HO.out]
  rintro e w1 ⟨rfl, he⟩
  simp only at he
  subst he
  go_wp2_with fail
  refine (span_Both c d a b _ hy hx).mono ?_
  rw [HO2.out]
  rintro e w1 ⟨rfl, he⟩
  simp only at he
  subst he
  have HB := HB0
  generalize ((w.alloc (.cells #[.int .i64 a0, .int .i64 a1] 22)).alloc (.cells #[.int .i64 c0, .int .i64 c1] 22)) = W0 at *
  go_wp2_with fail
  refine (has1 a b t _ hx).mono ?_
  rintro e w2 ⟨rfl, hb2⟩
  have HB2 := Lib.hid (below_trans HB.out hb2 HB.out.size)
  rw [HP.out]
  clear hb2
  go_wp2_with fail
  refine (span_Around a b c d _ hx hy).mono ?_
  rintro e w4 ⟨rfl, rfl⟩
  rw [HRR.out]
  simp only
  go_wp2_with fail
  refine (has2 a b c d t _ hx hy).mono ?_
  rintro e w5 ⟨rfl, hb5⟩
  have HB5 := Lib.hid (below_trans HB2.out hb5 HB2.out.size)
  rw [HP.out, HQ.out]
  rw [show (false || true) = true from rfl]
  clear hb5
  go_wp2_with fail
  refine (has1 u v t _ hul).mono ?_
  rintro e w6 ⟨rfl, hb6⟩
  have HB6 := Lib.hid (below_trans HB5.out hb6 HB5.out.size)
  rw [HU.out, HP.out, HQ.out]
  rw [show (false && true) = false from rfl]
  clear hb6
  go_wp2_with fail
  refine (has1 r1 r2 t _ hrl).mono ?_
  rintro e w7 ⟨rfl, hb7⟩
  have HB7 := Lib.hid (below_trans HB6.out hb7 HB6.out.size)
  have hfin : hasOne (r1, r2) t = true := by
    have := HR.out
    rw [HP.out, HQ.out, HRR.out] at this
    simpa using this
  rw [hfin]
  clear hb7 hfin
  go_wp2_with fail
  go_ret
  exact ⟨rfl, HB7.out⟩

set_option maxRecDepth 100000 in
set_option maxHeartbeats 4000000 in
theorem walk_s00 (w : World) (a0 a1 c0 c1 t : Int) (a00 : -9223372036854775808 ≤ a0) (a01 : a0 ≤ 9223372036854775807) (a10 : -9223372036854775808 ≤ a1) (a11 : a1 ≤ 9223372036854775807) (c00 : -9223372036854775808 ≤ c0) (c01 : c0 ≤ 9223372036854775807) (c10 : -9223372036854775808 ≤ c1) (c11 : c1 ≤ 9223372036854775807)
    (a b c d : Nat) (HA : Hid (a = (givenD a0 a1).1 ∧ b = (givenD a0 a1).2)) (HC : Hid (c = (givenD c0 c1).1 ∧ d = (givenD c0 c1).2)) (hx : a + b ≤ 1099511627776) (hy : c + d ≤ 1099511627776) (HP : Hid (hasOne (a, b) t = false)) (HQ : Hid (hasOne (c, d) t = false)) (u v : Nat) (HO : Hid (bothD a b c d = some (u, v))) :
    Calls Try.prog 6 #[.agg #[.int .i64 a0, .int .i64 a1], .agg #[.int .i64 c0, .int .i64 c1], .int .i64 t] w fun e w' => e = .returned (.bool true) ∧ Below w.heap.size w w' := by
  have HO2 := Lib.hid ((both_comm a b c d).trans HO.out)
  have HR := Lib.hid (around_has a b c d t)
  have hrl := around_le a b c d hx hy
  obtain ⟨r1, r2, hr⟩ : ∃ r1 r2, aroundD a b c d = (r1, r2) := ⟨_, _, rfl⟩
  have HRR := Lib.hid hr
  rw [hr] at hrl
  simp only at hrl
  clear hr
  have hbs := both_some a b c d u v t HO.out
  have HU := Lib.hid hbs.1
  have hul : u + v ≤ 1099511627776 := by have := hbs.2; omega
  have heq := fun W : World => spanShifts.run_complex_eql (P := Try.prog) W 24 (fl u) (fl v) (fl u) (fl v)
  rw [spanShifts.floatEq_self u (by omega), spanShifts.floatEq_self v (by omega), Bool.and_self] at heq
  clear hbs
  have hb0 : Below w.heap.size w ((w.alloc (.cells #[.int .i64 a0, .int .i64 a1] 22)).alloc (.cells #[.int .i64 c0, .int .i64 c1] 22)) := ((Below.refl _ _).alloc (Nat.le_refl _) _).alloc (by simp) _
  have HB0 := Lib.hid hb0
  clear hb0
  go_enter Try.func6, Try.ntmps6
  go_wp2_with fail
  refine (law_shown _).mono ?_
  rintro e w1 ⟨rfl, rfl⟩
  go_wp2_with fail
  refine (law_given a0 a1 _ a00 a01 a10 a11).mono ?_
  rintro e w1 ⟨rfl, rfl⟩
  rw [← HA.out.1, ← HA.out.2]
  go_wp2_with fail
  refine (law_given c0 c1 _ c00 c01 c10 c11).mono ?_
  rintro e w1 ⟨rfl, rfl⟩
  rw [← HC.out.1, ← HC.out.2]
  go_wp2_with fail
  refine (span_Both a b c d _ hx hy).mono ?_
  rw [HO.out]
  rintro e w1 ⟨rfl, he⟩
  simp only at he
  subst he
  go_wp2_with fail
  refine (span_Both c d a b _ hy hx).mono ?_
  rw [HO2.out]
  rintro e w1 ⟨rfl, he⟩
  simp only at he
  subst he
  have HB := HB0
  generalize ((w.alloc (.cells #[.int .i64 a0, .int .i64 a1] 22)).alloc (.cells #[.int .i64 c0, .int .i64 c1] 22)) = W0 at *
  go_wp2_with fail
  refine (has1 a b t _ hx).mono ?_
  rintro e w2 ⟨rfl, hb2⟩
  have HB2 := Lib.hid (below_trans HB.out hb2 HB.out.size)
  rw [HP.out]
  clear hb2
  go_wp2_with fail
  refine (span_Around a b c d _ hx hy).mono ?_
  rintro e w4 ⟨rfl, rfl⟩
  rw [HRR.out]
  simp only
  go_wp2_with fail
  refine (has2 a b c d t _ hx hy).mono ?_
  rintro e w5 ⟨rfl, hb5⟩
  have HB5 := Lib.hid (below_trans HB2.out hb5 HB2.out.size)
  rw [HP.out, HQ.out]
  rw [show (false || false) = false from rfl]
  clear hb5
  go_wp2_with fail
  refine (has1 u v t _ hul).mono ?_
  rintro e w6 ⟨rfl, hb6⟩
  have HB6 := Lib.hid (below_trans HB5.out hb6 HB5.out.size)
  rw [HU.out, HP.out, HQ.out]
  rw [show (false && false) = false from rfl]
  clear hb6
  go_wp2_with fail
  go_ret
  exact ⟨rfl, HB6.out⟩

end Go.Proofs.Ytcckbiaigcideaa.spanBoths
