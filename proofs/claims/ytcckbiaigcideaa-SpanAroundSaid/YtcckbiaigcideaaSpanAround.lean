/- Proved: copyholdlaw03.SpanAround returns true for every pairs, and leaves them as they were: what is around both hangs on no order, if both have places; around itself a span is as it was. No condition beyond the form's own reach. -/
import Derived.Test.YtcckbiaigcideaaSpanRight
import Derived.Test.YtcckbiaigcideaaSpanBothsP
import Derived.Test.YtcckbiaigcideaaSpanShifts
import Derived.Test.YtcckbiaigcideaaLaw
namespace Go.Proofs.Ytcckbiaigcideaa.spanAround
open Go.ChangeShapes Go.WideShapes Go.ChangeAt Go.RowKit Copyhold
open Go.ChangeMaps (open_string shut_string)
set_option linter.unusedVariables false

theorem around_self (a b : Nat) : aroundD a b a b = (a, b) := by
  unfold aroundD
  by_cases h : b = 0
  · rw [if_pos h]
  · rw [if_neg h, if_neg h, Nat.min_self, Nat.max_self, Nat.add_sub_cancel_left]
theorem around_comm (a b c d : Nat) (hb : b ≠ 0) (hd : d ≠ 0) : aroundD c d a b = aroundD a b c d := by
  unfold aroundD
  rw [if_neg hb, if_neg hd, if_neg hd, if_neg hb, Nat.min_comm c a, Nat.max_comm (c + d) (a + b)]

set_option maxRecDepth 100000 in
set_option maxHeartbeats 4000000 in
theorem walk_b0 (w : World) (a0 a1 c0 c1 : Int) (a00 : -9223372036854775808 ≤ a0) (a01 : a0 ≤ 9223372036854775807) (a10 : -9223372036854775808 ≤ a1) (a11 : a1 ≤ 9223372036854775807) (c00 : -9223372036854775808 ≤ c0) (c01 : c0 ≤ 9223372036854775807) (c10 : -9223372036854775808 ≤ c1) (c11 : c1 ≤ 9223372036854775807)
    (a b c d : Nat) (HA : Hid (a = (givenD a0 a1).1 ∧ b = (givenD a0 a1).2)) (HC : Hid (c = (givenD c0 c1).1 ∧ d = (givenD c0 c1).2)) (hx : a + b ≤ 1099511627776) (hy : c + d ≤ 1099511627776) (hb : b = 0) :
    Calls Try.prog 9 #[.agg #[.int .i64 a0, .int .i64 a1], .agg #[.int .i64 c0, .int .i64 c1]] w fun e w' => e = .returned (.bool true) ∧ Below w.heap.size w w' := by
  have HS := Lib.hid (around_self a b)
  have hrl := around_le a b c d hx hy
  obtain ⟨r1, r2, hr⟩ : ∃ r1 r2, aroundD a b c d = (r1, r2) := ⟨_, _, rfl⟩
  have HRR := Lib.hid hr
  rw [hr] at hrl
  simp only at hrl
  clear hr
  have heq := fun W : World => spanShifts.run_complex_eql (P := Try.prog) W 24 (fl a) (fl b) (fl a) (fl b)
  rw [spanShifts.floatEq_self a (by omega), spanShifts.floatEq_self b (by omega), Bool.and_self] at heq
  have hz : FloatKind.f64.format.order (fl b) 0 = some .eq := by rw [hb]; exact order_zz
  clear hb
  have hb0 : Below w.heap.size w ((w.alloc (.cells #[.int .i64 a0, .int .i64 a1] 22)).alloc (.cells #[.int .i64 c0, .int .i64 c1] 22)) := ((Below.refl _ _).alloc (Nat.le_refl _) _).alloc (by simp) _
  have HB0 := Lib.hid hb0
  clear hb0
  go_enter Try.func9, Try.ntmps9
  go_wp2_with fail
  refine (law_shown _).mono ?_
  rintro e w1 ⟨rfl, rfl⟩
  go_wp2_with fail
  refine (law_given a0 a1 _ a00 a01 a10 a11).mono ?_
  rintro e w1 ⟨rfl, rfl⟩
  rw [← HA.out.1, ← HA.out.2]
  go_wp2_with fail
  refine (law_given c0 c1 _ c00 c01 c10 c11).mono ?_
  rintro e w1 ⟨rfl, rfl⟩
  rw [← HC.out.1, ← HC.out.2]
  go_wp2_with fail
  refine (span_Around a b a b _ hx hx).mono ?_
  rintro e w4 ⟨rfl, rfl⟩
  rw [HS.out]
  simp only
  go_wp2_with fail
  refine (span_Around a b c d _ hx hy).mono ?_
  rintro e w4 ⟨rfl, rfl⟩
  rw [HRR.out]
  simp only
  go_wp2_with fail
  refine (right_fl r1 r2 hrl _).mono ?_
  rintro e w4 ⟨rfl, rfl⟩
  go_wp2_with fail
  go_ret
  exact ⟨rfl, HB0.out⟩

set_option maxRecDepth 100000 in
set_option maxHeartbeats 4000000 in
theorem walk_d0 (w : World) (a0 a1 c0 c1 : Int) (a00 : -9223372036854775808 ≤ a0) (a01 : a0 ≤ 9223372036854775807) (a10 : -9223372036854775808 ≤ a1) (a11 : a1 ≤ 9223372036854775807) (c00 : -9223372036854775808 ≤ c0) (c01 : c0 ≤ 9223372036854775807) (c10 : -9223372036854775808 ≤ c1) (c11 : c1 ≤ 9223372036854775807)
    (a b c d : Nat) (HA : Hid (a = (givenD a0 a1).1 ∧ b = (givenD a0 a1).2)) (HC : Hid (c = (givenD c0 c1).1 ∧ d = (givenD c0 c1).2)) (hx : a + b ≤ 1099511627776) (hy : c + d ≤ 1099511627776) (hb : b ≠ 0) (hd : d = 0) :
    Calls Try.prog 9 #[.agg #[.int .i64 a0, .int .i64 a1], .agg #[.int .i64 c0, .int .i64 c1]] w fun e w' => e = .returned (.bool true) ∧ Below w.heap.size w w' := by
  have HS := Lib.hid (around_self a b)
  have hrl := around_le a b c d hx hy
  obtain ⟨r1, r2, hr⟩ : ∃ r1 r2, aroundD a b c d = (r1, r2) := ⟨_, _, rfl⟩
  have HRR := Lib.hid hr
  rw [hr] at hrl
  simp only at hrl
  clear hr
  have heq := fun W : World => spanShifts.run_complex_eql (P := Try.prog) W 24 (fl a) (fl b) (fl a) (fl b)
  rw [spanShifts.floatEq_self a (by omega), spanShifts.floatEq_self b (by omega), Bool.and_self] at heq
  have hz := order_zero b (by omega) hb
  have hz2 : FloatKind.f64.format.order (fl d) 0 = some .eq := by rw [hd]; exact order_zz
  clear hd hb
  have hb0 : Below w.heap.size w ((w.alloc (.cells #[.int .i64 a0, .int .i64 a1] 22)).alloc (.cells #[.int .i64 c0, .int .i64 c1] 22)) := ((Below.refl _ _).alloc (Nat.le_refl _) _).alloc (by simp) _
  have HB0 := Lib.hid hb0
  clear hb0
  go_enter Try.func9, Try.ntmps9
  go_wp2_with fail
  refine (law_shown _).mono ?_
  rintro e w1 ⟨rfl, rfl⟩
  go_wp2_with fail
  refine (law_given a0 a1 _ a00 a01 a10 a11).mono ?_
  rintro e w1 ⟨rfl, rfl⟩
  rw [← HA.out.1, ← HA.out.2]
  go_wp2_with fail
  refine (law_given c0 c1 _ c00 c01 c10 c11).mono ?_
  rintro e w1 ⟨rfl, rfl⟩
  rw [← HC.out.1, ← HC.out.2]
  go_wp2_with fail
  refine (span_Around a b a b _ hx hx).mono ?_
  rintro e w4 ⟨rfl, rfl⟩
  rw [HS.out]
  simp only
  go_wp2_with fail
  refine (span_Around a b c d _ hx hy).mono ?_
  rintro e w4 ⟨rfl, rfl⟩
  rw [HRR.out]
  simp only
  go_wp2_with fail
  refine (right_fl r1 r2 hrl _).mono ?_
  rintro e w4 ⟨rfl, rfl⟩
  go_wp2_with fail
  go_ret
  exact ⟨rfl, HB0.out⟩

set_option maxRecDepth 100000 in
set_option maxHeartbeats 4000000 in
theorem walk_nn (w : World) (a0 a1 c0 c1 : Int) (a00 : -9223372036854775808 ≤ a0) (a01 : a0 ≤ 9223372036854775807) (a10 : -9223372036854775808 ≤ a1) (a11 : a1 ≤ 9223372036854775807) (c00 : -9223372036854775808 ≤ c0) (c01 : c0 ≤ 9223372036854775807) (c10 : -9223372036854775808 ≤ c1) (c11 : c1 ≤ 9223372036854775807)
    (a b c d : Nat) (HA : Hid (a = (givenD a0 a1).1 ∧ b = (givenD a0 a1).2)) (HC : Hid (c = (givenD c0 c1).1 ∧ d = (givenD c0 c1).2)) (hx : a + b ≤ 1099511627776) (hy : c + d ≤ 1099511627776) (hb : b ≠ 0) (hd : d ≠ 0) :
    Calls Try.prog 9 #[.agg #[.int .i64 a0, .int .i64 a1], .agg #[.int .i64 c0, .int .i64 c1]] w fun e w' => e = .returned (.bool true) ∧ Below w.heap.size w w' := by
  have HS := Lib.hid (around_self a b)
  have hrl := around_le a b c d hx hy
  obtain ⟨r1, r2, hr⟩ : ∃ r1 r2, aroundD a b c d = (r1, r2) := ⟨_, _, rfl⟩
  have HRR := Lib.hid hr
  rw [hr] at hrl
  simp only at hrl
  clear hr
  have heq := fun W : World => spanShifts.run_complex_eql (P := Try.prog) W 24 (fl a) (fl b) (fl a) (fl b)
  rw [spanShifts.floatEq_self a (by omega), spanShifts.floatEq_self b (by omega), Bool.and_self] at heq
  have hz := order_zero b (by omega) hb
  have hz2 := order_zero d (by omega) hd
  have HCM := Lib.hid (around_comm a b c d hb hd)
  have heq2 := fun W : World => spanShifts.run_complex_eql (P := Try.prog) W 24 (fl r1) (fl r2) (fl r1) (fl r2)
  rw [spanShifts.floatEq_self r1 (by omega), spanShifts.floatEq_self r2 (by omega), Bool.and_self] at heq2
  have hb0 : Below w.heap.size w ((w.alloc (.cells #[.int .i64 a0, .int .i64 a1] 22)).alloc (.cells #[.int .i64 c0, .int .i64 c1] 22)) := ((Below.refl _ _).alloc (Nat.le_refl _) _).alloc (by simp) _
  have HB0 := Lib.hid hb0
  clear hb0
  go_enter Try.func9, Try.ntmps9
  go_wp2_with fail
  refine (law_shown _).mono ?_
  rintro e w1 ⟨rfl, rfl⟩
  go_wp2_with fail
  refine (law_given a0 a1 _ a00 a01 a10 a11).mono ?_
  rintro e w1 ⟨rfl, rfl⟩
  rw [← HA.out.1, ← HA.out.2]
  go_wp2_with fail
  refine (law_given c0 c1 _ c00 c01 c10 c11).mono ?_
  rintro e w1 ⟨rfl, rfl⟩
  rw [← HC.out.1, ← HC.out.2]
  go_wp2_with fail
  refine (span_Around a b a b _ hx hx).mono ?_
  rintro e w4 ⟨rfl, rfl⟩
  rw [HS.out]
  simp only
  go_wp2_with fail
  refine (span_Around a b c d _ hx hy).mono ?_
  rintro e w4 ⟨rfl, rfl⟩
  rw [HRR.out]
  simp only
  go_wp2_with fail
  refine (span_Around c d a b _ hy hx).mono ?_
  rintro e w4 ⟨rfl, rfl⟩
  rw [HCM.out, HRR.out]
  simp only
  go_wp2_with fail
  refine (span_Around a b c d _ hx hy).mono ?_
  rintro e w4 ⟨rfl, rfl⟩
  rw [HRR.out]
  simp only
  go_wp2_with fail
  refine (right_fl r1 r2 hrl _).mono ?_
  rintro e w4 ⟨rfl, rfl⟩
  go_wp2_with fail
  go_ret
  exact ⟨rfl, HB0.out⟩

theorem walk (w : World) (a0 : Int) (v0 : (Lit.int .i64 a0).wf = true) (a1 : Int) (v1 : (Lit.int .i64 a1).wf = true) (c0 : Int) (v2 : (Lit.int .i64 c0).wf = true) (c1 : Int) (v3 : (Lit.int .i64 c1).wf = true) :
    Calls Try.prog 9 #[.agg #[.int .i64 a0, .int .i64 a1], .agg #[.int .i64 c0, .int .i64 c1]] w fun e w' => e = .returned (.bool true) ∧ Below w.heap.size w w' := by
  obtain ⟨a00, a01⟩ := spanShifts.wf_i64 v0
  obtain ⟨a10, a11⟩ := spanShifts.wf_i64 v1
  obtain ⟨c00, c01⟩ := spanShifts.wf_i64 v2
  obtain ⟨c10, c11⟩ := spanShifts.wf_i64 v3
  have hx := givenD_le a0 a1
  have hy := givenD_le c0 c1
  by_cases hb : (givenD a0 a1).2 = 0
  · exact walk_b0 w a0 a1 c0 c1 a00 a01 a10 a11 c00 c01 c10 c11 _ _ _ _ ⟨rfl, rfl⟩ ⟨rfl, rfl⟩ hx hy hb
  · by_cases hd : (givenD c0 c1).2 = 0
    · exact walk_d0 w a0 a1 c0 c1 a00 a01 a10 a11 c00 c01 c10 c11 _ _ _ _ ⟨rfl, rfl⟩ ⟨rfl, rfl⟩ hx hy hb hd
    · exact walk_nn w a0 a1 c0 c1 a00 a01 a10 a11 c00 c01 c10 c11 _ _ _ _ ⟨rfl, rfl⟩ ⟨rfl, rfl⟩ hx hy hb hd

theorem own : ownKnob Try.prog.godebug = none := by kernel_rfl
theorem laidOut : laidOutB Try.prog = true := by kernel_rfl

set_option maxRecDepth 100000 in
set_option maxHeartbeats 1000000 in
theorem lifted (os : Os) (started : os.Started) (H : Type) (enc : TypeId × Value → H) :
    ReturnsInHanded {} Try.checked os 9 .any (Rows.spanAroundSpec.pre6 enc Try.prog Try.f9 Rows.spanAroundRow.domain false) (Rows.spanAroundSpec.post enc Try.prog Try.f9 false true false false) := by
  refine returnsInHanded_of_change_sized (C := Try.checked) own started (by kernel_rfl) Try.func9
    (ChangeSpec.witness6 (enc := enc) (C := Try.checked) false ⟨#[], #[.agg #[.int .i64 0, .int .i64 0], .agg #[.int .i64 0, .int .i64 0]], []⟩ 8 (by kernel_rfl) (by kernel_rfl) (by kernel_rfl) (by kernel_rfl)) ?_
  intro W base args ds gs before hval0 hW hcnd hsz0 _
  have hsz : (DataW.weightsEach Try.prog (Try.f9.params.toList ++ []) (ds ++ gs)).all (· ≤ reachBytes) = true := hsz0
  clear hsz0
  have hval : ∀ (j : Nat) t v, Try.f9.params[j]? = some t → args[j]? = some v → Value.okWide Try.prog W .any base t v := hval0
  have hW' := hW
  have hlt := hW.lt
  obtain ⟨p, q, hA0, hV, rfl, hfz, hnd⟩ := hW
  have hA : DataW.TrodAll enc Try.prog W 0 (fun _ => true) true Try.f9.params.toList args.toList ds p := hA0
  rw [Try.params9] at hA hval
  obtain ⟨v0, vs0, d0, ds0, p0, q0, hargs, rfl, rfl, h0, r0⟩ := trodAll_cons hA
  obtain ⟨v1, vs1, d1, ds1, p1, q1, rfl, rfl, rfl, h1, r1⟩ := trodAll_cons r0
  obtain ⟨rfl, rfl, rfl⟩ := trodAll_nil r1
  obtain rfl : args = #[v0, v1] := by cases args; simp_all
  obtain ⟨rfl, rfl⟩ := trodVars_none hV
  obtain ⟨a0_0, a0_1, rfl, rfl, rfl, w0_0, w0_1⟩ := open_pair Try.underlying22 Try.underlying3 (by kernel_rfl) (by kernel_rfl) (hval 0 22 v0 rfl rfl) h0
  obtain ⟨a1_0, a1_1, rfl, rfl, rfl, w1_0, w1_1⟩ := open_pair Try.underlying22 Try.underlying3 (by kernel_rfl) (by kernel_rfl) (hval 1 22 v1 rfl rfl) h1
  refine (walk W a0_0 w0_0 a0_1 w0_1 a1_0 w1_0 a1_1 w1_1).mono fun e W' ⟨he, hg⟩ => ?_
  subst he
  exact ⟨_, rfl, Copyhold.law_post laidOut (by kernel_rfl) (by kernel_rfl) Try.underlying4 rfl rfl rfl rfl hW' hg⟩

theorem over : Rows.spanAroundRow.holds Try.pinned (OpenSpec.ofChange Rows.spanAroundSpec) :=
  OpenClaim.holds_of_wide 9 Try.f9 rfl rfl rfl rfl rfl rfl rfl ⟨rfl, rfl, rfl, rfl, rfl⟩ rfl rfl rfl rfl rfl (by kernel_rfl) Try.func9 (by kernel_rfl)
    (of_decide_eq_true (by kernel_rfl)) (by unfold Func.isWrapper; first | (rw [if_pos (by decide +kernel)]; kernel_rfl) | (rw [if_neg (by decide +kernel)]; exact ⟨rfl, rfl⟩))
    (fun os started H enc _ => lifted os started H enc)

theorem proved : Rows.SpanAroundSaid :=
  over
end Go.Proofs.Ytcckbiaigcideaa.spanAround
