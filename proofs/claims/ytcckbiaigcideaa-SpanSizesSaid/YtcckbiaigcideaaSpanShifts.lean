/- Proved: copyholdlaw03.SpanShifts returns true for every pairs and number, and leaves them as they were: a span that is moved there and back is as it was; it has as many places; what both have moves along. No condition beyond the form's own reach. -/
import Derived.Test.YtcckbiaigcideaaSpanLaw
import Derived.Test.YtcckbiaigcideaaLaw
namespace Go.Proofs.Ytcckbiaigcideaa.spanShifts
open Go.ChangeShapes Go.WideShapes Go.ChangeAt Go.RowKit Copyhold
open Go.ChangeMaps (open_string shut_string)
set_option linter.unusedVariables false

theorem run_complex_eql {P : Program} (w : World) (t : TypeId) (a b c d : Nat) :
    (binOp .eql t (.complex .f64 a b) (.complex .f64 c d)).run P w = .ok (.bool (Op.floatEq .f64 a c && Op.floatEq .f64 b d)) w := by
  simp only [binOp]
  simp [Op.complexOp, Op.Complex.cmp, Op.floatCmp, Op.floatEq, asBool]

theorem fl_self (n : Nat) (h : n < 2 ^ 53) : FloatKind.f64.format.order (fl n) (fl n) = some .eq := by
  rw [fl_order n n h h, Nat.compare_eq_eq.2 rfl]
theorem floatEq_self (n : Nat) (h : n < 2 ^ 53) : Op.floatEq .f64 (fl n) (fl n) = true := by
  unfold Op.floatEq
  rw [fl_self n h]
  rfl

theorem shift_some {a b : Nat} {z : Int} {p : Nat × Nat} (h : shiftD a b z = some p) : (a : Int) + z = p.1 ∧ p.2 = b ∧ p.1 + b ≤ 1099511627776 := by
  unfold shiftD at h
  split at h
  · rename_i hk
    injection h with h
    subst h
    refine ⟨?_, rfl, ?_⟩
    · simp only; omega
    · simp only; omega
  · cases h

theorem both_moved (a b c d : Nat) (z : Int) (p q : Nat) (hp : (a : Int) + z = p) (hq : (c : Int) + z = q) :
    (bothD a b c d = none ∧ bothD p b q d = none) ∨ ∃ u v r, bothD a b c d = some (u, v) ∧ bothD p b q d = some (r, v) ∧ (u : Int) + z = r ∧ u ≤ a + b ∧ v ≤ a + b ∧ r ≤ p + b := by
  by_cases h : max a c < min (a + b) (c + d)
  · have h' : max p q < min (p + b) (q + d) := by omega
    refine .inr ⟨_, _, max p q, if_pos h, ?_, by omega, by omega, by omega, by omega⟩
    unfold bothD
    rw [if_pos h', show min (p + b) (q + d) - max p q = min (a + b) (c + d) - max a c from by omega]
  · exact .inl ⟨if_neg h, if_neg (by omega)⟩

theorem wf_i64 {z : Int} (w : (Lit.int .i64 z).wf = true) : -9223372036854775808 ≤ z ∧ z ≤ 9223372036854775807 := by
  simpa [Lit.wf, IntKind.min, IntKind.max, IntKind.signed, IntKind.bits] using w

set_option maxRecDepth 100000 in
set_option maxHeartbeats 4000000 in
theorem walk (w : World) (a0 : Int) (v0 : (Lit.int .i64 a0).wf = true) (a1 : Int) (v1 : (Lit.int .i64 a1).wf = true) (c0 : Int) (v2 : (Lit.int .i64 c0).wf = true) (c1 : Int) (v3 : (Lit.int .i64 c1).wf = true) (z : Int) (v4 : (Lit.int .i64 z).wf = true) :
    Calls Try.prog 7 #[.agg #[.int .i64 a0, .int .i64 a1], .agg #[.int .i64 c0, .int .i64 c1], .int .i64 z] w fun e w' => e = .returned (.bool true) ∧ Below w.heap.size w w' := by
  obtain ⟨a00, a01⟩ := wf_i64 v0
  obtain ⟨a10, a11⟩ := wf_i64 v1
  obtain ⟨c00, c01⟩ := wf_i64 v2
  obtain ⟨c10, c11⟩ := wf_i64 v3
  obtain ⟨z0, z1⟩ := wf_i64 v4
  clear v0 v1 v2 v3 v4
  have hx := givenD_le a0 a1
  have hy := givenD_le c0 c1
  obtain ⟨a, ha⟩ : ∃ a, a = (givenD a0 a1).1 := ⟨_, rfl⟩
  obtain ⟨b, hb⟩ : ∃ b, b = (givenD a0 a1).2 := ⟨_, rfl⟩
  obtain ⟨c, hc⟩ : ∃ c, c = (givenD c0 c1).1 := ⟨_, rfl⟩
  obtain ⟨d, hd⟩ : ∃ d, d = (givenD c0 c1).2 := ⟨_, rfl⟩
  rw [← ha, ← hb] at hx
  rw [← hc, ← hd] at hy
  have HA := Lib.hid (And.intro ha hb)
  have HC := Lib.hid (And.intro hc hd)
  clear ha hb hc hd
  have hbw : Below w.heap.size w ((w.alloc (.cells #[.int .i64 a0, .int .i64 a1] 22)).alloc (.cells #[.int .i64 c0, .int .i64 c1] 22)) := ((Below.refl _ _).alloc (Nat.le_refl _) _).alloc (by simp) _
  have HB := Lib.hid hbw
  clear hbw
  go_enter Try.func7, Try.ntmps7
  go_wp2_with fail
  refine (law_shown _).mono ?_
  rintro e w1 ⟨rfl, rfl⟩
  go_wp2_with fail
  refine (law_given a0 a1 _ a00 a01 a10 a11).mono ?_
  rintro e w1 ⟨rfl, rfl⟩
  rw [← HA.out.1, ← HA.out.2]
  go_wp2_with fail
  refine (law_given c0 c1 _ c00 c01 c10 c11).mono ?_
  rintro e w1 ⟨rfl, rfl⟩
  rw [← HC.out.1, ← HC.out.2]
  go_wp2_with fail
  refine (span_Shift a b z _ hx z0 z1).mono ?_
  rintro e w1 ⟨rfl, rfl⟩
  cases hs1 : shiftD a b z with
  | none =>
    simp only
    clear hs1
    go_wp2_with fail
    refine (span_Shift c d z _ hy z0 z1).mono ?_
    rintro e w1 ⟨rfl, rfl⟩
    cases hs2 : shiftD c d z with
    | none =>
      simp only
      go_wp2_with fail
      go_ret
      exact ⟨rfl, HB.out⟩
    | some q =>
      simp only
      go_wp2_with fail
      go_ret
      exact ⟨rfl, HB.out⟩
  | some p =>
    obtain ⟨p1, p2⟩ := p
    obtain ⟨e1, e2, e3⟩ := shift_some hs1
    simp only at e1 e2 e3 ⊢
    subst e2
    have HS1 := Lib.hid hs1
    have HE1 := Lib.hid e1
    have zb : -1099511627776 ≤ z ∧ z ≤ 1099511627776 := by omega
    obtain ⟨zb1, zb2⟩ := zb
    clear hs1 e1
    go_wp2_with fail
    refine (span_Shift c d z _ hy z0 z1).mono ?_
    rintro e w1 ⟨rfl, rfl⟩
    cases hs2 : shiftD c d z with
    | none =>
      simp only
      go_wp2_with fail
      go_ret
      exact ⟨rfl, HB.out⟩
    | some q =>
      obtain ⟨q1, q2⟩ := q
      obtain ⟨f1, f2, f3⟩ := shift_some hs2
      simp only at f1 f2 f3 ⊢
      subst f2
      have hback : shiftD p1 p2 (-z) = some (a, p2) := by
        unfold shiftD
        have := HE1.out
        rw [if_pos (by omega), show ((p1 : Int) + -z).toNat = a from by omega]
      have hmv := both_moved a p2 c q2 z p1 q1 HE1.out f1
      have HBK := Lib.hid hback
      have heq := fun W : World => run_complex_eql (P := Try.prog) W 24 (fl a) (fl p2) (fl a) (fl p2)
      rw [floatEq_self a (by omega), floatEq_self p2 (by omega), Bool.and_self] at heq
      have h0z : (0 : Int) - z = -z := by omega
      clear hs2 f1 hback
      go_wp2_with fail
      try rw [h0z]
      refine (span_Shift p1 p2 (-z) _ e3 (by omega) (by omega)).mono ?_
      rintro e w1 ⟨rfl, rfl⟩
      rw [HBK.out]
      simp only
      clear h0z
      go_wp2_with fail
      refine (span_Both a p2 c q2 _ hx hy).mono ?_
      rcases hmv with ⟨hm1, hm2⟩ | ⟨u, v, r, hm1, hm2, hm3, hm4, hm5, hm6⟩
      · have HM2 := Lib.hid hm2
        rw [hm1]
        clear hm1 hm2
        rintro e w1 ⟨rfl, he⟩
        simp only at he
        subst he
        go_wp2_with fail
        refine (span_Both p1 p2 q1 q2 _ e3 f3).mono ?_
        rw [HM2.out]
        rintro e w1 ⟨rfl, he⟩
        simp only at he
        subst he
        go_wp2_with fail
        refine (span_Parts a p2 _ (by omega) (by omega)).mono ?_
        rintro e w1 ⟨rfl, rfl⟩
        go_wp2_with fail
        refine (span_Parts p1 p2 _ (by omega) (by omega)).mono ?_
        rintro e w1 ⟨rfl, rfl⟩
        go_wp2_with fail
        go_ret
        exact ⟨rfl, HB.out⟩
      · have HM2 := Lib.hid hm2
        have hov := fl_self v (by omega)
        have hor := fl_self r (by omega)
        have hadd := fun W : World => run_float_arith (P := Try.prog) W .add 42 .f64 (fl u) (floatOfInt .f64 z) (fl r) (fl_move u z r (by omega) hm3 (by omega))
        rw [hm1]
        clear hm1 hm2 hm3
        rintro e w1 ⟨rfl, he⟩
        simp only at he
        subst he
        go_wp2_with fail
        refine (span_Both p1 p2 q1 q2 _ e3 f3).mono ?_
        rw [HM2.out]
        rintro e w1 ⟨rfl, he⟩
        simp only at he
        subst he
        go_wp2_with fail
        refine (span_Parts a p2 _ (by omega) (by omega)).mono ?_
        rintro e w1 ⟨rfl, rfl⟩
        go_wp2_with fail
        refine (span_Parts p1 p2 _ (by omega) (by omega)).mono ?_
        rintro e w1 ⟨rfl, rfl⟩
        go_wp2_with fail
        go_ret
        exact ⟨rfl, HB.out⟩

theorem own : ownKnob Try.prog.godebug = none := by kernel_rfl
theorem laidOut : laidOutB Try.prog = true := by kernel_rfl

set_option maxRecDepth 100000 in
set_option maxHeartbeats 1000000 in
theorem lifted (os : Os) (started : os.Started) (H : Type) (enc : TypeId × Value → H) :
    ReturnsInHanded {} Try.checked os 7 .any (Rows.spanShiftsSpec.pre6 enc Try.prog Try.f7 Rows.spanShiftsRow.domain false) (Rows.spanShiftsSpec.post enc Try.prog Try.f7 false true false false) := by
  refine returnsInHanded_of_change_sized (C := Try.checked) own started (by kernel_rfl) Try.func7
    (ChangeSpec.witness6 (enc := enc) (C := Try.checked) false ⟨#[], #[.agg #[.int .i64 0, .int .i64 0], .agg #[.int .i64 0, .int .i64 0], .int .i64 0], []⟩ 8 (by kernel_rfl) (by kernel_rfl) (by kernel_rfl) (by kernel_rfl)) ?_
  intro W base args ds gs before hval0 hW hcnd hsz0 _
  have hsz : (DataW.weightsEach Try.prog (Try.f7.params.toList ++ []) (ds ++ gs)).all (· ≤ reachBytes) = true := hsz0
  clear hsz0
  have hval : ∀ (j : Nat) t v, Try.f7.params[j]? = some t → args[j]? = some v → Value.okWide Try.prog W .any base t v := hval0
  have hW' := hW
  have hlt := hW.lt
  obtain ⟨p, q, hA0, hV, rfl, hfz, hnd⟩ := hW
  have hA : DataW.TrodAll enc Try.prog W 0 (fun _ => true) true Try.f7.params.toList args.toList ds p := hA0
  rw [Try.params7] at hA hval
  obtain ⟨v0, vs0, d0, ds0, p0, q0, hargs, rfl, rfl, h0, r0⟩ := trodAll_cons hA
  obtain ⟨v1, vs1, d1, ds1, p1, q1, rfl, rfl, rfl, h1, r1⟩ := trodAll_cons r0
  obtain ⟨v2, vs2, d2, ds2, p2, q2, rfl, rfl, rfl, h2, r2⟩ := trodAll_cons r1
  obtain ⟨rfl, rfl, rfl⟩ := trodAll_nil r2
  obtain rfl : args = #[v0, v1, v2] := by cases args; simp_all
  obtain ⟨rfl, rfl⟩ := trodVars_none hV
  obtain ⟨a0_0, a0_1, rfl, rfl, rfl, w0_0, w0_1⟩ := open_pair Try.underlying22 Try.underlying3 (by kernel_rfl) (by kernel_rfl) (hval 0 22 v0 rfl rfl) h0
  obtain ⟨a1_0, a1_1, rfl, rfl, rfl, w1_0, w1_1⟩ := open_pair Try.underlying22 Try.underlying3 (by kernel_rfl) (by kernel_rfl) (hval 1 22 v1 rfl rfl) h1
  obtain ⟨a2, rfl, rfl, rfl, w2⟩ := open_int Try.underlying3 (hval 2 3 v2 rfl rfl) h2
  refine (walk W a0_0 w0_0 a0_1 w0_1 a1_0 w1_0 a1_1 w1_1 a2 w2).mono fun e W' ⟨he, hg⟩ => ?_
  subst he
  exact ⟨_, rfl, Copyhold.law_post laidOut (by kernel_rfl) (by kernel_rfl) Try.underlying4 rfl rfl rfl rfl hW' hg⟩

theorem over : Rows.spanShiftsRow.holds Try.pinned (OpenSpec.ofChange Rows.spanShiftsSpec) :=
  OpenClaim.holds_of_wide 7 Try.f7 rfl rfl rfl rfl rfl rfl rfl ⟨rfl, rfl, rfl, rfl, rfl⟩ rfl rfl rfl rfl rfl (by kernel_rfl) Try.func7 (by kernel_rfl)
    (of_decide_eq_true (by kernel_rfl)) (by unfold Func.isWrapper; first | (rw [if_pos (by decide +kernel)]; kernel_rfl) | (rw [if_neg (by decide +kernel)]; exact ⟨rfl, rfl⟩))
    (fun os started H enc _ => lifted os started H enc)

theorem proved : Rows.SpanShiftsSaid :=
  over
end Go.Proofs.Ytcckbiaigcideaa.spanShifts
