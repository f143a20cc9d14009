/- Proved: copyholdlaw03.SpanRights returns true for every four whole numbers, and leaves them as they were: which complex numbers are spans is as the document says, whatever the quotients of the numbers are (no number, without end, noughts below 0, too). No condition beyond the form's own reach. -/
import Derived.Test.YtcckbiaigcideaaSpanAnyW
import Derived.Test.YtcckbiaigcideaaSpanPairsW
import Derived.Test.YtcckbiaigcideaaLaw
namespace Go.Proofs.Ytcckbiaigcideaa.spanRights
open Go.ChangeShapes Go.WideShapes Go.ChangeAt Go.RowKit Copyhold
open Go.ChangeMaps (open_string shut_string)
set_option linter.unusedVariables false

set_option maxRecDepth 100000 in
set_option maxHeartbeats 4000000 in
theorem walk (w : World) (a : Int) (va : (Lit.int .i64 a).wf = true) (b : Int) (vb : (Lit.int .i64 b).wf = true) (c : Int) (vc : (Lit.int .i64 c).wf = true) (d : Int) (vd : (Lit.int .i64 d).wf = true) :
    Calls Try.prog 4 #[.agg #[.int .i64 a, .int .i64 b, .int .i64 c, .int .i64 d]] w fun e w' => e = .returned (.bool true) ∧ Below w.heap.size w w' := by
  have hb0 : Below w.heap.size w (w.alloc (.cells #[.int .i64 a, .int .i64 b, .int .i64 c, .int .i64 d] 41)) := (Below.refl _ _).alloc (Nat.le_refl _) _
  obtain ⟨x, W1, hx, h1, hq1⟩ := quo_any (floatOfInt .f64 a) (floatOfInt .f64 b) (w.alloc (.cells #[.int .i64 a, .int .i64 b, .int .i64 c, .int .i64 d] 41))
  obtain ⟨y, W2, hy, h2, hq2⟩ := quo_any (floatOfInt .f64 c) (floatOfInt .f64 d) W1
  obtain ⟨r, hR, hr⟩ := right_told x y hx hy
  obtain ⟨s, hS, hs⟩ := right_told y x hy hx
  have hb2 : Below w.heap.size w W2 := by
    rcases h1 with rfl | rfl <;> rcases h2 with rfl | rfl
    · exact hb0
    · exact below_drewN hb0 1
    · exact below_drewN hb0 1
    · exact below_drewN hb0 2
  have HB := Lib.hid hb2
  clear hb0 hb2 hx hy
  have HR := Lib.hid hR
  have Hr := Lib.hid hr
  have HS := Lib.hid hS
  have Hs := Lib.hid hs
  clear hR hr hS hs
  rcases h1 with rfl | rfl <;> rcases h2 with rfl | rfl
  all_goals
    go_enter Try.func4, Try.ntmps4
    go_wp2_with fail
    refine (law_shown _).mono ?_
    rintro e w1 ⟨rfl, rfl⟩
    go_wp2_with fail
    refine (HR.out _).mono ?_
    rintro e w1 ⟨rfl, rfl⟩
    go_wp2_with fail
    refine (Hr.out _).mono ?_
    rintro e w1 ⟨rfl, rfl⟩
    go_wp2_with fail
    refine (HS.out _).mono ?_
    rintro e w1 ⟨rfl, rfl⟩
    go_wp2_with fail
    refine (Hs.out _).mono ?_
    rintro e w1 ⟨rfl, rfl⟩
    go_wp2_with fail
    go_ret
    exact ⟨by simp, HB.out⟩
theorem own : ownKnob Try.prog.godebug = none := by kernel_rfl
theorem laidOut : laidOutB Try.prog = true := by kernel_rfl
theorem cellscopyhold_copyholdlaw03_SpanRightsIn : Try.prog.cellsOf 41 = 4 := by kernel_rfl
theorem cellsint : Try.prog.cellsOf 3 = 1 := by kernel_rfl

set_option maxRecDepth 100000 in
set_option maxHeartbeats 1000000 in
theorem lifted (os : Os) (started : os.Started) (H : Type) (enc : TypeId × Value → H) :
    ReturnsInHanded {} Try.checked os 4 .any (Rows.spanRightsSpec.pre6 enc Try.prog Try.f4 Rows.spanRightsRow.domain false) (Rows.spanRightsSpec.post enc Try.prog Try.f4 false true false false) := by
  refine returnsInHanded_of_change_sized (C := Try.checked) own started (by kernel_rfl) Try.func4
    (ChangeSpec.witness6 (enc := enc) (C := Try.checked) false ⟨#[], #[.agg #[.int .i64 0, .int .i64 0, .int .i64 0, .int .i64 0]], []⟩ 8 (by kernel_rfl) (by kernel_rfl) (by kernel_rfl) (by kernel_rfl)) ?_
  intro W base args ds gs before hval0 hW hcnd hsz0 _
  have hsz : (DataW.weightsEach Try.prog (Try.f4.params.toList ++ []) (ds ++ gs)).all (· ≤ reachBytes) = true := hsz0
  clear hsz0
  have hval : ∀ (j : Nat) t v, Try.f4.params[j]? = some t → args[j]? = some v → Value.okWide Try.prog W .any base t v := hval0
  have hW' := hW
  have hlt := hW.lt
  obtain ⟨p, q, hA0, hV, rfl, hfz, hnd⟩ := hW
  have hA : DataW.TrodAll enc Try.prog W 0 (fun _ => true) true Try.f4.params.toList args.toList ds p := hA0
  rw [Try.params4] at hA hval
  obtain ⟨v0, vs0, d0, ds0, p0, q0, hargs, rfl, rfl, h0, r0⟩ := trodAll_cons hA
  obtain ⟨rfl, rfl, rfl⟩ := trodAll_nil r0
  obtain rfl : args = #[v0] := by cases args; simp_all
  obtain ⟨rfl, rfl⟩ := trodVars_none hV
  obtain ⟨cs0, rfl, hcz0⟩ := okWide_struct Try.underlying41 (hval 0 41 v0 rfl rfl)
  rw [cellscopyhold_copyholdlaw03_SpanRightsIn] at hcz0
  obtain ⟨c0_0, c0_1, c0_2, c0_3, rfl⟩ := array4_of hcz0
  obtain ⟨fuel0, hf0⟩ := h0
  obtain ⟨xs0, m0, _, hx0, _, hlen0, hfl0⟩ := DataW.trod_struct Try.underlying41 hf0
  obtain ⟨y0_0, y0_1, y0_2, y0_3, rfl⟩ := list4 hlen0
  have g0_0 : DataW.trod enc Try.prog W 0 (fun _ => true) true m0 3 [c0_0] = some y0_0 := by have h := hfl0 0 _ rfl; simpa [Value.cells, cellsint] using h
  have g0_1 : DataW.trod enc Try.prog W 0 (fun _ => true) true m0 3 [c0_1] = some y0_1 := by have h := hfl0 1 _ rfl; simpa [Value.cells, cellsint] using h
  have g0_2 : DataW.trod enc Try.prog W 0 (fun _ => true) true m0 3 [c0_2] = some y0_2 := by have h := hfl0 2 _ rfl; simpa [Value.cells, cellsint] using h
  have g0_3 : DataW.trod enc Try.prog W 0 (fun _ => true) true m0 3 [c0_3] = some y0_3 := by have h := hfl0 3 _ rfl; simpa [Value.cells, cellsint] using h
  simp only [Prod.mk.injEq] at hx0
  obtain ⟨rfl, hp0⟩ := hx0
  subst hp0
  obtain ⟨a0_0, ev0_0, ey0_0, w0_0⟩ := DataW.trod_int Try.underlying3 g0_0
  obtain rfl : c0_0 = _ := by simpa using ev0_0
  subst ey0_0
  obtain ⟨a0_1, ev0_1, ey0_1, w0_1⟩ := DataW.trod_int Try.underlying3 g0_1
  obtain rfl : c0_1 = _ := by simpa using ev0_1
  subst ey0_1
  obtain ⟨a0_2, ev0_2, ey0_2, w0_2⟩ := DataW.trod_int Try.underlying3 g0_2
  obtain rfl : c0_2 = _ := by simpa using ev0_2
  subst ey0_2
  obtain ⟨a0_3, ev0_3, ey0_3, w0_3⟩ := DataW.trod_int Try.underlying3 g0_3
  obtain rfl : c0_3 = _ := by simpa using ev0_3
  subst ey0_3
  refine (walk W a0_0 w0_0 a0_1 w0_1 a0_2 w0_2 a0_3 w0_3).mono fun e W' ⟨he, hg⟩ => ?_
  subst he
  exact ⟨_, rfl, Copyhold.law_post laidOut (by kernel_rfl) (by kernel_rfl) Try.underlying4 rfl rfl rfl rfl hW' hg⟩

theorem over : Rows.spanRightsRow.holds Try.pinned (OpenSpec.ofChange Rows.spanRightsSpec) :=
  OpenClaim.holds_of_wide 4 Try.f4 rfl rfl rfl rfl rfl rfl rfl ⟨rfl, rfl, rfl, rfl, rfl⟩ rfl rfl rfl rfl rfl (by kernel_rfl) Try.func4 (by kernel_rfl)
    (of_decide_eq_true (by kernel_rfl)) (by unfold Func.isWrapper; first | (rw [if_pos (by decide +kernel)]; kernel_rfl) | (rw [if_neg (by decide +kernel)]; exact ⟨rfl, rfl⟩))
    (fun os started H enc _ => lifted os started H enc)

theorem proved : Rows.SpanRightsSaid :=
  over
end Go.Proofs.Ytcckbiaigcideaa.spanRights
