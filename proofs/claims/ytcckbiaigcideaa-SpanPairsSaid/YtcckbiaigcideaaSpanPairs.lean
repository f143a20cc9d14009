/- Proved: copyholdlaw03.SpanPairs returns true for every pairs and number, and leaves them as they were: a span, its parts, what both have, what is around both, and one that is moved, are as the document says. No condition beyond the form's own reach. -/
import Derived.Test.YtcckbiaigcideaaSpanPairsW
import Derived.Test.YtcckbiaigcideaaLaw
namespace Go.Proofs.Ytcckbiaigcideaa.spanPairs
open Go.ChangeShapes Go.WideShapes Go.ChangeAt Go.RowKit Copyhold
open Go.ChangeMaps (open_string shut_string)
set_option linter.unusedVariables false

theorem walk (w : World) (a0 : Int) (v0 : (Lit.int .i64 a0).wf = true) (a1 : Int) (v1 : (Lit.int .i64 a1).wf = true) (c0 : Int) (v2 : (Lit.int .i64 c0).wf = true) (c1 : Int) (v3 : (Lit.int .i64 c1).wf = true) (z : Int) (v4 : (Lit.int .i64 z).wf = true) :
    Calls Try.prog 3 #[.agg #[.int .i64 a0, .int .i64 a1], .agg #[.int .i64 c0, .int .i64 c1], .int .i64 z] w fun e w' => e = .returned (.bool true) ∧ Below w.heap.size w w' := by
  obtain ⟨a00, a01⟩ := spanShifts.wf_i64 v0
  obtain ⟨a10, a11⟩ := spanShifts.wf_i64 v1
  obtain ⟨c00, c01⟩ := spanShifts.wf_i64 v2
  obtain ⟨c10, c11⟩ := spanShifts.wf_i64 v3
  obtain ⟨z0, z1⟩ := spanShifts.wf_i64 v4
  have hx := givenD_le a0 a1
  have hy := givenD_le c0 c1
  cases ho : bothD (givenD a0 a1).1 (givenD a0 a1).2 (givenD c0 c1).1 (givenD c0 c1).2 with
  | none =>
    cases hs : shiftD (givenD a0 a1).1 (givenD a0 a1).2 z with
    | none => exact walk_nn w a0 a1 c0 c1 z a00 a01 a10 a11 c00 c01 c10 c11 z0 z1 _ _ _ _ ⟨rfl, rfl⟩ ⟨rfl, rfl⟩ hx hy ho hs
    | some p => exact walk_ns w a0 a1 c0 c1 z a00 a01 a10 a11 c00 c01 c10 c11 z0 z1 _ _ _ _ ⟨rfl, rfl⟩ ⟨rfl, rfl⟩ hx hy ho p.1 p.2 hs
  | some uv =>
    cases hs : shiftD (givenD a0 a1).1 (givenD a0 a1).2 z with
    | none => exact walk_sn w a0 a1 c0 c1 z a00 a01 a10 a11 c00 c01 c10 c11 z0 z1 _ _ _ _ ⟨rfl, rfl⟩ ⟨rfl, rfl⟩ hx hy uv.1 uv.2 ho hs
    | some p => exact walk_ss w a0 a1 c0 c1 z a00 a01 a10 a11 c00 c01 c10 c11 z0 z1 _ _ _ _ ⟨rfl, rfl⟩ ⟨rfl, rfl⟩ hx hy uv.1 uv.2 ho p.1 p.2 hs

theorem own : ownKnob Try.prog.godebug = none := by kernel_rfl
theorem laidOut : laidOutB Try.prog = true := by kernel_rfl

set_option maxRecDepth 100000 in
set_option maxHeartbeats 1000000 in
theorem lifted (os : Os) (started : os.Started) (H : Type) (enc : TypeId × Value → H) :
    ReturnsInHanded {} Try.checked os 3 .any (Rows.spanPairsSpec.pre6 enc Try.prog Try.f3 Rows.spanPairsRow.domain false) (Rows.spanPairsSpec.post enc Try.prog Try.f3 false true false false) := by
  refine returnsInHanded_of_change_sized (C := Try.checked) own started (by kernel_rfl) Try.func3
    (ChangeSpec.witness6 (enc := enc) (C := Try.checked) false ⟨#[], #[.agg #[.int .i64 0, .int .i64 0], .agg #[.int .i64 0, .int .i64 0], .int .i64 0], []⟩ 8 (by kernel_rfl) (by kernel_rfl) (by kernel_rfl) (by kernel_rfl)) ?_
  intro W base args ds gs before hval0 hW hcnd hsz0 _
  have hsz : (DataW.weightsEach Try.prog (Try.f3.params.toList ++ []) (ds ++ gs)).all (· ≤ reachBytes) = true := hsz0
  clear hsz0
  have hval : ∀ (j : Nat) t v, Try.f3.params[j]? = some t → args[j]? = some v → Value.okWide Try.prog W .any base t v := hval0
  have hW' := hW
  have hlt := hW.lt
  obtain ⟨p, q, hA0, hV, rfl, hfz, hnd⟩ := hW
  have hA : DataW.TrodAll enc Try.prog W 0 (fun _ => true) true Try.f3.params.toList args.toList ds p := hA0
  rw [Try.params3] at hA hval
  obtain ⟨v0, vs0, d0, ds0, p0, q0, hargs, rfl, rfl, h0, r0⟩ := trodAll_cons hA
  obtain ⟨v1, vs1, d1, ds1, p1, q1, rfl, rfl, rfl, h1, r1⟩ := trodAll_cons r0
  obtain ⟨v2, vs2, d2, ds2, p2, q2, rfl, rfl, rfl, h2, r2⟩ := trodAll_cons r1
  obtain ⟨rfl, rfl, rfl⟩ := trodAll_nil r2
  obtain rfl : args = #[v0, v1, v2] := by cases args; simp_all
  obtain ⟨rfl, rfl⟩ := trodVars_none hV
  obtain ⟨a0_0, a0_1, rfl, rfl, rfl, w0_0, w0_1⟩ := open_pair Try.underlying22 Try.underlying3 (by kernel_rfl) (by kernel_rfl) (hval 0 22 v0 rfl rfl) h0
  obtain ⟨a1_0, a1_1, rfl, rfl, rfl, w1_0, w1_1⟩ := open_pair Try.underlying22 Try.underlying3 (by kernel_rfl) (by kernel_rfl) (hval 1 22 v1 rfl rfl) h1
  obtain ⟨a2, rfl, rfl, rfl, w2⟩ := open_int Try.underlying3 (hval 2 3 v2 rfl rfl) h2
  refine (walk W a0_0 w0_0 a0_1 w0_1 a1_0 w1_0 a1_1 w1_1 a2 w2).mono fun e W' ⟨he, hg⟩ => ?_
  subst he
  exact ⟨_, rfl, Copyhold.law_post laidOut (by kernel_rfl) (by kernel_rfl) Try.underlying4 rfl rfl rfl rfl hW' hg⟩

theorem over : Rows.spanPairsRow.holds Try.pinned (OpenSpec.ofChange Rows.spanPairsSpec) :=
  OpenClaim.holds_of_wide 3 Try.f3 rfl rfl rfl rfl rfl rfl rfl ⟨rfl, rfl, rfl, rfl, rfl⟩ rfl rfl rfl rfl rfl (by kernel_rfl) Try.func3 (by kernel_rfl)
    (of_decide_eq_true (by kernel_rfl)) (by unfold Func.isWrapper; first | (rw [if_pos (by decide +kernel)]; kernel_rfl) | (rw [if_neg (by decide +kernel)]; exact ⟨rfl, rfl⟩))
    (fun os started H enc _ => lifted os started H enc)

theorem proved : Rows.SpanPairsSaid :=
  over
end Go.Proofs.Ytcckbiaigcideaa.spanPairs
