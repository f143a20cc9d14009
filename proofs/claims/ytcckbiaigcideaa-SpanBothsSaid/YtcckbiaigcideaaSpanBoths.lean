/- Proved: copyholdlaw03.SpanBoths returns true for every pairs and place, and leaves them as they were: what both have is had by each, and hangs on no order; a place is in it just if it is in both; what is around both has all of both. No condition beyond the form's own reach. -/
import Derived.Test.YtcckbiaigcideaaSpanBothsW
import Derived.Test.YtcckbiaigcideaaLaw
namespace Go.Proofs.Ytcckbiaigcideaa.spanBoths
open Go.ChangeShapes Go.WideShapes Go.ChangeAt Go.RowKit Copyhold
open Go.ChangeMaps (open_string shut_string)
set_option linter.unusedVariables false

theorem walk (w : World) (a0 : Int) (v0 : (Lit.int .i64 a0).wf = true) (a1 : Int) (v1 : (Lit.int .i64 a1).wf = true) (c0 : Int) (v2 : (Lit.int .i64 c0).wf = true) (c1 : Int) (v3 : (Lit.int .i64 c1).wf = true) (t : Int) (v4 : (Lit.int .i64 t).wf = true) :
    Calls Try.prog 6 #[.agg #[.int .i64 a0, .int .i64 a1], .agg #[.int .i64 c0, .int .i64 c1], .int .i64 t] w fun e w' => e = .returned (.bool true) ∧ Below w.heap.size w w' := by
  obtain ⟨a00, a01⟩ := spanShifts.wf_i64 v0
  obtain ⟨a10, a11⟩ := spanShifts.wf_i64 v1
  obtain ⟨c00, c01⟩ := spanShifts.wf_i64 v2
  obtain ⟨c10, c11⟩ := spanShifts.wf_i64 v3
  have hx := givenD_le a0 a1
  have hy := givenD_le c0 c1
  cases ho : bothD (givenD a0 a1).1 (givenD a0 a1).2 (givenD c0 c1).1 (givenD c0 c1).2 with
  | none =>
    have hn := both_none _ _ _ _ t ho
    cases hp : hasOne ((givenD a0 a1).1, (givenD a0 a1).2) t <;> cases hq : hasOne ((givenD c0 c1).1, (givenD c0 c1).2) t
    · exact walk_n00 w a0 a1 c0 c1 t a00 a01 a10 a11 c00 c01 c10 c11 _ _ _ _ ⟨rfl, rfl⟩ ⟨rfl, rfl⟩ hx hy hp hq ho
    · exact walk_n01 w a0 a1 c0 c1 t a00 a01 a10 a11 c00 c01 c10 c11 _ _ _ _ ⟨rfl, rfl⟩ ⟨rfl, rfl⟩ hx hy hp hq ho
    · exact walk_n10 w a0 a1 c0 c1 t a00 a01 a10 a11 c00 c01 c10 c11 _ _ _ _ ⟨rfl, rfl⟩ ⟨rfl, rfl⟩ hx hy hp hq ho
    · rw [hp, hq] at hn
      cases hn
  | some uv =>
    obtain ⟨u, v⟩ := uv
    cases hp : hasOne ((givenD a0 a1).1, (givenD a0 a1).2) t <;> cases hq : hasOne ((givenD c0 c1).1, (givenD c0 c1).2) t
    · exact walk_s00 w a0 a1 c0 c1 t a00 a01 a10 a11 c00 c01 c10 c11 _ _ _ _ ⟨rfl, rfl⟩ ⟨rfl, rfl⟩ hx hy hp hq u v ho
    · exact walk_s01 w a0 a1 c0 c1 t a00 a01 a10 a11 c00 c01 c10 c11 _ _ _ _ ⟨rfl, rfl⟩ ⟨rfl, rfl⟩ hx hy hp hq u v ho
    · exact walk_s10 w a0 a1 c0 c1 t a00 a01 a10 a11 c00 c01 c10 c11 _ _ _ _ ⟨rfl, rfl⟩ ⟨rfl, rfl⟩ hx hy hp hq u v ho
    · exact walk_s11 w a0 a1 c0 c1 t a00 a01 a10 a11 c00 c01 c10 c11 _ _ _ _ ⟨rfl, rfl⟩ ⟨rfl, rfl⟩ hx hy hp hq u v ho

theorem own : ownKnob Try.prog.godebug = none := by kernel_rfl
theorem laidOut : laidOutB Try.prog = true := by kernel_rfl

set_option maxRecDepth 100000 in
set_option maxHeartbeats 1000000 in
theorem lifted (os : Os) (started : os.Started) (H : Type) (enc : TypeId × Value → H) :
    ReturnsInHanded {} Try.checked os 6 .any (Rows.spanBothsSpec.pre6 enc Try.prog Try.f6 Rows.spanBothsRow.domain false) (Rows.spanBothsSpec.post enc Try.prog Try.f6 false true false false) := by
  refine returnsInHanded_of_change_sized (C := Try.checked) own started (by kernel_rfl) Try.func6
    (ChangeSpec.witness6 (enc := enc) (C := Try.checked) false ⟨#[], #[.agg #[.int .i64 0, .int .i64 0], .agg #[.int .i64 0, .int .i64 0], .int .i64 0], []⟩ 8 (by kernel_rfl) (by kernel_rfl) (by kernel_rfl) (by kernel_rfl)) ?_
  intro W base args ds gs before hval0 hW hcnd hsz0 _
  have hsz : (DataW.weightsEach Try.prog (Try.f6.params.toList ++ []) (ds ++ gs)).all (· ≤ reachBytes) = true := hsz0
  clear hsz0
  have hval : ∀ (j : Nat) t v, Try.f6.params[j]? = some t → args[j]? = some v → Value.okWide Try.prog W .any base t v := hval0
  have hW' := hW
  have hlt := hW.lt
  obtain ⟨p, q, hA0, hV, rfl, hfz, hnd⟩ := hW
  have hA : DataW.TrodAll enc Try.prog W 0 (fun _ => true) true Try.f6.params.toList args.toList ds p := hA0
  rw [Try.params6] at hA hval
  obtain ⟨v0, vs0, d0, ds0, p0, q0, hargs, rfl, rfl, h0, r0⟩ := trodAll_cons hA
  obtain ⟨v1, vs1, d1, ds1, p1, q1, rfl, rfl, rfl, h1, r1⟩ := trodAll_cons r0
  obtain ⟨v2, vs2, d2, ds2, p2, q2, rfl, rfl, rfl, h2, r2⟩ := trodAll_cons r1
  obtain ⟨rfl, rfl, rfl⟩ := trodAll_nil r2
  obtain rfl : args = #[v0, v1, v2] := by cases args; simp_all
  obtain ⟨rfl, rfl⟩ := trodVars_none hV
  obtain ⟨a0_0, a0_1, rfl, rfl, rfl, w0_0, w0_1⟩ := open_pair Try.underlying22 Try.underlying3 (by kernel_rfl) (by kernel_rfl) (hval 0 22 v0 rfl rfl) h0
  obtain ⟨a1_0, a1_1, rfl, rfl, rfl, w1_0, w1_1⟩ := open_pair Try.underlying22 Try.underlying3 (by kernel_rfl) (by kernel_rfl) (hval 1 22 v1 rfl rfl) h1
  obtain ⟨a2, rfl, rfl, rfl, w2⟩ := open_int Try.underlying3 (hval 2 3 v2 rfl rfl) h2
  refine (walk W a0_0 w0_0 a0_1 w0_1 a1_0 w1_0 a1_1 w1_1 a2 w2).mono fun e W' ⟨he, hg⟩ => ?_
  subst he
  exact ⟨_, rfl, Copyhold.law_post laidOut (by kernel_rfl) (by kernel_rfl) Try.underlying4 rfl rfl rfl rfl hW' hg⟩

theorem over : Rows.spanBothsRow.holds Try.pinned (OpenSpec.ofChange Rows.spanBothsSpec) :=
  OpenClaim.holds_of_wide 6 Try.f6 rfl rfl rfl rfl rfl rfl rfl ⟨rfl, rfl, rfl, rfl, rfl⟩ rfl rfl rfl rfl rfl (by kernel_rfl) Try.func6 (by kernel_rfl)
    (of_decide_eq_true (by kernel_rfl)) (by unfold Func.isWrapper; first | (rw [if_pos (by decide +kernel)]; kernel_rfl) | (rw [if_neg (by decide +kernel)]; exact ⟨rfl, rfl⟩))
    (fun os started H enc _ => lifted os started H enc)

theorem proved : Rows.SpanBothsSaid :=
  over
end Go.Proofs.Ytcckbiaigcideaa.spanBoths
