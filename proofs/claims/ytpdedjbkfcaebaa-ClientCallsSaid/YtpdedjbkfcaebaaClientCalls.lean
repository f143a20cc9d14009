/- Proved: copyholdlaw18.ClientCalls returns true for all that may come in, and leaves it as it was (what a client says in its calls is the next call of its job; a reply to it is its next one). No condition beyond the form's own reach. -/
import Derived.Test.YtpdedjbkfcaebaaCliLw
import Derived.Test.YtpdedjbkfcaebaaCliCalls
namespace Go.Proofs.Ytpdedjbkfcaebaa.clientCalls
open Go.ChangeShapes Go.WideShapes Go.ChangeAt Go.RowKit Copyhold
open Go.ChangeMaps (open_string shut_string)
set_option linter.unusedVariables false
set_option linter.unusedSimpArgs false
theorem walk (w : World) (a0a : Int) (w0a : (Lit.int .i64 a0a).wf = true) (a0b : Int) (w0b : (Lit.int .i64 a0b).wf = true) (a0c : Int) (w0c : (Lit.int .i64 a0c).wf = true) (jv0 : Value) (jl0 : List (List Cal)) (j10 : JobsIn w jv0 jl0) (j20 : jl0.length ≤ 8796093022207) (a0d : Int) (w0d : (Lit.int .i64 a0d).wf = true) (a0e : Int) (w0e : (Lit.int .i64 a0e).wf = true) (a0f : Int) (w0f : (Lit.int .i64 a0f).wf = true) (tv0 : Value) (tl0 : List Don) (t10 : DonsIn w tv0 tl0) (t20 : tl0.length ≤ 8796093022207) (nv0 : Value) (nl0 : List Rep) (n10 : RepsIn w nv0 nl0) (n20 : nl0.length ≤ 8796093022207) (a1f : Int) (w1f : (Lit.int .i64 a1f).wf = true) (a1g : Int) (w1g : (Lit.int .i64 a1g).wf = true) (a1h : Int) (w1h : (Lit.int .i64 a1h).wf = true) (a1i : Int) (w1i : (Lit.int .i64 a1i).wf = true) (st1 : List UInt8) (zs1 : st1.length ≤ 140737488351232) (nv1 : Value) (ns1 : List (List UInt8)) (rw1 : Row w nv1 (ns1.map strV)) (zn1 : ns1.length ≤ 8796093022207 ∧ ∀ l ∈ ns1, l.length ≤ 140737488351232) :
    Calls Try.prog 9 #[.agg #[.int .i64 a0a, .int .i64 a0b, .int .i64 a0c, jv0, .int .i64 a0d, .int .i64 a0e, .int .i64 a0f, tv0, nv0], .agg #[.int .i64 a1f, .int .i64 a1g, .int .i64 a1h, .int .i64 a1i, .string ⟨st1.toArray⟩, nv1]] w fun e w' => e = .returned (.bool true) ∧ Below w.heap.size w w' := by
  have hx0 : CliV w (.agg #[.int .i64 a0a, .int .i64 a0b, .int .i64 a0c, jv0, .int .i64 a0d, .int .i64 a0e, .int .i64 a0f, tv0, nv0]) ⟨a0a, a0b, a0c, jl0, a0d, a0e, a0f, tl0, nl0⟩ := ⟨jv0, tv0, nv0, rfl, j10, t10, n10, ⟨I64_of w0a, I64_of w0b, I64_of w0c, I64_of w0d, I64_of w0e, I64_of w0f⟩, j20, t20, n20⟩
  obtain ⟨v0, o0⟩ := cliV_to hx0 (· < w.heap.size) (fun b h => h)
  have o1 : OkRep ⟨a1f, a1g, a1h, a1i, st1, ns1⟩ := ⟨⟨I64_of w1f, I64_of w1g, I64_of w1h, I64_of w1i⟩, zs1, zn1.1, zn1.2⟩
  have v1 := reply_to (r := ⟨a1f, a1g, a1h, a1i, st1, ns1⟩) rw1 (· < w.heap.size) (fun b h => h)
  exact law_calls (clientCalls_spec _ _ o0 o1) (raAll2 v0 v1)
theorem own : ownKnob Try.prog.godebug = none := by kernel_rfl
theorem laidOut : laidOutB Try.prog = true := by kernel_rfl
theorem cellscopyhold_api_Client : Try.prog.cellsOf 26 = 9 := by kernel_rfl
theorem cellsint : Try.prog.cellsOf 3 = 1 := by kernel_rfl
theorem cells____api_Call : Try.prog.cellsOf 22 = 1 := by kernel_rfl
theorem cells__api_Done : Try.prog.cellsOf 23 = 1 := by kernel_rfl
theorem cells__api_Reply : Try.prog.cellsOf 24 = 1 := by kernel_rfl
theorem cellscopyhold_api_Reply : Try.prog.cellsOf 30 = 6 := by kernel_rfl
theorem cellscopyhold_api_Errno : Try.prog.cellsOf 27 = 1 := by kernel_rfl
theorem cellsstring : Try.prog.cellsOf 9 = 1 := by kernel_rfl
theorem cells__string : Try.prog.cellsOf 28 = 1 := by kernel_rfl
set_option maxRecDepth 100000 in
set_option maxHeartbeats 1000000 in
theorem lifted (os : Os) (started : os.Started) (H : Type) (enc : TypeId × Value → H) :
    ReturnsInHanded {} Try.checked os 9 .any (Rows.clientCallsSpec.pre6 enc Try.prog Try.f9 Rows.clientCallsRow.domain false) (Rows.clientCallsSpec.post enc Try.prog Try.f9 false true false false) := by
  refine returnsInHanded_of_change_sized (C := Try.checked) own started (by kernel_rfl) Try.func9
    (ChangeSpec.witness6 (enc := enc) (C := Try.checked) false ⟨#[], #[.agg #[.int .i64 0, .int .i64 0, .int .i64 0, .slice none 0 0, .int .i64 0, .int .i64 0, .int .i64 0, .slice none 0 0, .slice none 0 0], .agg #[.int .i64 0, .int .i64 0, .int .i64 0, .int .i64 0, .string ByteArray.empty, .slice none 0 0]], []⟩ 8 (by kernel_rfl) (by kernel_rfl) (by kernel_rfl) (by kernel_rfl)) ?_
  intro W base args ds gs before hval0 hW hcnd hsz0 _
  have hsz : (DataW.weightsEach Try.prog (Try.f9.params.toList ++ []) (ds ++ gs)).all (· ≤ reachBytes) = true := hsz0
  clear hsz0
  have hval : ∀ (j : Nat) t v, Try.f9.params[j]? = some t → args[j]? = some v → Value.okWide Try.prog W .any base t v := hval0
  have hW' := hW
  have hlt := hW.lt
  obtain ⟨p, q, hA0, hV, rfl, hfz, hnd⟩ := hW
  have hA : DataW.TrodAll enc Try.prog W 0 (fun _ => true) true Try.f9.params.toList args.toList ds p := hA0
  rw [Try.params9] at hA hval
  obtain ⟨v0, vs0, d0, ds0, p0, q0, hargs, rfl, rfl, h0, r0⟩ := trodAll_cons hA
  obtain ⟨v1, vs1, d1, ds1, p1, q1, rfl, rfl, rfl, h1, r1⟩ := trodAll_cons r0
  obtain ⟨rfl, rfl, rfl⟩ := trodAll_nil r1
  obtain rfl : args = #[v0, v1] := by cases args; simp_all
  obtain ⟨rfl, rfl⟩ := trodVars_none hV
  obtain ⟨cs0, rfl, hcz0⟩ := okWide_struct Try.underlying26 (hval 0 26 v0 rfl rfl)
  rw [cellscopyhold_api_Client] at hcz0
  obtain ⟨c0_0, c0_1, c0_2, c0_3, c0_4, c0_5, c0_6, c0_7, c0_8, rfl⟩ := array9_of hcz0
  obtain ⟨fuel0, hf0⟩ := h0
  obtain ⟨xs0, m0, _, hx0, _, hlen0, hfl0⟩ := DataW.trod_struct Try.underlying26 hf0
  obtain ⟨y0_0, y0_1, y0_2, y0_3, y0_4, y0_5, y0_6, y0_7, y0_8, rfl⟩ := list9 hlen0
  have g0_0 : DataW.trod enc Try.prog W 0 (fun _ => true) true m0 3 [c0_0] = some y0_0 := by have h := hfl0 0 _ rfl; simpa [Value.cells, cellsint] using h
  have g0_1 : DataW.trod enc Try.prog W 0 (fun _ => true) true m0 3 [c0_1] = some y0_1 := by have h := hfl0 1 _ rfl; simpa [Value.cells, cellsint] using h
  have g0_2 : DataW.trod enc Try.prog W 0 (fun _ => true) true m0 3 [c0_2] = some y0_2 := by have h := hfl0 2 _ rfl; simpa [Value.cells, cellsint] using h
  have g0_3 : DataW.trod enc Try.prog W 0 (fun _ => true) true m0 22 [c0_3] = some y0_3 := by have h := hfl0 3 _ rfl; simpa [Value.cells, cells____api_Call] using h
  have g0_4 : DataW.trod enc Try.prog W 0 (fun _ => true) true m0 3 [c0_4] = some y0_4 := by have h := hfl0 4 _ rfl; simpa [Value.cells, cellsint] using h
  have g0_5 : DataW.trod enc Try.prog W 0 (fun _ => true) true m0 3 [c0_5] = some y0_5 := by have h := hfl0 5 _ rfl; simpa [Value.cells, cellsint] using h
  have g0_6 : DataW.trod enc Try.prog W 0 (fun _ => true) true m0 3 [c0_6] = some y0_6 := by have h := hfl0 6 _ rfl; simpa [Value.cells, cellsint] using h
  have g0_7 : DataW.trod enc Try.prog W 0 (fun _ => true) true m0 23 [c0_7] = some y0_7 := by have h := hfl0 7 _ rfl; simpa [Value.cells, cells__api_Done] using h
  have g0_8 : DataW.trod enc Try.prog W 0 (fun _ => true) true m0 24 [c0_8] = some y0_8 := by have h := hfl0 8 _ rfl; simpa [Value.cells, cells__api_Reply] using h
  simp only [Prod.mk.injEq] at hx0
  obtain ⟨rfl, hp0⟩ := hx0
  subst hp0
  obtain ⟨a0_0, ev0_0, ey0_0, w0_0⟩ := DataW.trod_int Try.underlying3 g0_0
  obtain rfl : c0_0 = _ := by simpa using ev0_0
  subst ey0_0
  obtain ⟨a0_1, ev0_1, ey0_1, w0_1⟩ := DataW.trod_int Try.underlying3 g0_1
  obtain rfl : c0_1 = _ := by simpa using ev0_1
  subst ey0_1
  obtain ⟨a0_2, ev0_2, ey0_2, w0_2⟩ := DataW.trod_int Try.underlying3 g0_2
  obtain rfl : c0_2 = _ := by simpa using ev0_2
  subst ey0_2
  have hw0_3 : ∀ n ∈ DataW.weights Try.prog 22 y0_3.1, n ≤ 140737488351232 := fun n hn => sized_deep hsz (by rw [Try.params9]; simp [DataW.weightsEach, DataW.weights, Try.underlying26, Try.underlying30, hn])
  obtain ⟨u0_3, a0_3, ev0_3, f0_3_0, f0_3_1⟩ := open_jobs g0_3 (fun x hx => hlt x (by simp [hx])) hw0_3
  obtain rfl : c0_3 = _ := by simpa using ev0_3
  obtain ⟨a0_4, ev0_4, ey0_4, w0_4⟩ := DataW.trod_int Try.underlying3 g0_4
  obtain rfl : c0_4 = _ := by simpa using ev0_4
  subst ey0_4
  obtain ⟨a0_5, ev0_5, ey0_5, w0_5⟩ := DataW.trod_int Try.underlying3 g0_5
  obtain rfl : c0_5 = _ := by simpa using ev0_5
  subst ey0_5
  obtain ⟨a0_6, ev0_6, ey0_6, w0_6⟩ := DataW.trod_int Try.underlying3 g0_6
  obtain rfl : c0_6 = _ := by simpa using ev0_6
  subst ey0_6
  have hw0_7 : ∀ n ∈ DataW.weights Try.prog 23 y0_7.1, n ≤ 140737488351232 := fun n hn => sized_deep hsz (by rw [Try.params9]; simp [DataW.weightsEach, DataW.weights, Try.underlying26, Try.underlying30, hn])
  obtain ⟨u0_7, a0_7, ev0_7, f0_7_0, f0_7_1⟩ := open_dones g0_7 (fun x hx => hlt x (by simp [hx])) hw0_7
  obtain rfl : c0_7 = _ := by simpa using ev0_7
  have hw0_8 : ∀ n ∈ DataW.weights Try.prog 24 y0_8.1, n ≤ 140737488351232 := fun n hn => sized_deep hsz (by rw [Try.params9]; simp [DataW.weightsEach, DataW.weights, Try.underlying26, Try.underlying30, hn])
  obtain ⟨u0_8, a0_8, ev0_8, f0_8_0, f0_8_1⟩ := open_reps g0_8 (fun x hx => hlt x (by simp [hx])) hw0_8
  obtain rfl : c0_8 = _ := by simpa using ev0_8
  obtain ⟨cs1, rfl, hcz1⟩ := okWide_struct Try.underlying30 (hval 1 30 v1 rfl rfl)
  rw [cellscopyhold_api_Reply] at hcz1
  obtain ⟨c1_0, c1_1, c1_2, c1_3, c1_4, c1_5, rfl⟩ := array6_of hcz1
  obtain ⟨fuel1, hf1⟩ := h1
  obtain ⟨xs1, m1, _, hx1, _, hlen1, hfl1⟩ := DataW.trod_struct Try.underlying30 hf1
  obtain ⟨y1_0, y1_1, y1_2, y1_3, y1_4, y1_5, rfl⟩ := list6 hlen1
  have g1_0 : DataW.trod enc Try.prog W 0 (fun _ => true) true m1 27 [c1_0] = some y1_0 := by have h := hfl1 0 _ rfl; simpa [Value.cells, cellscopyhold_api_Errno] using h
  have g1_1 : DataW.trod enc Try.prog W 0 (fun _ => true) true m1 3 [c1_1] = some y1_1 := by have h := hfl1 1 _ rfl; simpa [Value.cells, cellsint] using h
  have g1_2 : DataW.trod enc Try.prog W 0 (fun _ => true) true m1 3 [c1_2] = some y1_2 := by have h := hfl1 2 _ rfl; simpa [Value.cells, cellsint] using h
  have g1_3 : DataW.trod enc Try.prog W 0 (fun _ => true) true m1 3 [c1_3] = some y1_3 := by have h := hfl1 3 _ rfl; simpa [Value.cells, cellsint] using h
  have g1_4 : DataW.trod enc Try.prog W 0 (fun _ => true) true m1 9 [c1_4] = some y1_4 := by have h := hfl1 4 _ rfl; simpa [Value.cells, cellsstring] using h
  have g1_5 : DataW.trod enc Try.prog W 0 (fun _ => true) true m1 28 [c1_5] = some y1_5 := by have h := hfl1 5 _ rfl; simpa [Value.cells, cells__string] using h
  simp only [Prod.mk.injEq] at hx1
  obtain ⟨rfl, hp1⟩ := hx1
  subst hp1
  obtain ⟨a1_0, ev1_0, ey1_0, w1_0⟩ := DataW.trod_int Try.underlying27 g1_0
  obtain rfl : c1_0 = _ := by simpa using ev1_0
  subst ey1_0
  obtain ⟨a1_1, ev1_1, ey1_1, w1_1⟩ := DataW.trod_int Try.underlying3 g1_1
  obtain rfl : c1_1 = _ := by simpa using ev1_1
  subst ey1_1
  obtain ⟨a1_2, ev1_2, ey1_2, w1_2⟩ := DataW.trod_int Try.underlying3 g1_2
  obtain rfl : c1_2 = _ := by simpa using ev1_2
  subst ey1_2
  obtain ⟨a1_3, ev1_3, ey1_3, w1_3⟩ := DataW.trod_int Try.underlying3 g1_3
  obtain rfl : c1_3 = _ := by simpa using ev1_3
  subst ey1_3
  obtain ⟨s1_4, ev1_4, ey1_4, w1_4⟩ := DataW.trod_string Try.underlying9 g1_4
  obtain rfl : c1_4 = _ := by simpa using ev1_4
  subst ey1_4
  have z1_4 : s1_4.data.toList.length ≤ 140737488351232 := sized_deep hsz (by rw [Try.params9]; simp [DataW.weightsEach, DataW.weights, Try.underlying26, Try.underlying30])
  obtain ⟨a1_4, rfl⟩ : ∃ l : List UInt8, s1_4 = ⟨l.toArray⟩ := ⟨s1_4.data.toList, rfl⟩
  have hw1_5 : ∀ n ∈ DataW.weights Try.prog 28 y1_5.1, n ≤ 140737488351232 := fun n hn => sized_deep hsz (by rw [Try.params9]; simp [DataW.weightsEach, DataW.weights, Try.underlying26, Try.underlying30, hn])
  obtain ⟨u1_5, a1_5, ev1_5, w1_5, e1_5⟩ := open_texts_at Try.underlying28 Try.underlying9 (by kernel_rfl) g1_5 (fun x hx => hlt x (by simp [hx]))
  obtain rfl : c1_5 = _ := by simpa using ev1_5
  have z1_5 := texts_sized Try.underlying28 (by kernel_rfl) e1_5 hw1_5
  refine (walk W a0_0 w0_0 a0_1 w0_1 a0_2 w0_2 c0_3 a0_3 f0_3_0 f0_3_1 a0_4 w0_4 a0_5 w0_5 a0_6 w0_6 c0_7 a0_7 f0_7_0 f0_7_1 c0_8 a0_8 f0_8_0 f0_8_1 a1_0 w1_0 a1_1 w1_1 a1_2 w1_2 a1_3 w1_3 a1_4 z1_4 c1_5 a1_5 w1_5 z1_5).mono fun e W' ⟨he, hg⟩ => ?_
  subst he
  exact ⟨_, rfl, Copyhold.law_post laidOut (by kernel_rfl) (by kernel_rfl) Try.underlying4 rfl rfl rfl rfl hW' hg⟩
theorem over : Rows.clientCallsRow.holds Try.pinned (OpenSpec.ofChange Rows.clientCallsSpec) :=
  OpenClaim.holds_of_wide 9 Try.f9 rfl rfl rfl rfl rfl rfl rfl ⟨rfl, rfl, rfl, rfl, rfl⟩ rfl rfl rfl rfl rfl (by kernel_rfl) Try.func9 (by kernel_rfl)
    (of_decide_eq_true (by kernel_rfl)) (by unfold Func.isWrapper; first | (rw [if_pos (by decide +kernel)]; kernel_rfl) | (rw [if_neg (by decide +kernel)]; exact ⟨rfl, rfl⟩))
    (fun os started H enc _ => lifted os started H enc)
theorem proved : Rows.ClientCallsSaid :=
  over
end Go.Proofs.Ytpdedjbkfcaebaa.clientCalls
