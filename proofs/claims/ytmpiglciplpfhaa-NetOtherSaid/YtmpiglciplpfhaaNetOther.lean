/- Proved: copyholdlaw19.NetOther returns true for every net, text and place, and leaves them as they were: the other row stays as it is, whatever is done to one. No condition beyond the form's own reach. -/
import Derived.Test.YtmpiglciplpfhaaNetOtherU
import Derived.Test.YtmpiglciplpfhaaNetOtherD
import Derived.Test.YtmpiglciplpfhaaLaw
namespace Go.Proofs.Ytmpiglciplpfhaa.netOther
open Go.ChangeShapes Go.WideShapes Go.ChangeAt Go.RowKit Copyhold
open Go.ChangeMaps (open_string shut_string)
set_option linter.unusedVariables false

theorem walk (w : World) (uv : Value) (us : List (List UInt8)) (hu : Row w uv (us.map strV)) (zu : us.length ≤ 8796093022207 ∧ ∀ l ∈ us, l.length ≤ 140737488351232) (dv : Value) (ds : List (List UInt8)) (hd : Row w dv (ds.map strV)) (zd : ds.length ≤ 8796093022207 ∧ ∀ l ∈ ds, l.length ≤ 140737488351232)
    (up : Bool) (s : List UInt8) (zs : s.length ≤ 140737488351232) (i : Int) (w2 : (Lit.int .i64 i).wf = true) (a : Int) (w3 : (Lit.int .i64 a).wf = true) :
    Calls Try.prog 3 #[.agg #[uv, dv, .bool up, .string ⟨s.toArray⟩, .int .i64 i, .int .i64 a]] w fun e w' => e = .returned (.bool true) ∧ Below w.heap.size w w' := by
  have b2 : -9223372036854775808 ≤ i ∧ i ≤ 9223372036854775807 := by simpa [Lit.wf, IntKind.min, IntKind.max, IntKind.signed, IntKind.bits] using w2
  have b3 : -9223372036854775808 ≤ a ∧ a ≤ 9223372036854775807 := by simpa [Lit.wf, IntKind.min, IntKind.max, IntKind.signed, IntKind.bits] using w3
  obtain ⟨A, c, rfl⟩ := hu.shape
  obtain ⟨B, d, rfl⟩ := hd.shape
  rw [List.length_map] at hu hd ⊢
  rw [List.length_map]
  cases up
  · exact walk_down w A c us B d ds hu hd zu.1 zd.1 zd.2 s zs i b2.1 b2.2 a b3.1 b3.2
  · exact walk_up w A c us B d ds hu hd zu.1 zd.1 zu.2 s zs i b2.1 b2.2 a b3.1 b3.2

theorem own : ownKnob Try.prog.godebug = none := by kernel_rfl
theorem laidOut : laidOutB Try.prog = true := by kernel_rfl
theorem cellscopyhold_copyholdlaw19_NetOtherIn : Try.prog.cellsOf 26 = 6 := by kernel_rfl
theorem cellscopyhold_api_Net : Try.prog.cellsOf 24 = 2 := by kernel_rfl
theorem cells__string : Try.prog.cellsOf 22 = 1 := by kernel_rfl
theorem cellsbool : Try.prog.cellsOf 4 = 1 := by kernel_rfl
theorem cellsstring : Try.prog.cellsOf 9 = 1 := by kernel_rfl
theorem cellsint : Try.prog.cellsOf 3 = 1 := by kernel_rfl

set_option maxRecDepth 100000 in
set_option maxHeartbeats 1000000 in
theorem lifted (os : Os) (started : os.Started) (H : Type) (enc : TypeId × Value → H) :
    ReturnsInHanded {} Try.checked os 3 .any (Rows.netOtherSpec.pre6 enc Try.prog Try.f3 Rows.netOtherRow.domain false) (Rows.netOtherSpec.post enc Try.prog Try.f3 false true false false) := by
  refine returnsInHanded_of_change_sized (C := Try.checked) own started (by kernel_rfl) Try.func3
    (ChangeSpec.witness6 (enc := enc) (C := Try.checked) false ⟨#[], #[.agg #[.slice none 0 0, .slice none 0 0, .bool false, .string ByteArray.empty, .int .i64 0, .int .i64 0]], []⟩ 8 (by kernel_rfl) (by kernel_rfl) (by kernel_rfl) (by kernel_rfl)) ?_
  intro W base args ds gs before hval0 hW hcnd hsz0 _
  have hsz : (DataW.weightsEach Try.prog (Try.f3.params.toList ++ []) (ds ++ gs)).all (· ≤ reachBytes) = true := hsz0
  clear hsz0
  have hval : ∀ (j : Nat) t v, Try.f3.params[j]? = some t → args[j]? = some v → Value.okWide Try.prog W .any base t v := hval0
  have hW' := hW
  have hlt := hW.lt
  obtain ⟨p, q, hA0, hV, rfl, hfz, hnd⟩ := hW
  have hA : DataW.TrodAll enc Try.prog W 0 (fun _ => true) true Try.f3.params.toList args.toList ds p := hA0
  rw [Try.params3] at hA hval
  obtain ⟨v0, vs0, d0, ds0, p0, q0, hargs, rfl, rfl, h0, r0⟩ := trodAll_cons hA
  obtain ⟨rfl, rfl, rfl⟩ := trodAll_nil r0
  obtain rfl : args = #[v0] := by cases args; simp_all
  obtain ⟨rfl, rfl⟩ := trodVars_none hV
  obtain ⟨cs0, rfl, hcz0⟩ := okWide_struct Try.underlying26 (hval 0 26 v0 rfl rfl)
  rw [cellscopyhold_copyholdlaw19_NetOtherIn] at hcz0
  obtain ⟨c0_0_0, c0_0_1, c0_1, c0_2, c0_3, c0_4, rfl⟩ := array6_of hcz0
  obtain ⟨fuel0, hf0⟩ := h0
  obtain ⟨xs0, m0, _, hx0, _, hlen0, hfl0⟩ := DataW.trod_struct Try.underlying26 hf0
  obtain ⟨y0_0, y0_1, y0_2, y0_3, y0_4, rfl⟩ := list5 hlen0
  have g0_0 : DataW.trod enc Try.prog W 0 (fun _ => true) true m0 24 [c0_0_0, c0_0_1] = some y0_0 := by have h := hfl0 0 _ rfl; simpa [Value.cells, cellscopyhold_api_Net] using h
  have g0_1 : DataW.trod enc Try.prog W 0 (fun _ => true) true m0 4 [c0_1] = some y0_1 := by have h := hfl0 1 _ rfl; simpa [Value.cells, cellsbool] using h
  have g0_2 : DataW.trod enc Try.prog W 0 (fun _ => true) true m0 9 [c0_2] = some y0_2 := by have h := hfl0 2 _ rfl; simpa [Value.cells, cellsstring] using h
  have g0_3 : DataW.trod enc Try.prog W 0 (fun _ => true) true m0 3 [c0_3] = some y0_3 := by have h := hfl0 3 _ rfl; simpa [Value.cells, cellsint] using h
  have g0_4 : DataW.trod enc Try.prog W 0 (fun _ => true) true m0 3 [c0_4] = some y0_4 := by have h := hfl0 4 _ rfl; simpa [Value.cells, cellsint] using h
  simp only [Prod.mk.injEq] at hx0
  obtain ⟨rfl, hp0⟩ := hx0
  subst hp0
  obtain ⟨xs0_0, m0_0, _, hx0_0, _, hlen0_0, hfl0_0⟩ := DataW.trod_struct Try.underlying24 g0_0
  obtain ⟨y0_0_0, y0_0_1, rfl⟩ := list2 hlen0_0
  have g0_0_0 : DataW.trod enc Try.prog W 0 (fun _ => true) true m0_0 22 [c0_0_0] = some y0_0_0 := by have h := hfl0_0 0 _ rfl; simpa [Value.cells, cells__string] using h
  have g0_0_1 : DataW.trod enc Try.prog W 0 (fun _ => true) true m0_0 22 [c0_0_1] = some y0_0_1 := by have h := hfl0_0 1 _ rfl; simpa [Value.cells, cells__string] using h
  subst hx0_0
  have hw0_0_0 : ∀ n ∈ DataW.weights Try.prog 22 y0_0_0.1, n ≤ 140737488351232 := fun n hn => sized_deep hsz (by rw [Try.params3]; simp [DataW.weightsEach, DataW.weights, Try.underlying26, Try.underlying24, hn])
  obtain ⟨u0_0_0, a0_0_0, ev0_0_0, w0_0_0, e0_0_0⟩ := open_texts_at Try.underlying22 Try.underlying9 (by kernel_rfl) g0_0_0 (fun x hx => hlt x (by simp [hx]))
  obtain rfl : c0_0_0 = _ := by simpa using ev0_0_0
  have z0_0_0 := texts_sized Try.underlying22 (by kernel_rfl) e0_0_0 hw0_0_0
  have hw0_0_1 : ∀ n ∈ DataW.weights Try.prog 22 y0_0_1.1, n ≤ 140737488351232 := fun n hn => sized_deep hsz (by rw [Try.params3]; simp [DataW.weightsEach, DataW.weights, Try.underlying26, Try.underlying24, hn])
  obtain ⟨u0_0_1, a0_0_1, ev0_0_1, w0_0_1, e0_0_1⟩ := open_texts_at Try.underlying22 Try.underlying9 (by kernel_rfl) g0_0_1 (fun x hx => hlt x (by simp [hx]))
  obtain rfl : c0_0_1 = _ := by simpa using ev0_0_1
  have z0_0_1 := texts_sized Try.underlying22 (by kernel_rfl) e0_0_1 hw0_0_1
  obtain ⟨a0_1, ev0_1, ey0_1⟩ := DataW.trod_bool Try.underlying4 g0_1
  obtain rfl : c0_1 = _ := by simpa using ev0_1
  subst ey0_1
  obtain ⟨s0_2, ev0_2, ey0_2, w0_2⟩ := DataW.trod_string Try.underlying9 g0_2
  obtain rfl : c0_2 = _ := by simpa using ev0_2
  subst ey0_2
  have z0_2 : s0_2.data.toList.length ≤ 140737488351232 := sized_deep hsz (by rw [Try.params3]; simp [DataW.weightsEach, DataW.weights, Try.underlying26, Try.underlying24])
  obtain ⟨a0_2, rfl⟩ : ∃ l : List UInt8, s0_2 = ⟨l.toArray⟩ := ⟨s0_2.data.toList, rfl⟩
  obtain ⟨a0_3, ev0_3, ey0_3, w0_3⟩ := DataW.trod_int Try.underlying3 g0_3
  obtain rfl : c0_3 = _ := by simpa using ev0_3
  subst ey0_3
  obtain ⟨a0_4, ev0_4, ey0_4, w0_4⟩ := DataW.trod_int Try.underlying3 g0_4
  obtain rfl : c0_4 = _ := by simpa using ev0_4
  subst ey0_4
  refine (walk W c0_0_0 a0_0_0 w0_0_0 z0_0_0 c0_0_1 a0_0_1 w0_0_1 z0_0_1 a0_1 a0_2 z0_2 a0_3 w0_3 a0_4 w0_4).mono fun e W' ⟨he, hg⟩ => ?_
  subst he
  exact ⟨_, rfl, Copyhold.law_post laidOut (by kernel_rfl) (by kernel_rfl) Try.underlying4 rfl rfl rfl rfl hW' hg⟩

theorem over : Rows.netOtherRow.holds Try.pinned (OpenSpec.ofChange Rows.netOtherSpec) :=
  OpenClaim.holds_of_wide 3 Try.f3 rfl rfl rfl rfl rfl rfl rfl ⟨rfl, rfl, rfl, rfl, rfl⟩ rfl rfl rfl rfl rfl (by kernel_rfl) Try.func3 (by kernel_rfl)
    (of_decide_eq_true (by kernel_rfl)) (by unfold Func.isWrapper; first | (rw [if_pos (by decide +kernel)]; kernel_rfl) | (rw [if_neg (by decide +kernel)]; exact ⟨rfl, rfl⟩))
    (fun os started H enc _ => lifted os started H enc)

theorem proved : Rows.NetOtherSaid :=
  over
end Go.Proofs.Ytmpiglciplpfhaa.netOther
