/- Proved: copyholdlaw19.NetOrder returns true for every net, and leaves it as it was: texts that are taken from the first on come in the order in which they stood; then nothing is there. No condition beyond the form's own reach. -/
import Derived.Test.YtmpiglciplpfhaaNetOrderW
import Derived.Test.YtmpiglciplpfhaaLaw
namespace Go.Proofs.Ytmpiglciplpfhaa.netOrder
open Go.ChangeShapes Go.WideShapes Go.ChangeAt Go.RowKit Copyhold
open Go.ChangeMaps (open_string shut_string)
set_option linter.unusedVariables false

theorem walk (w : World) (uv : Value) (us : List (List UInt8)) (hu : Row w uv (us.map strV)) (zu : us.length ≤ 8796093022207 ∧ ∀ l ∈ us, l.length ≤ 140737488351232) (dv : Value) (ds : List (List UInt8)) (hd : Row w dv (ds.map strV)) (zd : ds.length ≤ 8796093022207 ∧ ∀ l ∈ ds, l.length ≤ 140737488351232) (up : Bool) :
    Calls Try.prog 5 #[.agg #[uv, dv], .bool up] w fun e w' => e = .returned (.bool true) ∧ Below w.heap.size w w' := by
  obtain ⟨A, c, rfl⟩ := hu.shape
  obtain ⟨B, d, rfl⟩ := hd.shape
  rw [List.length_map] at hu hd ⊢
  rw [List.length_map]
  cases up
  · exact walk_down w A c us B d ds hu hd zu.1 zd.1
  · exact walk_up w A c us B d ds hu hd zu.1 zd.1

theorem own : ownKnob Try.prog.godebug = none := by kernel_rfl
theorem laidOut : laidOutB Try.prog = true := by kernel_rfl
theorem cellscopyhold_api_Net : Try.prog.cellsOf 24 = 2 := by kernel_rfl
theorem cells__string : Try.prog.cellsOf 22 = 1 := by kernel_rfl

set_option maxRecDepth 100000 in
set_option maxHeartbeats 1000000 in
theorem lifted (os : Os) (started : os.Started) (H : Type) (enc : TypeId × Value → H) :
    ReturnsInHanded {} Try.checked os 5 .any (Rows.netOrderSpec.pre6 enc Try.prog Try.f5 Rows.netOrderRow.domain false) (Rows.netOrderSpec.post enc Try.prog Try.f5 false true false false) := by
  refine returnsInHanded_of_change_sized (C := Try.checked) own started (by kernel_rfl) Try.func5
    (ChangeSpec.witness6 (enc := enc) (C := Try.checked) false ⟨#[], #[.agg #[.slice none 0 0, .slice none 0 0], .bool false], []⟩ 8 (by kernel_rfl) (by kernel_rfl) (by kernel_rfl) (by kernel_rfl)) ?_
  intro W base args ds gs before hval0 hW hcnd hsz0 _
  have hsz : (DataW.weightsEach Try.prog (Try.f5.params.toList ++ []) (ds ++ gs)).all (· ≤ reachBytes) = true := hsz0
  clear hsz0
  have hval : ∀ (j : Nat) t v, Try.f5.params[j]? = some t → args[j]? = some v → Value.okWide Try.prog W .any base t v := hval0
  have hW' := hW
  have hlt := hW.lt
  obtain ⟨p, q, hA0, hV, rfl, hfz, hnd⟩ := hW
  have hA : DataW.TrodAll enc Try.prog W 0 (fun _ => true) true Try.f5.params.toList args.toList ds p := hA0
  rw [Try.params5] at hA hval
  obtain ⟨v0, vs0, d0, ds0, p0, q0, hargs, rfl, rfl, h0, r0⟩ := trodAll_cons hA
  obtain ⟨v1, vs1, d1, ds1, p1, q1, rfl, rfl, rfl, h1, r1⟩ := trodAll_cons r0
  obtain ⟨rfl, rfl, rfl⟩ := trodAll_nil r1
  obtain rfl : args = #[v0, v1] := by cases args; simp_all
  obtain ⟨rfl, rfl⟩ := trodVars_none hV
  obtain ⟨cs0, rfl, hcz0⟩ := okWide_struct Try.underlying24 (hval 0 24 v0 rfl rfl)
  rw [cellscopyhold_api_Net] at hcz0
  obtain ⟨c0_0, c0_1, rfl⟩ := array2_of hcz0
  obtain ⟨fuel0, hf0⟩ := h0
  obtain ⟨xs0, m0, _, hx0, _, hlen0, hfl0⟩ := DataW.trod_struct Try.underlying24 hf0
  obtain ⟨y0_0, y0_1, rfl⟩ := list2 hlen0
  have g0_0 : DataW.trod enc Try.prog W 0 (fun _ => true) true m0 22 [c0_0] = some y0_0 := by have h := hfl0 0 _ rfl; simpa [Value.cells, cells__string] using h
  have g0_1 : DataW.trod enc Try.prog W 0 (fun _ => true) true m0 22 [c0_1] = some y0_1 := by have h := hfl0 1 _ rfl; simpa [Value.cells, cells__string] using h
  simp only [Prod.mk.injEq] at hx0
  obtain ⟨rfl, hp0⟩ := hx0
  subst hp0
  have hw0_0 : ∀ n ∈ DataW.weights Try.prog 22 y0_0.1, n ≤ 140737488351232 := fun n hn => sized_deep hsz (by rw [Try.params5]; simp [DataW.weightsEach, DataW.weights, Try.underlying24, hn])
  obtain ⟨u0_0, a0_0, ev0_0, w0_0, e0_0⟩ := open_texts_at Try.underlying22 Try.underlying9 (by kernel_rfl) g0_0 (fun x hx => hlt x (by simp [hx]))
  obtain rfl : c0_0 = _ := by simpa using ev0_0
  have z0_0 := texts_sized Try.underlying22 (by kernel_rfl) e0_0 hw0_0
  have hw0_1 : ∀ n ∈ DataW.weights Try.prog 22 y0_1.1, n ≤ 140737488351232 := fun n hn => sized_deep hsz (by rw [Try.params5]; simp [DataW.weightsEach, DataW.weights, Try.underlying24, hn])
  obtain ⟨u0_1, a0_1, ev0_1, w0_1, e0_1⟩ := open_texts_at Try.underlying22 Try.underlying9 (by kernel_rfl) g0_1 (fun x hx => hlt x (by simp [hx]))
  obtain rfl : c0_1 = _ := by simpa using ev0_1
  have z0_1 := texts_sized Try.underlying22 (by kernel_rfl) e0_1 hw0_1
  obtain ⟨a1, rfl, rfl, rfl⟩ := open_bool Try.underlying4 (hval 1 4 v1 rfl rfl) h1
  refine (walk W c0_0 a0_0 w0_0 z0_0 c0_1 a0_1 w0_1 z0_1 a1).mono fun e W' ⟨he, hg⟩ => ?_
  subst he
  exact ⟨_, rfl, Copyhold.law_post laidOut (by kernel_rfl) (by kernel_rfl) Try.underlying4 rfl rfl rfl rfl hW' hg⟩

theorem over : Rows.netOrderRow.holds Try.pinned (OpenSpec.ofChange Rows.netOrderSpec) :=
  OpenClaim.holds_of_wide 5 Try.f5 rfl rfl rfl rfl rfl rfl rfl ⟨rfl, rfl, rfl, rfl, rfl⟩ rfl rfl rfl rfl rfl (by kernel_rfl) Try.func5 (by kernel_rfl)
    (of_decide_eq_true (by kernel_rfl)) (by unfold Func.isWrapper; first | (rw [if_pos (by decide +kernel)]; kernel_rfl) | (rw [if_neg (by decide +kernel)]; exact ⟨rfl, rfl⟩))
    (fun os started H enc _ => lifted os started H enc)

theorem proved : Rows.NetOrderSaid :=
  over
end Go.Proofs.Ytmpiglciplpfhaa.netOrder
