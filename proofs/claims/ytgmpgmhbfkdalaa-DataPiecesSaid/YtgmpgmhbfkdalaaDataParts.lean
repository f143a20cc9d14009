/- Proved: copyholdlaw09.DataParts returns true for every texts and numbers, and leaves them as they were: a part that is read, one that is written, and a text that is cut, are as the document says. No condition beyond the form's own reach. -/
import Derived.Test.YtgmpgmhbfkdalaaRef09W
import Derived.Test.YtgmpgmhbfkdalaaDataShown
import Derived.Test.YtgmpgmhbfkdalaaLaw
namespace Go.Proofs.Ytgmpgmhbfkdalaa.dataParts
open Go.ChangeShapes Go.WideShapes Go.ChangeAt Go.RowKit Copyhold
open Go.ChangeMaps (open_string shut_string)
set_option linter.unusedVariables false
attribute [local go_sem] piece

theorem readD_err (l : List UInt8) (a b : Int) : 0 ≤ (readD l a b).2 ∧ (readD l a b).2 ≤ 5 := by
  unfold readD
  split
  · exact ⟨Int.le_refl _, show (0 : Int) ≤ 5 by decide⟩
  · exact ⟨show (0 : Int) ≤ 1 by decide, show (1 : Int) ≤ 5 by decide⟩
theorem refusedD_err (a b : Int) : 0 ≤ refusedD a b ∧ refusedD a b ≤ 5 := by
  unfold refusedD
  split
  · split <;> decide
  · decide
theorem writeD_err (l : List UInt8) (a : Int) (t : List UInt8) : 0 ≤ (writeD l a t).2 ∧ (writeD l a t).2 ≤ 5 := by
  unfold writeD
  split
  · exact ⟨Int.le_refl _, show (0 : Int) ≤ 5 by decide⟩
  · exact refusedD_err _ _
theorem cutD_err (l : List UInt8) (n : Int) : 0 ≤ (cutD l n).2 ∧ (cutD l n).2 ≤ 5 := by
  unfold cutD
  split
  · exact ⟨Int.le_refl _, show (0 : Int) ≤ 5 by decide⟩
  · exact refusedD_err _ _

set_option maxRecDepth 100000 in
set_option maxHeartbeats 4000000 in
theorem walk (w : World) (s : List UInt8) (z0 : s.length ≤ 140737488351232) (n : Int) (w1 : (Lit.int .i64 n).wf = true) (m : Int) (w2 : (Lit.int .i64 m).wf = true) (t : List UInt8) (z3 : t.length ≤ 140737488351232) :
    Calls Try.prog 3 #[.agg #[.string ⟨s.toArray⟩, .int .i64 n, .int .i64 m, .string ⟨t.toArray⟩]] w fun e w' => e = .returned (.bool true) ∧ Below w.heap.size w w' := by
  have b1 : -9223372036854775808 ≤ n ∧ n ≤ 9223372036854775807 := by simpa [Lit.wf, IntKind.min, IntKind.max, IntKind.signed, IntKind.bits] using w1
  have b2 : -9223372036854775808 ≤ m ∧ m ≤ 9223372036854775807 := by simpa [Lit.wf, IntKind.min, IntKind.max, IntKind.signed, IntKind.bits] using w2
  obtain ⟨b10, b11⟩ := b1
  obtain ⟨b20, b21⟩ := b2
  clear w1 w2
  obtain ⟨W0, hW0⟩ : ∃ W0, W0 = w.alloc (.cells #[.string ⟨s.toArray⟩, .int .i64 n, .int .i64 m, .string ⟨t.toArray⟩] 23) := ⟨_, rfl⟩
  have hbW : Below w.heap.size w W0 := by rw [hW0]; exact (Below.refl _ _).alloc (Nat.le_refl _) _
  have HW := Lib.hid hW0
  clear hW0
  rcases (show 5000 < s.length ∨ s.length ≤ 5000 ∧ 5000 < t.length ∨ s.length ≤ 5000 ∧ t.length ≤ 5000 from by omega) with h | ⟨h1, h⟩ | ⟨h1, h⟩
  case inr.inr =>
    obtain ⟨r1, r2⟩ := readD_err s n m
    obtain ⟨q1, q2⟩ := writeD_err s n t
    obtain ⟨c1, c2⟩ := cutD_err s m
    obtain ⟨rd, hrd⟩ : ∃ rd, rd = readD s n m := ⟨_, rfl⟩
    obtain ⟨wd, hwd⟩ : ∃ wd, wd = writeD s n t := ⟨_, rfl⟩
    obtain ⟨cd, hcd⟩ : ∃ cd, cd = cutD s m := ⟨_, rfl⟩
    rw [← hrd] at r1 r2
    rw [← hwd] at q1 q2
    rw [← hcd] at c1 c2
    have HRD := Lib.hid hrd
    have HWD := Lib.hid hwd
    have HCD := Lib.hid hcd
    obtain ⟨rd1, rd2⟩ := rd
    obtain ⟨wd1, wd2⟩ := wd
    obtain ⟨cd1, cd2⟩ := cd
    simp only at r1 r2 q1 q2 c1 c2
    clear hrd hwd hcd
    go_enter Try.func3, Try.ntmps3
    go_wp2_with fail
    rw [← HW.out]
    refine (law_shown _).mono ?_
    rintro e w1 ⟨rfl, hb1⟩
    have hb1 := hbW.trans (hb1.mono hbW.size)
    clear hbW HW
    go_wp2_with fail
    refine (data_Read s n m _ (by omega) b10 b11 b20 b21).mono ?_
    rintro e w2 ⟨rfl, rfl⟩
    rw [← HRD.out]
    simp only
    go_wp2_with fail
    refine (ref09_Read s n m _ (by omega) b10 b11 b20 b21).mono ?_
    rintro e w2 ⟨rfl, hb2⟩
    have hb2 := hb1.trans (hb2.mono hb1.size)
    rw [← HRD.out]
    simp only
    clear hb1
    go_wp2_with fail
    refine (data_Write s n t _ (by omega) (by omega) b10 b11).mono ?_
    rintro e w3 ⟨rfl, hb3⟩
    have hb3 := hb2.trans (hb3.mono hb2.size)
    rw [← HWD.out]
    simp only
    clear hb2
    go_wp2_with fail
    refine (ref09_Write s n t _ (by omega) (by omega) b10 b11).mono ?_
    rintro e w4 ⟨rfl, hb4⟩
    have hb4 := hb3.trans (hb4.mono hb3.size)
    rw [← HWD.out]
    simp only
    clear hb3
    go_wp2_with fail
    refine (data_Cut s m _ (by omega) b20 b21).mono ?_
    rintro e w5 ⟨rfl, hb5⟩
    have hb5 := hb4.trans (hb5.mono hb4.size)
    rw [← HCD.out]
    simp only
    clear hb4
    go_wp2_with fail
    refine (ref09_Cut s m _ (by omega) b20 b21).mono ?_
    rintro e w6 ⟨rfl, hb6⟩
    have hb6 := hb5.trans (hb6.mono hb5.size)
    rw [← HCD.out]
    simp only
    clear hb5
    go_wp2_with fail
    go_ret
    exact ⟨rfl, hb6⟩
  all_goals
    go_enter Try.func3, Try.ntmps3
    go_wp2_with fail
    rw [← HW.out]
    refine (law_shown _).mono ?_
    rintro e w1 ⟨rfl, hb1⟩
    have hb1 := hbW.trans (hb1.mono hbW.size)
    go_wp2_with fail
    go_ret
    exact ⟨rfl, hb1⟩

theorem own : ownKnob Try.prog.godebug = none := by kernel_rfl
theorem laidOut : laidOutB Try.prog = true := by kernel_rfl
theorem cellscopyhold_copyholdlaw09_DataPartsIn : Try.prog.cellsOf 23 = 4 := by kernel_rfl
theorem cellsstring : Try.prog.cellsOf 9 = 1 := by kernel_rfl
theorem cellsint : Try.prog.cellsOf 3 = 1 := by kernel_rfl

set_option maxRecDepth 100000 in
set_option maxHeartbeats 1000000 in
theorem lifted (os : Os) (started : os.Started) (H : Type) (enc : TypeId × Value → H) :
    ReturnsInHanded {} Try.checked os 3 .any (Rows.dataPartsSpec.pre6 enc Try.prog Try.f3 Rows.dataPartsRow.domain false) (Rows.dataPartsSpec.post enc Try.prog Try.f3 false true false false) := by
  refine returnsInHanded_of_change_sized (C := Try.checked) own started (by kernel_rfl) Try.func3
    (ChangeSpec.witness6 (enc := enc) (C := Try.checked) false ⟨#[], #[.agg #[.string ByteArray.empty, .int .i64 0, .int .i64 0, .string ByteArray.empty]], []⟩ 8 (by kernel_rfl) (by kernel_rfl) (by kernel_rfl) (by kernel_rfl)) ?_
  intro W base args ds gs before hval0 hW hcnd hsz0 _
  have hsz : (DataW.weightsEach Try.prog (Try.f3.params.toList ++ []) (ds ++ gs)).all (· ≤ reachBytes) = true := hsz0
  clear hsz0
  have hval : ∀ (j : Nat) t v, Try.f3.params[j]? = some t → args[j]? = some v → Value.okWide Try.prog W .any base t v := hval0
  have hW' := hW
  have hlt := hW.lt
  obtain ⟨p, q, hA0, hV, rfl, hfz, hnd⟩ := hW
  have hA : DataW.TrodAll enc Try.prog W 0 (fun _ => true) true Try.f3.params.toList args.toList ds p := hA0
  rw [Try.params3] at hA hval
  obtain ⟨v0, vs0, d0, ds0, p0, q0, hargs, rfl, rfl, h0, r0⟩ := trodAll_cons hA
  obtain ⟨rfl, rfl, rfl⟩ := trodAll_nil r0
  obtain rfl : args = #[v0] := by cases args; simp_all
  obtain ⟨rfl, rfl⟩ := trodVars_none hV
  obtain ⟨cs0, rfl, hcz0⟩ := okWide_struct Try.underlying23 (hval 0 23 v0 rfl rfl)
  rw [cellscopyhold_copyholdlaw09_DataPartsIn] at hcz0
  obtain ⟨c0_0, c0_1, c0_2, c0_3, rfl⟩ := array4_of hcz0
  obtain ⟨fuel0, hf0⟩ := h0
  obtain ⟨xs0, m0, _, hx0, _, hlen0, hfl0⟩ := DataW.trod_struct Try.underlying23 hf0
  obtain ⟨y0_0, y0_1, y0_2, y0_3, rfl⟩ := list4 hlen0
  have g0_0 : DataW.trod enc Try.prog W 0 (fun _ => true) true m0 9 [c0_0] = some y0_0 := by have h := hfl0 0 _ rfl; simpa [Value.cells, cellsstring] using h
  have g0_1 : DataW.trod enc Try.prog W 0 (fun _ => true) true m0 3 [c0_1] = some y0_1 := by have h := hfl0 1 _ rfl; simpa [Value.cells, cellsint] using h
  have g0_2 : DataW.trod enc Try.prog W 0 (fun _ => true) true m0 3 [c0_2] = some y0_2 := by have h := hfl0 2 _ rfl; simpa [Value.cells, cellsint] using h
  have g0_3 : DataW.trod enc Try.prog W 0 (fun _ => true) true m0 9 [c0_3] = some y0_3 := by have h := hfl0 3 _ rfl; simpa [Value.cells, cellsstring] using h
  simp only [Prod.mk.injEq] at hx0
  obtain ⟨rfl, hp0⟩ := hx0
  subst hp0
  obtain ⟨s0_0, ev0_0, ey0_0, w0_0⟩ := DataW.trod_string Try.underlying9 g0_0
  obtain rfl : c0_0 = _ := by simpa using ev0_0
  subst ey0_0
  have z0_0 : s0_0.data.toList.length ≤ 140737488351232 := sized_deep hsz (by rw [Try.params3]; simp [DataW.weightsEach, DataW.weights, Try.underlying23])
  obtain ⟨a0_0, rfl⟩ : ∃ l : List UInt8, s0_0 = ⟨l.toArray⟩ := ⟨s0_0.data.toList, rfl⟩
  obtain ⟨a0_1, ev0_1, ey0_1, w0_1⟩ := DataW.trod_int Try.underlying3 g0_1
  obtain rfl : c0_1 = _ := by simpa using ev0_1
  subst ey0_1
  obtain ⟨a0_2, ev0_2, ey0_2, w0_2⟩ := DataW.trod_int Try.underlying3 g0_2
  obtain rfl : c0_2 = _ := by simpa using ev0_2
  subst ey0_2
  obtain ⟨s0_3, ev0_3, ey0_3, w0_3⟩ := DataW.trod_string Try.underlying9 g0_3
  obtain rfl : c0_3 = _ := by simpa using ev0_3
  subst ey0_3
  have z0_3 : s0_3.data.toList.length ≤ 140737488351232 := sized_deep hsz (by rw [Try.params3]; simp [DataW.weightsEach, DataW.weights, Try.underlying23])
  obtain ⟨a0_3, rfl⟩ : ∃ l : List UInt8, s0_3 = ⟨l.toArray⟩ := ⟨s0_3.data.toList, rfl⟩
  refine (walk W a0_0 z0_0 a0_1 w0_1 a0_2 w0_2 a0_3 z0_3).mono fun e W' ⟨he, hg⟩ => ?_
  subst he
  exact ⟨_, rfl, Copyhold.law_post laidOut (by kernel_rfl) (by kernel_rfl) Try.underlying4 rfl rfl rfl rfl hW' hg⟩

theorem over : Rows.dataPartsRow.holds Try.pinned (OpenSpec.ofChange Rows.dataPartsSpec) :=
  OpenClaim.holds_of_wide 3 Try.f3 rfl rfl rfl rfl rfl rfl rfl ⟨rfl, rfl, rfl, rfl, rfl⟩ rfl rfl rfl rfl rfl (by kernel_rfl) Try.func3 (by kernel_rfl)
    (of_decide_eq_true (by kernel_rfl)) (by unfold Func.isWrapper; first | (rw [if_pos (by decide +kernel)]; kernel_rfl) | (rw [if_neg (by decide +kernel)]; exact ⟨rfl, rfl⟩))
    (fun os started H enc _ => lifted os started H enc)

theorem proved : Rows.DataPartsSaid :=
  over
end Go.Proofs.Ytgmpgmhbfkdalaa.dataParts
