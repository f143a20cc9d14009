/- Proved: copyholdlaw09.DataSplit returns true for every input, and leaves it as it was: a part that is read in two pieces is the part; what is written in two pieces is written at once. No condition beyond the form's own reach. -/
import Derived.Test.YtgmpgmhbfkdalaaDataShown
import Derived.Test.YtgmpgmhbfkdalaaLaw
namespace Go.Proofs.Ytgmpgmhbfkdalaa.dataSplit
open Go.ChangeShapes Go.WideShapes Go.ChangeAt Go.RowKit Copyhold
open Go.ChangeMaps (open_string shut_string)
set_option linter.unusedVariables false
attribute [local go_sem] piece

theorem readD_ok (l : List UInt8) (a b : Nat) (ha : a ≤ 5000) (hb : b ≤ 5000) : readD l a b = ((l.drop a).take b, 0) := by
  unfold readD
  rw [if_pos (by omega)]
  simp
theorem writeD_ok (l : List UInt8) (a : Nat) (t : List UInt8) (h : a + t.length ≤ 4096) : writeD l a t = (if t = [] then l else putD l a t, 0) := by
  have hr : refusedD a t.length = 0 := by
    unfold refusedD
    rw [if_pos (by omega), if_neg (by omega)]
  unfold writeD
  rw [if_pos hr, Int.toNat_natCast]

theorem get_fillD (l : List UInt8) (n i : Nat) : (fillD l n)[i]? = if i < n then some (l.getD i 0) else none := by
  unfold fillD
  rw [List.getElem?_append, List.length_take]
  by_cases h : i < n
  · rw [if_pos h]
    by_cases h2 : i < l.length
    · rw [if_pos (by omega), List.getElem?_take, if_pos h]
      simp [List.getD, h2]
    · rw [if_neg (by omega), List.getElem?_replicate, if_pos (by omega)]
      simp [List.getD, h2]
  · rw [if_neg h, if_neg (by omega), List.getElem?_replicate, if_neg (by omega)]

theorem get_putD (l : List UInt8) (a : Nat) (t : List UInt8) (i : Nat) : (putD l a t)[i]? = if i < max l.length (a + t.length) then some (if a ≤ i ∧ i < a + t.length then t.getD (i - a) 0 else l.getD i 0) else none := by
  unfold putD
  generalize hm : max l.length (a + t.length) = m
  rw [List.append_assoc, List.getElem?_append, List.length_take, fillD_length]
  by_cases h : i < a
  · rw [if_pos (by omega), List.getElem?_take, if_pos h, get_fillD, if_pos (by omega), if_pos (by omega), if_neg (by omega)]
  · rw [if_neg (by omega), show min a m = a from by omega, List.getElem?_append]
    by_cases h2 : i - a < t.length
    · rw [if_pos h2, if_pos (by omega), if_pos (by omega)]
      simp [List.getD, h2]
    · rw [if_neg h2, List.getElem?_drop, show a + t.length + (i - a - t.length) = i from by omega, get_fillD]
      by_cases h3 : i < m
      · rw [if_pos h3, if_pos h3, if_neg (by omega)]
      · rw [if_neg h3, if_neg h3]

/-- what is written in two pieces is written at once -/
theorem putD_two (l a b : List UInt8) (n : Nat) (ha : a ≠ []) (hb : b ≠ []) : putD (putD l n a) (n + a.length) b = putD l n (a ++ b) := by
  apply List.ext_getElem?
  intro i
  have ha' : 0 < a.length := List.length_pos_iff.2 ha
  have hb' : 0 < b.length := List.length_pos_iff.2 hb
  rw [get_putD, get_putD, putD_length, List.length_append]
  by_cases h : i < max l.length (n + (a.length + b.length))
  · rw [if_pos (by omega), if_pos h]
    congr 1
    by_cases h1 : n + a.length ≤ i ∧ i < n + a.length + b.length
    · rw [if_pos h1, if_pos (by omega)]
      simp only [List.getD]
      rw [List.getElem?_append_right (by omega), show i - n - a.length = i - (n + a.length) from by omega]
    · rw [if_neg h1]
      simp only [List.getD]
      rw [get_putD]
      by_cases h2 : n ≤ i ∧ i < n + a.length
      · rw [if_pos (by omega), if_pos h2, if_pos (by omega), List.getElem?_append_left (by omega)]
        simp [List.getD]
      · rw [if_neg (show ¬ (n ≤ i ∧ i < n + (a.length + b.length)) from by omega)]
        by_cases h3 : i < max l.length (n + a.length)
        · rw [if_pos h3, if_neg h2]
          simp [List.getD]
        · rw [if_neg h3, List.getElem?_eq_none (show l.length ≤ i from by omega)]
  · rw [if_neg (by omega), if_neg h]

theorem two (l a b : List UInt8) (n : Nat) (h : n + a.length + b.length ≤ 4096) :
    (writeD (writeD l n a).1 ((n : Int) + a.length) b) = (writeD l n (a ++ b)) ∧ (writeD l n (a ++ b)).2 = 0 := by
  rw [writeD_ok l n a (by omega), show (n : Int) + a.length = ((n + a.length : Nat) : Int) from by omega, writeD_ok _ _ b (by omega), writeD_ok l n (a ++ b) (by rw [List.length_append]; omega)]
  refine ⟨?_, rfl⟩
  by_cases hb : b = []
  · subst hb
    simp
  · by_cases ha : a = []
    · subst ha
      simp
    · rw [if_neg hb, if_neg ha, if_neg (by simp [ha]), putD_two l a b n ha hb]

theorem writeD_len (l : List UInt8) (a : Int) (t : List UInt8) (hl : l.length ≤ 4096) : (writeD l a t).1.length ≤ 4096 := by
  unfold writeD
  split
  · rename_i h
    have := refusedD_zero h
    show (if t = [] then l else putD l a.toNat t).length ≤ 4096
    split
    · exact hl
    · rw [putD_length]; omega
  · exact hl

theorem facts (s a b : List UInt8) (n : Int) (h3 : 0 ≤ n) (h : n ≤ 90) (h1 : s.length ≤ 2000) (h2 : a.length + b.length ≤ 2000) :
    ∃ x y m k e, x.length ≤ 7 ∧ y.length ≤ 9 ∧ readD s n 7 = (x, 0) ∧ readD s (n + 7) 9 = (y, 0) ∧ readD s n 16 = (x ++ y, 0) ∧ writeD s n a = (k, e) ∧ k.length ≤ 4096 ∧ writeD k (n + a.length) b = (m, 0) ∧ writeD s n (a ++ b) = (m, 0) := by
  obtain ⟨n, rfl⟩ := Int.eq_ofNat_of_zero_le h3
  have hx := readD_ok s n 7 (by omega) (by omega)
  have hy : readD s ((n : Int) + 7) 9 = (((s.drop n).drop 7).take 9, 0) := by
    rw [List.drop_drop]
    exact readD_ok s (n + 7) 9 (by omega) (by omega)
  have hz : readD s n 16 = ((s.drop n).take 7 ++ ((s.drop n).drop 7).take 9, 0) := by
    rw [← List.take_add]
    exact readD_ok s n 16 (by omega) (by omega)
  obtain ⟨ht, hm⟩ := two s a b n (by omega)
  have hk := writeD_len s n a (by omega)
  have hM : writeD s n (a ++ b) = ((writeD s n (a ++ b)).1, 0) := by rw [← hm]
  exact ⟨_, _, (writeD s n (a ++ b)).1, (writeD s n a).1, (writeD s n a).2, by rw [List.length_take]; omega, by rw [List.length_take]; omega, hx, hy, hz, rfl, hk, by rw [ht]; exact hM, hM⟩

set_option maxRecDepth 100000 in
set_option maxHeartbeats 2000000 in
theorem walk (w : World) (s : List UInt8) (z0 : s.length ≤ 140737488351232) (n : Int) (w1 : (Lit.int .i64 n).wf = true) (a : List UInt8) (z2 : a.length ≤ 140737488351232) (b : List UInt8) (z3 : b.length ≤ 140737488351232) :
    Calls Try.prog 8 #[.agg #[.string ⟨s.toArray⟩, .int .i64 n, .string ⟨a.toArray⟩, .string ⟨b.toArray⟩]] w fun e w' => e = .returned (.bool true) ∧ Below w.heap.size w w' := by
  have b1 : -9223372036854775808 ≤ n ∧ n ≤ 9223372036854775807 := by simpa [Lit.wf, IntKind.min, IntKind.max, IntKind.signed, IntKind.bits] using w1
  obtain ⟨b10, b11⟩ := b1
  clear w1
  rcases (show 2000 < s.length ∨ s.length ≤ 2000 ∧ 2000 < a.length + b.length ∨ s.length ≤ 2000 ∧ a.length + b.length ≤ 2000 ∧ n < 0 ∨ s.length ≤ 2000 ∧ a.length + b.length ≤ 2000 ∧ 0 ≤ n ∧ 90 < n ∨ s.length ≤ 2000 ∧ a.length + b.length ≤ 2000 ∧ 0 ≤ n ∧ n ≤ 90 from by omega) with h | ⟨h1, h⟩ | ⟨h1, h2, h⟩ | ⟨h1, h2, h3, h⟩ | ⟨h1, h2, h3, h⟩
  case inr.inr.inr.inr =>
    obtain ⟨x, y, m, k1, e1, hxl, hyl, hx, hy, hz, hK1, hk, ht, hM⟩ := facts s a b n h3 h h1 h2
    have HKL := Lib.hid hk
    have HX := Lib.hid hx
    have HY := Lib.hid hy
    have HZ := Lib.hid hz
    have HT := Lib.hid ht
    have HM := Lib.hid hM
    have HK := Lib.hid hK1
    obtain ⟨W0, hW0⟩ : ∃ W0, W0 = w.alloc (.cells #[.string ⟨s.toArray⟩, .int .i64 n, .string ⟨a.toArray⟩, .string ⟨b.toArray⟩] 54) := ⟨_, rfl⟩
    have hbW : Below w.heap.size w W0 := by rw [hW0]; exact (Below.refl _ _).alloc (Nat.le_refl _) _
    have HW := Lib.hid hW0
    clear hW0 hx hy hz ht hM hK1 b10 b11 z0 z2 z3 hk
    go_enter Try.func8, Try.ntmps8
    go_wp2_with fail
    rw [← HW.out]
    refine (law_shown _).mono ?_
    rintro e w1 ⟨rfl, hb1⟩
    have hb1 := hbW.trans (hb1.mono hbW.size)
    clear hbW HW
    go_wp2_with fail
    refine (data_Read s n 7 _ (by omega) (by omega) (by omega) (by decide) (by decide)).mono ?_
    rintro e w2 ⟨rfl, rfl⟩
    rw [HX.out]
    go_wp2_with fail
    refine (data_Read s (n + 7) 9 _ (by omega) (by omega) (by omega) (by decide) (by decide)).mono ?_
    rintro e w2 ⟨rfl, rfl⟩
    rw [HY.out]
    go_wp2_with fail
    refine (data_Read s n 16 _ (by omega) (by omega) (by omega) (by decide) (by decide)).mono ?_
    rintro e w2 ⟨rfl, rfl⟩
    rw [HZ.out]
    go_wp2_with fail
    refine (data_Write s n a _ (by omega) (by omega) (by omega) (by omega)).mono ?_
    rintro e w3 ⟨rfl, hb3⟩
    have hb3 := hb1.trans (hb3.mono hb1.size)
    rw [HK.out]
    clear hb1
    go_wp2_with fail
    refine (data_Write k1 (n + a.length) b _ (by have := HKL.out; omega) (by omega) (by omega) (by omega)).mono ?_
    rintro e w4 ⟨rfl, hb4⟩
    have hb4 := hb3.trans (hb4.mono hb3.size)
    rw [HT.out]
    clear hb3
    go_wp2_with fail
    refine (data_Write s n (a ++ b) _ (by omega) (by rw [List.length_append]; omega) (by omega) (by omega)).mono ?_
    rintro e w5 ⟨rfl, hb5⟩
    have hb5 := hb4.trans (hb5.mono hb4.size)
    rw [HM.out]
    clear hb4
    go_wp2_with fail
    go_ret
    exact ⟨rfl, hb5⟩
  all_goals
    obtain ⟨W0, hW0⟩ : ∃ W0, W0 = w.alloc (.cells #[.string ⟨s.toArray⟩, .int .i64 n, .string ⟨a.toArray⟩, .string ⟨b.toArray⟩] 54) := ⟨_, rfl⟩
    have hbW : Below w.heap.size w W0 := by rw [hW0]; exact (Below.refl _ _).alloc (Nat.le_refl _) _
    have HW := Lib.hid hW0
    clear hW0
    go_enter Try.func8, Try.ntmps8
    go_wp2_with fail
    rw [← HW.out]
    refine (law_shown _).mono ?_
    rintro e w1 ⟨rfl, hb1⟩
    have hb1 := hbW.trans (hb1.mono hbW.size)
    go_wp2_with fail
    go_ret
    exact ⟨rfl, hb1⟩

theorem own : ownKnob Try.prog.godebug = none := by kernel_rfl
theorem laidOut : laidOutB Try.prog = true := by kernel_rfl
theorem cellscopyhold_copyholdlaw09_DataSplitIn : Try.prog.cellsOf 54 = 4 := by kernel_rfl
theorem cellsstring : Try.prog.cellsOf 9 = 1 := by kernel_rfl
theorem cellsint : Try.prog.cellsOf 3 = 1 := by kernel_rfl

set_option maxRecDepth 100000 in
set_option maxHeartbeats 1000000 in
theorem lifted (os : Os) (started : os.Started) (H : Type) (enc : TypeId × Value → H) :
    ReturnsInHanded {} Try.checked os 8 .any (Rows.dataSplitSpec.pre6 enc Try.prog Try.f8 Rows.dataSplitRow.domain false) (Rows.dataSplitSpec.post enc Try.prog Try.f8 false true false false) := by
  refine returnsInHanded_of_change_sized (C := Try.checked) own started (by kernel_rfl) Try.func8
    (ChangeSpec.witness6 (enc := enc) (C := Try.checked) false ⟨#[], #[.agg #[.string ByteArray.empty, .int .i64 0, .string ByteArray.empty, .string ByteArray.empty]], []⟩ 8 (by kernel_rfl) (by kernel_rfl) (by kernel_rfl) (by kernel_rfl)) ?_
  intro W base args ds gs before hval0 hW hcnd hsz0 _
  have hsz : (DataW.weightsEach Try.prog (Try.f8.params.toList ++ []) (ds ++ gs)).all (· ≤ reachBytes) = true := hsz0
  clear hsz0
  have hval : ∀ (j : Nat) t v, Try.f8.params[j]? = some t → args[j]? = some v → Value.okWide Try.prog W .any base t v := hval0
  have hW' := hW
  have hlt := hW.lt
  obtain ⟨p, q, hA0, hV, rfl, hfz, hnd⟩ := hW
  have hA : DataW.TrodAll enc Try.prog W 0 (fun _ => true) true Try.f8.params.toList args.toList ds p := hA0
  rw [Try.params8] at hA hval
  obtain ⟨v0, vs0, d0, ds0, p0, q0, hargs, rfl, rfl, h0, r0⟩ := trodAll_cons hA
  obtain ⟨rfl, rfl, rfl⟩ := trodAll_nil r0
  obtain rfl : args = #[v0] := by cases args; simp_all
  obtain ⟨rfl, rfl⟩ := trodVars_none hV
  obtain ⟨cs0, rfl, hcz0⟩ := okWide_struct Try.underlying54 (hval 0 54 v0 rfl rfl)
  rw [cellscopyhold_copyholdlaw09_DataSplitIn] at hcz0
  obtain ⟨c0_0, c0_1, c0_2, c0_3, rfl⟩ := array4_of hcz0
  obtain ⟨fuel0, hf0⟩ := h0
  obtain ⟨xs0, m0, _, hx0, _, hlen0, hfl0⟩ := DataW.trod_struct Try.underlying54 hf0
  obtain ⟨y0_0, y0_1, y0_2, y0_3, rfl⟩ := list4 hlen0
  have g0_0 : DataW.trod enc Try.prog W 0 (fun _ => true) true m0 9 [c0_0] = some y0_0 := by have h := hfl0 0 _ rfl; simpa [Value.cells, cellsstring] using h
  have g0_1 : DataW.trod enc Try.prog W 0 (fun _ => true) true m0 3 [c0_1] = some y0_1 := by have h := hfl0 1 _ rfl; simpa [Value.cells, cellsint] using h
  have g0_2 : DataW.trod enc Try.prog W 0 (fun _ => true) true m0 9 [c0_2] = some y0_2 := by have h := hfl0 2 _ rfl; simpa [Value.cells, cellsstring] using h
  have g0_3 : DataW.trod enc Try.prog W 0 (fun _ => true) true m0 9 [c0_3] = some y0_3 := by have h := hfl0 3 _ rfl; simpa [Value.cells, cellsstring] using h
  simp only [Prod.mk.injEq] at hx0
  obtain ⟨rfl, hp0⟩ := hx0
  subst hp0
  obtain ⟨s0_0, ev0_0, ey0_0, w0_0⟩ := DataW.trod_string Try.underlying9 g0_0
  obtain rfl : c0_0 = _ := by simpa using ev0_0
  subst ey0_0
  have z0_0 : s0_0.data.toList.length ≤ 140737488351232 := sized_deep hsz (by rw [Try.params8]; simp [DataW.weightsEach, DataW.weights, Try.underlying54])
  obtain ⟨a0_0, rfl⟩ : ∃ l : List UInt8, s0_0 = ⟨l.toArray⟩ := ⟨s0_0.data.toList, rfl⟩
  obtain ⟨a0_1, ev0_1, ey0_1, w0_1⟩ := DataW.trod_int Try.underlying3 g0_1
  obtain rfl : c0_1 = _ := by simpa using ev0_1
  subst ey0_1
  obtain ⟨s0_2, ev0_2, ey0_2, w0_2⟩ := DataW.trod_string Try.underlying9 g0_2
  obtain rfl : c0_2 = _ := by simpa using ev0_2
  subst ey0_2
  have z0_2 : s0_2.data.toList.length ≤ 140737488351232 := sized_deep hsz (by rw [Try.params8]; simp [DataW.weightsEach, DataW.weights, Try.underlying54])
  obtain ⟨a0_2, rfl⟩ : ∃ l : List UInt8, s0_2 = ⟨l.toArray⟩ := ⟨s0_2.data.toList, rfl⟩
  obtain ⟨s0_3, ev0_3, ey0_3, w0_3⟩ := DataW.trod_string Try.underlying9 g0_3
  obtain rfl : c0_3 = _ := by simpa using ev0_3
  subst ey0_3
  have z0_3 : s0_3.data.toList.length ≤ 140737488351232 := sized_deep hsz (by rw [Try.params8]; simp [DataW.weightsEach, DataW.weights, Try.underlying54])
  obtain ⟨a0_3, rfl⟩ : ∃ l : List UInt8, s0_3 = ⟨l.toArray⟩ := ⟨s0_3.data.toList, rfl⟩
  refine (walk W a0_0 z0_0 a0_1 w0_1 a0_2 z0_2 a0_3 z0_3).mono fun e W' ⟨he, hg⟩ => ?_
  subst he
  exact ⟨_, rfl, Copyhold.law_post laidOut (by kernel_rfl) (by kernel_rfl) Try.underlying4 rfl rfl rfl rfl hW' hg⟩

theorem over : Rows.dataSplitRow.holds Try.pinned (OpenSpec.ofChange Rows.dataSplitSpec) :=
  OpenClaim.holds_of_wide 8 Try.f8 rfl rfl rfl rfl rfl rfl rfl ⟨rfl, rfl, rfl, rfl, rfl⟩ rfl rfl rfl rfl rfl (by kernel_rfl) Try.func8 (by kernel_rfl)
    (of_decide_eq_true (by kernel_rfl)) (by unfold Func.isWrapper; first | (rw [if_pos (by decide +kernel)]; kernel_rfl) | (rw [if_neg (by decide +kernel)]; exact ⟨rfl, rfl⟩))
    (fun os started H enc _ => lifted os started H enc)

theorem proved : Rows.DataSplitSaid :=
  over
end Go.Proofs.Ytgmpgmhbfkdalaa.dataSplit
