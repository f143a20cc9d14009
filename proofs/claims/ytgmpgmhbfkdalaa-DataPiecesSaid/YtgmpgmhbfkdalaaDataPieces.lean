/- Proved: copyholdlaw09.DataPieces returns true for every texts, pairs and pieces, and leaves them as they were: where two texts differ, some parts, and what they are patched to, are as the document says. No condition beyond the form's own reach. -/
import Derived.Test.YtgmpgmhbfkdalaaRow09
import Derived.Test.YtgmpgmhbfkdalaaDataMendsP
import Derived.Test.YtgmpgmhbfkdalaaDataParts
import Derived.Test.YtgmpgmhbfkdalaaLaw
namespace Go.Proofs.Ytgmpgmhbfkdalaa.dataPieces
open Go.ChangeShapes Go.WideShapes Go.ChangeAt Go.RowKit Copyhold
open Go.ChangeMaps (open_string shut_string)
set_option linter.unusedVariables false
attribute [local go_sem] piece

set_option maxHeartbeats 1000000 in
theorem ref09_Patch_any (s : List UInt8) (xs : List (Nat × Nat)) (ts : List (List UInt8)) (lv pv : Value) (w : World) (hl : s.length ≤ 524288) (hn : xs.length ≤ 8796093022208) (hm : ts.length ≤ 9223372036854775807) (hx : Fit xs) (ht : xs.length = ts.length → ∀ t ∈ ts, t.length ≤ 524288)
    (hr : Row w lv (xs.map spanV)) (hp : Row w pv (ts.map strV)) :
    Calls Try.prog 20 #[.string ⟨s.toArray⟩, lv, pv] w fun e w' => e = .returned (.tuple #[.string ⟨(patchD s xs ts).1.toArray⟩, .int .i64 (patchD s xs ts).2]) ∧ Below w.heap.size w w' := by
  by_cases hle : xs.length = ts.length
  · exact ref09_Patch s xs ts lv pv w hl hn hm hx (ht hle) hr hp
  · obtain ⟨A, c, rfl⟩ := hr.shape
    obtain ⟨A', c', rfl⟩ := hp.shape
    rw [List.length_map, List.length_map]
    have hpd : patchD s xs ts = (s, 1) := if_neg hle
    rw [hpd]
    have hq : ((xs.length : Int) != (ts.length : Int)) = true := by rw [bne_iff_ne]; omega
    clear hpd hx ht hr hp
    go_enter Try.func20, Try.ntmps20
    go_wp2_with fail
    go_ret2
    exact ⟨rfl, Below.refl _ _⟩

theorem sum_le (ls : List (List UInt8)) (h : ∀ l ∈ ls, l.length ≤ 140737488351232) : (ls.map List.length).sum ≤ ls.length * 140737488351232 := by
  induction ls with
  | nil => simp
  | cons x r ih =>
    have h1 := h x List.mem_cons_self
    have h2 := ih fun l hl => h l (List.mem_cons_of_mem _ hl)
    simp only [List.map_cons, List.sum_cons, List.length_cons]
    omega
theorem mem_sum (ls : List (List UInt8)) (l : List UInt8) (h : l ∈ ls) : l.length ≤ (ls.map List.length).sum := by
  induction ls with
  | nil => cases h
  | cons x r ih =>
    simp only [List.map_cons, List.sum_cons]
    rcases List.mem_cons.1 h with rfl | h
    · omega
    · have := ih h; omega
theorem longK_sum (ls : List (List UInt8)) (hl : ls.length ≤ 20) (h : ∀ l ∈ ls, l.length ≤ 140737488351232) : ∀ k, k ≤ ls.length → longK ls k = ls.length + ((ls.take k).map List.length).sum := by
  intro k
  induction k with
  | zero => intro _; simp [longK]
  | succ k ih =>
    intro hk
    have hs := sum_le (ls.take (k + 1)) fun l hm => h l (List.mem_of_mem_take hm)
    have e : ((ls.take (k + 1)).map List.length).sum = ((ls.take k).map List.length).sum + ls[k].length := by
      rw [List.take_succ_eq_append_getElem (by omega), List.map_append, List.sum_append]
      rfl
    have e2 : (ls.getD k []).length = ls[k].length := by simp [List.getD, show k < ls.length by omega]
    rw [List.length_take] at hs
    have hb : min (k + 1) ls.length * 140737488351232 ≤ 20 * 140737488351232 := Nat.mul_le_mul_right _ (by omega)
    rw [longK, ih (by omega), e2, IntWalk.wrap64_in _ ⟨by omega, by omega⟩, e]
    omega
theorem long_short (ls : List (List UInt8)) (hl : ls.length ≤ 20) (h : ∀ l ∈ ls, l.length ≤ 140737488351232) (h5 : longK ls ls.length ≤ 5000) : ∀ l ∈ ls, l.length ≤ 5000 := by
  intro l hm
  have := longK_sum ls hl h ls.length (Nat.le_refl _)
  rw [List.take_length] at this
  have h2 := mem_sum ls l hm
  omega

theorem patchGo_err (s : List UInt8) : ∀ (xs : List (Nat × Nat)) (out : List UInt8) (ts : List (List UInt8)), 0 ≤ (patchGo s out xs ts).2 ∧ (patchGo s out xs ts).2 ≤ 5
  | [], out, ts => by simp [patchGo]
  | p :: xs, out, [] => by simp [patchGo]
  | p :: xs, out, t :: ts => by
    rw [patchGo]
    split
    · exact patchGo_err s xs _ ts
    · exact dataParts.writeD_err _ _ _
theorem patchD_err (s : List UInt8) (xs : List (Nat × Nat)) (ts : List (List UInt8)) : 0 ≤ (patchD s xs ts).2 ∧ (patchD s xs ts).2 ≤ 5 := by
  unfold patchD
  split
  · exact patchGo_err s xs s ts
  · exact ⟨show (0 : Int) ≤ 1 by decide, show (1 : Int) ≤ 5 by decide⟩
theorem fit_small {xs : List (Nat × Nat)} (h : Fit xs) : Small xs := fun p hp => by have := h p hp; omega

set_option maxRecDepth 100000 in
set_option maxHeartbeats 4000000 in
theorem walk (w : World) (s : List UInt8) (z0 : s.length ≤ 140737488351232) (t : List UInt8) (z1 : t.length ≤ 140737488351232) (lv : Value) (ps : List (Int × Int)) (hsl : Sl w 2 lv ps.length (ps.flatMap pairV)) (hwf : ∀ p ∈ ps, (Lit.int .i64 p.1).wf = true ∧ (Lit.int .i64 p.2).wf = true) (zps : ps.length ≤ 8796093022207)
    (pv : Value) (ls : List (List UInt8)) (hrow : Row w pv (ls.map strV)) (zl : ls.length ≤ 8796093022207 ∧ ∀ l ∈ ls, l.length ≤ 140737488351232) :
    Calls Try.prog 4 #[.agg #[.string ⟨s.toArray⟩, .string ⟨t.toArray⟩, lv, pv]] w fun e w' => e = .returned (.bool true) ∧ Below w.heap.size w w' := by
  obtain ⟨A, c, rfl, -, -⟩ := hsl.shape
  obtain ⟨B, d, rfl⟩ := hrow.shape
  rw [List.length_map] at hrow ⊢
  obtain ⟨W0, hW0⟩ : ∃ W0, W0 = w.alloc (.cells #[.string ⟨s.toArray⟩, .string ⟨t.toArray⟩, .slice A ps.length c, .slice B ls.length d] 38) := ⟨_, rfl⟩
  have hbW : Below w.heap.size w W0 := by rw [hW0]; exact (Below.refl _ _).alloc (Nat.le_refl _) _
  have HW := Lib.hid hW0
  have HSL := Lib.hid (hsl.below hbW)
  have HRW := Lib.hid (hrow.below hbW)
  have HWF := Lib.hid hwf
  obtain ⟨zl1, zl2⟩ := zl
  have HZ := Lib.hid zl2
  have HB0 := Lib.hid hbW
  clear hW0 hsl hrow hwf zl2 hbW
  rcases (show 4000 < s.length + t.length ∨ s.length + t.length ≤ 4000 ∧ 20 < ps.length ∨ s.length + t.length ≤ 4000 ∧ ps.length ≤ 20 from by omega) with h | ⟨h1, h⟩ | ⟨h1, h⟩
  case inr.inr =>
    go_enter Try.func4, Try.ntmps4
    go_wp2_with fail
    rw [← HW.out]
    refine (law_shown _).mono ?_
    rintro e w1 ⟨rfl, hb1⟩
    have HB1 := Lib.hid (below_trans HB0.out hb1 HB0.out.size)
    have HSL1 := Lib.hid (HSL.out.below hb1)
    have HR1 := Lib.hid (HRW.out.below hb1)
    clear hb1 HW HSL HRW HB0
    go_wp2_with fail
    refine (ref_LongAny (.slice B ls.length d) ls _ HR1.out (by omega)).mono ?_
    rintro e w2 ⟨rfl, rfl⟩
    obtain ⟨g, hg⟩ : ∃ g, g = longK ls ls.length := ⟨_, rfl⟩
    rw [← hg]
    have HG := Lib.hid hg
    clear hg
    by_cases hg5 : 5000 < g
    · go_wp2_with fail
      go_ret
      exact ⟨rfl, HB1.out⟩
    · go_wp2_with fail
      refine (law_row ps (.slice A ps.length c) _ (by omega) HSL1.out HWF.out).mono ?_
      rintro e w3 ⟨v3, rfl, hown3, hb3⟩
      have HB3 := Lib.hid (below_trans HB1.out hb3 HB1.out.size)
      have HR3 := Lib.hid (HR1.out.below hb3)
      have HK3 := Lib.hid (Row.of_owns hown3)
      obtain ⟨C, cc, rfl⟩ := (Row.of_owns hown3).shape
      have hfit := rowD_fit ps
      have hkl := rowD_len ps
      obtain ⟨xs, hxs⟩ : ∃ xs, xs = rowD ps := ⟨_, rfl⟩
      rw [← hxs] at hfit hkl HK3 ⊢
      have HFIT := Lib.hid hfit
      rw [List.length_map] at HK3 ⊢
      have hts : xs.length = ls.length → ∀ l ∈ ls, l.length ≤ 524288 := fun e l hm => by
        have := long_short ls (by omega) HZ.out (by rw [← HG.out]; omega) l hm
        omega
      have HTS := Lib.hid hts
      clear hown3 hb3 HSL1 HR1 hxs hfit hts
      obtain ⟨q1, q2⟩ := patchD_err s xs ls
      obtain ⟨pd, hpd⟩ : ∃ pd, pd = patchD s xs ls := ⟨_, rfl⟩
      rw [← hpd] at q1 q2
      have HPD := Lib.hid hpd
      obtain ⟨pd1, pd2⟩ := pd
      simp only at q1 q2
      clear hpd
      go_wp2_with fail
      refine (data_Patch s xs ls (.slice C xs.length cc) (.slice B ls.length d) _ (by omega) (by omega) (by omega) (fit_small HFIT.out) (fun l hm => Nat.le_trans (HZ.out l hm) (by omega)) HK3.out HR3.out).mono ?_
      rintro e w4 ⟨rfl, hb4⟩
      have HB4 := Lib.hid (below_trans HB3.out hb4 HB3.out.size)
      have HR4 := Lib.hid (HR3.out.below hb4)
      have HK4 := Lib.hid (HK3.out.below hb4)
      rw [← HPD.out]
      simp only
      clear hb4 HR3 HK3
      go_wp2_with fail
      refine (ref09_Patch_any s xs ls (.slice C xs.length cc) (.slice B ls.length d) _ (by omega) (by omega) (by omega) HFIT.out HTS.out HK4.out HR4.out).mono ?_
      rintro e w5 ⟨rfl, hb5⟩
      have HB5 := Lib.hid (below_trans HB4.out hb5 HB4.out.size)
      have HK5 := Lib.hid (HK4.out.below hb5)
      rw [← HPD.out]
      simp only
      clear hb5 HR4 HK4
      have HSM := Lib.hid (dataMends.small_unlike s t (by omega))
      have hul := dataMends.unlike_len s t
      obtain ⟨us, hus⟩ : ∃ us, us = unlikeD s t := ⟨_, rfl⟩
      rw [← hus] at hul HSM
      have HUS := Lib.hid hus
      clear hus
      go_wp2_with fail
      refine (data_Unlike s t _ (by omega) (by omega)).mono ?_
      rw [← HUS.out]
      rintro e w6 ⟨v6, rfl, hown6, hb6⟩
      have HB6 := Lib.hid (below_trans HB5.out hb6 HB5.out.size)
      have HK6 := Lib.hid (HK5.out.below hb6)
      have HU6 := Lib.hid (Row.of_owns hown6)
      obtain ⟨E, ec, rfl⟩ := (Row.of_owns hown6).shape
      rw [List.length_map] at HU6 ⊢
      clear hown6 hb6 HK5
      go_wp2_with fail
      refine (ref09_Unlike s t _ (by omega) (by omega)).mono ?_
      rw [← HUS.out]
      rintro e w7 ⟨v7, rfl, hown7, hb7⟩
      have HB7 := Lib.hid (below_trans HB6.out hb7 HB6.out.size)
      have HK7 := Lib.hid (HK6.out.below hb7)
      have HU7 := Lib.hid (HU6.out.below hb7)
      have HV7 := Lib.hid (Row.of_owns hown7)
      obtain ⟨G, gc, rfl⟩ := (Row.of_owns hown7).shape
      rw [List.length_map] at HV7 ⊢
      clear hown7 hb7 HK6 HU6
      go_wp2_with fail
      refine (ref_Same us us (.slice E us.length ec) (.slice G us.length gc) _ (by omega) (by omega) HSM.out HSM.out HU7.out HV7.out).mono ?_
      rintro e w8 ⟨rfl, hb8⟩
      have HB8 := Lib.hid (below_trans HB7.out hb8 HB7.out.size)
      have HK8 := Lib.hid (HK7.out.below hb8)
      rw [decide_eq_true rfl]
      clear hb8 HK7 HU7 HV7
      have hpl : (piecesD s xs).length = xs.length := by simp [piecesD]
      obtain ⟨qs, hqs⟩ : ∃ qs, qs = piecesD s xs := ⟨_, rfl⟩
      rw [← hqs] at hpl
      have HQS := Lib.hid hqs
      have hql : qs.length ≤ 20 := by omega
      clear hqs hpl
      go_wp2_with fail
      refine (data_Pieces s xs (.slice C xs.length cc) _ (by omega) (by omega) (fit_small HFIT.out) HK8.out).mono ?_
      rw [← HQS.out]
      rintro e w9 ⟨v9, rfl, hown9, hb9⟩
      have HB9 := Lib.hid (below_trans HB8.out hb9 HB8.out.size)
      have HK9 := Lib.hid (HK8.out.below hb9)
      have HX9 := Lib.hid (Row.of_owns hown9)
      obtain ⟨I, ic, rfl⟩ := (Row.of_owns hown9).shape
      rw [List.length_map] at HX9 ⊢
      clear hown9 hb9 HK8
      go_wp2_with fail
      refine (ref09_Pieces s xs (.slice C xs.length cc) _ (by omega) (by omega) HFIT.out HK9.out).mono ?_
      rw [← HQS.out]
      rintro e w10 ⟨v10, rfl, hown10, hb10⟩
      have HB10 := Lib.hid (below_trans HB9.out hb10 HB9.out.size)
      have HX10 := Lib.hid (HX9.out.below hb10)
      have HY10 := Lib.hid (Row.of_owns hown10)
      obtain ⟨J, jc, rfl⟩ := (Row.of_owns hown10).shape
      rw [List.length_map] at HY10 ⊢
      clear hown10 hb10 HK9 HX9
      go_wp2_with fail
      refine (ref_Strings (.slice I qs.length ic) (.slice J qs.length jc) qs qs _ HX10.out HY10.out (by omega) (by omega)).mono ?_
      rintro e w11 ⟨rfl, hb11⟩
      have HB11 := Lib.hid (below_trans HB10.out hb11 HB10.out.size)
      rw [show sameTexts qs qs = true from by simp [sameTexts]]
      clear hb11
      go_wp2_with fail
      go_ret
      exact ⟨rfl, HB11.out⟩
  all_goals
    go_enter Try.func4, Try.ntmps4
    go_wp2_with fail
    rw [← HW.out]
    refine (law_shown _).mono ?_
    rintro e w1 ⟨rfl, hb1⟩
    have HB1 := Lib.hid (below_trans HB0.out hb1 HB0.out.size)
    clear hb1
    go_wp2_with fail
    go_ret
    exact ⟨rfl, HB1.out⟩

theorem own : ownKnob Try.prog.godebug = none := by kernel_rfl
theorem laidOut : laidOutB Try.prog = true := by kernel_rfl
theorem cellscopyhold_copyholdlaw09_DataPiecesIn : Try.prog.cellsOf 38 = 4 := by kernel_rfl
theorem cellsstring : Try.prog.cellsOf 9 = 1 := by kernel_rfl
theorem cells___2_int : Try.prog.cellsOf 35 = 1 := by kernel_rfl
theorem cells__string : Try.prog.cellsOf 36 = 1 := by kernel_rfl

set_option maxRecDepth 100000 in
set_option maxHeartbeats 1000000 in
theorem lifted (os : Os) (started : os.Started) (H : Type) (enc : TypeId × Value → H) :
    ReturnsInHanded {} Try.checked os 4 .any (Rows.dataPiecesSpec.pre6 enc Try.prog Try.f4 Rows.dataPiecesRow.domain false) (Rows.dataPiecesSpec.post enc Try.prog Try.f4 false true false false) := by
  refine returnsInHanded_of_change_sized (C := Try.checked) own started (by kernel_rfl) Try.func4
    (ChangeSpec.witness6 (enc := enc) (C := Try.checked) false ⟨#[], #[.agg #[.string ByteArray.empty, .string ByteArray.empty, .slice none 0 0, .slice none 0 0]], []⟩ 8 (by kernel_rfl) (by kernel_rfl) (by kernel_rfl) (by kernel_rfl)) ?_
  intro W base args ds gs before hval0 hW hcnd hsz0 _
  have hsz : (DataW.weightsEach Try.prog (Try.f4.params.toList ++ []) (ds ++ gs)).all (· ≤ reachBytes) = true := hsz0
  clear hsz0
  have hval : ∀ (j : Nat) t v, Try.f4.params[j]? = some t → args[j]? = some v → Value.okWide Try.prog W .any base t v := hval0
  have hW' := hW
  have hlt := hW.lt
  obtain ⟨p, q, hA0, hV, rfl, hfz, hnd⟩ := hW
  have hA : DataW.TrodAll enc Try.prog W 0 (fun _ => true) true Try.f4.params.toList args.toList ds p := hA0
  rw [Try.params4] at hA hval
  obtain ⟨v0, vs0, d0, ds0, p0, q0, hargs, rfl, rfl, h0, r0⟩ := trodAll_cons hA
  obtain ⟨rfl, rfl, rfl⟩ := trodAll_nil r0
  obtain rfl : args = #[v0] := by cases args; simp_all
  obtain ⟨rfl, rfl⟩ := trodVars_none hV
  obtain ⟨cs0, rfl, hcz0⟩ := okWide_struct Try.underlying38 (hval 0 38 v0 rfl rfl)
  rw [cellscopyhold_copyholdlaw09_DataPiecesIn] at hcz0
  obtain ⟨c0_0, c0_1, c0_2, c0_3, rfl⟩ := array4_of hcz0
  obtain ⟨fuel0, hf0⟩ := h0
  obtain ⟨xs0, m0, _, hx0, _, hlen0, hfl0⟩ := DataW.trod_struct Try.underlying38 hf0
  obtain ⟨y0_0, y0_1, y0_2, y0_3, rfl⟩ := list4 hlen0
  have g0_0 : DataW.trod enc Try.prog W 0 (fun _ => true) true m0 9 [c0_0] = some y0_0 := by have h := hfl0 0 _ rfl; simpa [Value.cells, cellsstring] using h
  have g0_1 : DataW.trod enc Try.prog W 0 (fun _ => true) true m0 9 [c0_1] = some y0_1 := by have h := hfl0 1 _ rfl; simpa [Value.cells, cellsstring] using h
  have g0_2 : DataW.trod enc Try.prog W 0 (fun _ => true) true m0 35 [c0_2] = some y0_2 := by have h := hfl0 2 _ rfl; simpa [Value.cells, cells___2_int] using h
  have g0_3 : DataW.trod enc Try.prog W 0 (fun _ => true) true m0 36 [c0_3] = some y0_3 := by have h := hfl0 3 _ rfl; simpa [Value.cells, cells__string] using h
  simp only [Prod.mk.injEq] at hx0
  obtain ⟨rfl, hp0⟩ := hx0
  subst hp0
  obtain ⟨s0_0, ev0_0, ey0_0, w0_0⟩ := DataW.trod_string Try.underlying9 g0_0
  obtain rfl : c0_0 = _ := by simpa using ev0_0
  subst ey0_0
  have z0_0 : s0_0.data.toList.length ≤ 140737488351232 := sized_deep hsz (by rw [Try.params4]; simp [DataW.weightsEach, DataW.weights, Try.underlying38])
  obtain ⟨a0_0, rfl⟩ : ∃ l : List UInt8, s0_0 = ⟨l.toArray⟩ := ⟨s0_0.data.toList, rfl⟩
  obtain ⟨s0_1, ev0_1, ey0_1, w0_1⟩ := DataW.trod_string Try.underlying9 g0_1
  obtain rfl : c0_1 = _ := by simpa using ev0_1
  subst ey0_1
  have z0_1 : s0_1.data.toList.length ≤ 140737488351232 := sized_deep hsz (by rw [Try.params4]; simp [DataW.weightsEach, DataW.weights, Try.underlying38])
  obtain ⟨a0_1, rfl⟩ : ∃ l : List UInt8, s0_1 = ⟨l.toArray⟩ := ⟨s0_1.data.toList, rfl⟩
  have hw0_2 : ∀ n ∈ DataW.weights Try.prog 35 y0_2.1, n ≤ 140737488351232 := fun n hn => sized_deep hsz (by rw [Try.params4]; simp [DataW.weightsEach, DataW.weights, Try.underlying38, hn])
  obtain ⟨u0_2, a0_2, ev0_2, w0_2, x0_2, e0_2⟩ := open_pairs_at Try.underlying35 Try.underlying64 Try.underlying3 (by kernel_rfl) (by kernel_rfl) g0_2 (fun x hx => hlt x (by simp [hx]))
  obtain rfl : c0_2 = _ := by simpa using ev0_2
  have z0_2 := pairs_sized Try.underlying35 (by kernel_rfl) e0_2 hw0_2
  have hw0_3 : ∀ n ∈ DataW.weights Try.prog 36 y0_3.1, n ≤ 140737488351232 := fun n hn => sized_deep hsz (by rw [Try.params4]; simp [DataW.weightsEach, DataW.weights, Try.underlying38, hn])
  obtain ⟨u0_3, a0_3, ev0_3, w0_3, e0_3⟩ := open_texts_at Try.underlying36 Try.underlying9 (by kernel_rfl) g0_3 (fun x hx => hlt x (by simp [hx]))
  obtain rfl : c0_3 = _ := by simpa using ev0_3
  have z0_3 := texts_sized Try.underlying36 (by kernel_rfl) e0_3 hw0_3
  refine (walk W a0_0 z0_0 a0_1 z0_1 c0_2 a0_2 w0_2 x0_2 z0_2 c0_3 a0_3 w0_3 z0_3).mono fun e W' ⟨he, hg⟩ => ?_
  subst he
  exact ⟨_, rfl, Copyhold.law_post laidOut (by kernel_rfl) (by kernel_rfl) Try.underlying4 rfl rfl rfl rfl hW' hg⟩

theorem over : Rows.dataPiecesRow.holds Try.pinned (OpenSpec.ofChange Rows.dataPiecesSpec) :=
  OpenClaim.holds_of_wide 4 Try.f4 rfl rfl rfl rfl rfl rfl rfl ⟨rfl, rfl, rfl, rfl, rfl⟩ rfl rfl rfl rfl rfl (by kernel_rfl) Try.func4 (by kernel_rfl)
    (of_decide_eq_true (by kernel_rfl)) (by unfold Func.isWrapper; first | (rw [if_pos (by decide +kernel)]; kernel_rfl) | (rw [if_neg (by decide +kernel)]; exact ⟨rfl, rfl⟩))
    (fun os started H enc _ => lifted os started H enc)

theorem proved : Rows.DataPiecesSaid :=
  over
end Go.Proofs.Ytgmpgmhbfkdalaa.dataPieces
