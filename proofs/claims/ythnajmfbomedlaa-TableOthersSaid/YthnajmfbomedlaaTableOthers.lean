/- Proved: copyholdlaw14.TableOthers returns true for all rows and numbers, and leaves them as they were: of all other clients, and all other numbers of this epoch, what was decided is as it was. No condition beyond the form's own reach. -/
import Derived.Test.YthnajmfbomedlaaTabLawK
import Derived.Test.YthnajmfbomedlaaLaw
namespace Go.Proofs.Ythnajmfbomedlaa.tableOthers
open Go.ChangeShapes Go.WideShapes Go.ChangeAt Go.RowKit Copyhold
open Go.ChangeMaps (open_string shut_string)
set_option linter.unusedVariables false
set_option linter.unusedSimpArgs false

set_option maxRecDepth 100000 in
set_option maxHeartbeats 16000000 in
theorem walk (w : World) (lv : Value) (rs : List TRow) (hr : RowsIn w lv rs) (hn : rs.length ≤ 8796093022207) (n : Int) (wn : (Lit.int .i64 n).wf = true) (ep : Int) (wep : (Lit.int .i64 ep).wf = true) (sq : Int) (wsq : (Lit.int .i64 sq).wf = true) (m : Int) (wm : (Lit.int .i64 m).wf = true) (s : Int) (ws : (Lit.int .i64 s).wf = true) :
    Calls Try.prog 6 #[.agg #[lv, .int .i64 n, .int .i64 ep, .int .i64 sq, .int .i64 m, .int .i64 s]] w fun e w' => e = .returned (.bool true) ∧ Below w.heap.size w w' := by
  obtain ⟨A, c, rfl⟩ := SlOf.shape hr
  obtain ⟨n1, n2⟩ := i64ok_of wn
  obtain ⟨ep1, ep2⟩ := i64ok_of wep
  obtain ⟨sq1, sq2⟩ := i64ok_of wsq
  obtain ⟨m1, m2⟩ := i64ok_of wm
  obtain ⟨s1, s2⟩ := i64ok_of ws
  obtain ⟨W0, hW0⟩ : ∃ W0, W0 = w.alloc (.cells #[.slice A rs.length c, .int .i64 n, .int .i64 ep, .int .i64 sq, .int .i64 m, .int .i64 s] 50) := ⟨_, rfl⟩
  have hb0 : Below w.heap.size w W0 := by rw [hW0]; exact (Below.refl _ _).alloc (Nat.le_refl _) _
  have HR := Lib.hid (fun W (h : Below w.heap.size w W) => hr.below h)
  have HW := Lib.hid hW0
  have Bw_0 := Lib.hid hb0
  clear hr hW0 hb0
  cases hfew : fewB rs
  · have HF := Lib.hid hfew
    clear hfew
    go_enter Try.func6, Try.ntmps6
    go_wp2_with fail
    rw [← HW.out]
    refine (law_shown _).mono ?_
    rintro e w1 ⟨rfl, hb⟩
    have Bw_1 := Lib.hid (below_trans Bw_0.out hb Bw_0.out.size)
    clear hb 
    go_wp2_with fail
    refine (few_b rs _ _ (HR.out _ Bw_1.out) hn).mono ?_
    rintro e w2 ⟨rfl, hb⟩
    have Bw_2 := Lib.hid (below_trans Bw_1.out hb Bw_1.out.size)
    rw [HF.out]
    clear hb 
    go_wp2_with fail
    go_ret
    exact ⟨rfl, Bw_2.out⟩
  · have HF := Lib.hid hfew
    have HL := Lib.hid (few_bounds rs hfew)
    by_cases hgood : Good rs
    · have HG := Lib.hid (goodB_true hgood)
      by_cases hsame : n = m ∧ s = sq
      · obtain ⟨rfl, rfl⟩ := hsame
        clear hgood hfew
        go_enter Try.func6, Try.ntmps6
        go_wp2_with fail
        rw [← HW.out]
        refine (law_shown _).mono ?_
        rintro e w1 ⟨rfl, hb⟩
        have Bw_1 := Lib.hid (below_trans Bw_0.out hb Bw_0.out.size)
        clear hb 
        go_wp2_with fail
        refine (few_b rs _ _ (HR.out _ Bw_1.out) hn).mono ?_
        rintro e w2 ⟨rfl, hb⟩
        have Bw_2 := Lib.hid (below_trans Bw_1.out hb Bw_1.out.size)
        rw [HF.out]
        clear hb 
        go_wp2_with fail
        refine (ref14_Right rs _ _ (HR.out _ Bw_2.out) HL.out.1 HL.out.2).mono ?_
        rintro e w3 ⟨rfl, hb⟩
        have Bw_3 := Lib.hid (below_trans Bw_2.out hb Bw_2.out.size)
        rw [HG.out]
        clear hb 
        go_wp2_with fail
        go_ret
        exact ⟨rfl, Bw_3.out⟩
      · have hask := others_ask rs n ep sq m s hgood hsame
        have hcd : (n == m && s == sq) = false := by
          rw [Bool.and_eq_false_iff, beq_eq_false_iff_ne, beq_eq_false_iff_ne]
          omega
        obtain ⟨⟨k, was, er⟩, hD⟩ : ∃ q, q = decideF rs n ep sq true := ⟨_, rfl⟩
        have hno := once_no rs n ep sq true hgood
        have hyes := once_yes rs n ep sq true hgood
        have hlk := decide_len rs n ep sq true hgood
        rw [← hD] at hno hyes hask hlk
        simp only at hno hyes hask hlk
        obtain ⟨⟨a1, a2⟩, ha⟩ : ∃ q, q = askF rs m ep s := ⟨_, rfl⟩
        rw [← ha] at hask
        have HD := Lib.hid hD.symm
        have HLk := Lib.hid hlk
        have HA := Lib.hid ha.symm
        have HAK := Lib.hid hask
        have HNO := Lib.hid hno
        have hways : (n == m) = false ∨ (n == m) = true ∧ (s == sq) = false := by
          by_cases h : n = m
          · exact .inr ⟨by rw [beq_iff_eq]; exact h, by rw [beq_eq_false_iff_ne]; exact fun e => hsame ⟨h, e⟩⟩
          · exact .inl (by rw [beq_eq_false_iff_ne]; exact h)
        clear hD hno hyes hask hlk ha hsame hgood hfew hcd
        by_cases her : er = 0
        · subst her
          clear HNO
          rcases hways with h | ⟨h, h'⟩
          all_goals
            go_enter Try.func6, Try.ntmps6
            go_wp2_with fail
            rw [← HW.out]
            refine (law_shown _).mono ?_
            rintro e w1 ⟨rfl, hb⟩
            have Bw_1 := Lib.hid (below_trans Bw_0.out hb Bw_0.out.size)
            clear hb 
            go_wp2_with fail
            refine (few_b rs _ _ (HR.out _ Bw_1.out) hn).mono ?_
            rintro e w2 ⟨rfl, hb⟩
            have Bw_2 := Lib.hid (below_trans Bw_1.out hb Bw_1.out.size)
            rw [HF.out]
            clear hb 
            go_wp2_with fail
            refine (ref14_Right rs _ _ (HR.out _ Bw_2.out) HL.out.1 HL.out.2).mono ?_
            rintro e w3 ⟨rfl, hb⟩
            have Bw_3 := Lib.hid (below_trans Bw_2.out hb Bw_2.out.size)
            rw [HG.out]
            clear hb 
            go_wp2_with fail
            refine (table_Decide rs _ n ep sq true _ (HR.out _ Bw_3.out) (HL.out).1 (HL.out).2 n1 n2 ep1 ep2 sq1 sq2).mono ?_
            rintro e w4 ⟨Ak, ck, rfl, hrk, hb⟩
            have Bw_4 := Lib.hid (below_trans Bw_3.out hb Bw_3.out.size)
            rw [HD.out] at hrk ⊢
            simp only at hrk ⊢
            clear hb 
            have HRk := Lib.hid (fun W (h : Below w4.heap.size w4 W) => hrk.below h)
            clear hrk
            go_wp2_with fail
            refine (table_Ask rs _ m ep s _ (HR.out _ Bw_4.out) (by have := HL.out.1; omega) m1 m2 ep1 ep2 s1 s2).mono ?_
            rintro e w5 ⟨rfl, hb⟩
            have Bw_5 := Lib.hid (below_trans Bw_4.out hb Bw_4.out.size)
            have Bw4_5 := Lib.hid hb
            rw [HA.out]
            clear hb 
            go_wp2_with fail
            refine (table_Ask k _ m ep s _ (HRk.out _ Bw4_5.out) (by have := HLk.out; omega) m1 m2 ep1 ep2 s1 s2).mono ?_
            rintro e w6 ⟨rfl, hb⟩
            have Bw_6 := Lib.hid (below_trans Bw_5.out hb Bw_5.out.size)
            have Bw4_6 := Lib.hid (below_trans Bw4_5.out hb Bw4_5.out.size)
            rw [HAK.out]
            clear hb 
            go_wp2_with fail
            go_ret
            exact ⟨rfl, Bw_6.out⟩
        · have her2 : (er == 0) = false := by simpa using her
          obtain ⟨hk, hwas⟩ := HNO.out her
          have hk := hk.symm
          subst hk
          clear her HNO
          rcases hways with h | ⟨h, h'⟩
          all_goals
            go_enter Try.func6, Try.ntmps6
            go_wp2_with fail
            rw [← HW.out]
            refine (law_shown _).mono ?_
            rintro e w1 ⟨rfl, hb⟩
            have Bw_1 := Lib.hid (below_trans Bw_0.out hb Bw_0.out.size)
            clear hb 
            go_wp2_with fail
            refine (few_b rs _ _ (HR.out _ Bw_1.out) hn).mono ?_
            rintro e w2 ⟨rfl, hb⟩
            have Bw_2 := Lib.hid (below_trans Bw_1.out hb Bw_1.out.size)
            rw [HF.out]
            clear hb 
            go_wp2_with fail
            refine (ref14_Right rs _ _ (HR.out _ Bw_2.out) HL.out.1 HL.out.2).mono ?_
            rintro e w3 ⟨rfl, hb⟩
            have Bw_3 := Lib.hid (below_trans Bw_2.out hb Bw_2.out.size)
            rw [HG.out]
            clear hb 
            go_wp2_with fail
            refine (table_Decide rs _ n ep sq true _ (HR.out _ Bw_3.out) (HL.out).1 (HL.out).2 n1 n2 ep1 ep2 sq1 sq2).mono ?_
            rintro e w4 ⟨Ak, ck, rfl, hrk, hb⟩
            have Bw_4 := Lib.hid (below_trans Bw_3.out hb Bw_3.out.size)
            rw [HD.out] at hrk ⊢
            simp only at hrk ⊢
            clear hb 
            have HRk := Lib.hid (fun W (h : Below w4.heap.size w4 W) => hrk.below h)
            clear hrk
            go_wp2_with fail
            refine (table_Ask rs _ m ep s _ (HR.out _ Bw_4.out) (by have := HL.out.1; omega) m1 m2 ep1 ep2 s1 s2).mono ?_
            rintro e w5 ⟨rfl, hb⟩
            have Bw_5 := Lib.hid (below_trans Bw_4.out hb Bw_4.out.size)
            have Bw4_5 := Lib.hid hb
            rw [HA.out]
            clear hb 
            go_wp2_with fail
            refine (table_Ask rs _ m ep s _ (HRk.out _ Bw4_5.out) (by have := HLk.out; omega) m1 m2 ep1 ep2 s1 s2).mono ?_
            rintro e w6 ⟨rfl, hb⟩
            have Bw_6 := Lib.hid (below_trans Bw_5.out hb Bw_5.out.size)
            have Bw4_6 := Lib.hid (below_trans Bw4_5.out hb Bw4_5.out.size)
            rw [HAK.out]
            clear hb 
            go_wp2_with fail
            refine (ref14_Same rs rs _ _ _ (HRk.out _ Bw4_6.out) (HR.out _ Bw_6.out) HL.out.1 HL.out.2 HL.out.1 HL.out.2).mono ?_
            rintro e w7 ⟨rfl, hb⟩
            have Bw_7 := Lib.hid (below_trans Bw_6.out hb Bw_6.out.size)
            have Bw4_7 := Lib.hid (below_trans Bw4_6.out hb Bw4_6.out.size)
            rw [sameB_self]
            clear hb 
            go_wp2_with fail
            go_ret
            exact ⟨rfl, Bw_7.out⟩
    · have HG := Lib.hid (goodB_false hgood)
      clear hgood hfew
      go_enter Try.func6, Try.ntmps6
      go_wp2_with fail
      rw [← HW.out]
      refine (law_shown _).mono ?_
      rintro e w1 ⟨rfl, hb⟩
      have Bw_1 := Lib.hid (below_trans Bw_0.out hb Bw_0.out.size)
      clear hb 
      go_wp2_with fail
      refine (few_b rs _ _ (HR.out _ Bw_1.out) hn).mono ?_
      rintro e w2 ⟨rfl, hb⟩
      have Bw_2 := Lib.hid (below_trans Bw_1.out hb Bw_1.out.size)
      rw [HF.out]
      clear hb 
      go_wp2_with fail
      refine (ref14_Right rs _ _ (HR.out _ Bw_2.out) HL.out.1 HL.out.2).mono ?_
      rintro e w3 ⟨rfl, hb⟩
      have Bw_3 := Lib.hid (below_trans Bw_2.out hb Bw_2.out.size)
      rw [HG.out]
      clear hb 
      go_wp2_with fail
      go_ret
      exact ⟨rfl, Bw_3.out⟩

theorem own : ownKnob Try.prog.godebug = none := by kernel_rfl
theorem laidOut : laidOutB Try.prog = true := by kernel_rfl
theorem cellscopyhold_copyholdlaw14_TableOthersIn : Try.prog.cellsOf 50 = 6 := by kernel_rfl
theorem cells__api_Row : Try.prog.cellsOf 22 = 1 := by kernel_rfl
theorem cellsint : Try.prog.cellsOf 3 = 1 := by kernel_rfl

set_option maxRecDepth 100000 in
set_option maxHeartbeats 1000000 in
theorem lifted (os : Os) (started : os.Started) (H : Type) (enc : TypeId × Value → H) :
    ReturnsInHanded {} Try.checked os 6 .any (Rows.tableOthersSpec.pre6 enc Try.prog Try.f6 Rows.tableOthersRow.domain false) (Rows.tableOthersSpec.post enc Try.prog Try.f6 false true false false) := by
  refine returnsInHanded_of_change_sized (C := Try.checked) own started (by kernel_rfl) Try.func6
    (ChangeSpec.witness6 (enc := enc) (C := Try.checked) false ⟨#[], #[.agg #[.slice none 0 0, .int .i64 0, .int .i64 0, .int .i64 0, .int .i64 0, .int .i64 0]], []⟩ 8 (by kernel_rfl) (by kernel_rfl) (by kernel_rfl) (by kernel_rfl)) ?_
  intro W base args ds gs before hval0 hW hcnd hsz0 _
  have hsz : (DataW.weightsEach Try.prog (Try.f6.params.toList ++ []) (ds ++ gs)).all (· ≤ reachBytes) = true := hsz0
  clear hsz0
  have hval : ∀ (j : Nat) t v, Try.f6.params[j]? = some t → args[j]? = some v → Value.okWide Try.prog W .any base t v := hval0
  have hW' := hW
  have hlt := hW.lt
  obtain ⟨p, q, hA0, hV, rfl, hfz, hnd⟩ := hW
  have hA : DataW.TrodAll enc Try.prog W 0 (fun _ => true) true Try.f6.params.toList args.toList ds p := hA0
  rw [Try.params6] at hA hval
  obtain ⟨v0, vs0, d0, ds0, p0, q0, hargs, rfl, rfl, h0, r0⟩ := trodAll_cons hA
  obtain ⟨rfl, rfl, rfl⟩ := trodAll_nil r0
  obtain rfl : args = #[v0] := by cases args; simp_all
  obtain ⟨rfl, rfl⟩ := trodVars_none hV
  obtain ⟨cs0, rfl, hcz0⟩ := okWide_struct Try.underlying50 (hval 0 50 v0 rfl rfl)
  rw [cellscopyhold_copyholdlaw14_TableOthersIn] at hcz0
  obtain ⟨c0_0, c0_1, c0_2, c0_3, c0_4, c0_5, rfl⟩ := array6_of hcz0
  obtain ⟨fuel0, hf0⟩ := h0
  obtain ⟨xs0, m0, _, hx0, _, hlen0, hfl0⟩ := DataW.trod_struct Try.underlying50 hf0
  obtain ⟨y0_0, y0_1, y0_2, y0_3, y0_4, y0_5, rfl⟩ := list6 hlen0
  have g0_0 : DataW.trod enc Try.prog W 0 (fun _ => true) true m0 22 [c0_0] = some y0_0 := by have h := hfl0 0 _ rfl; simpa [Value.cells, cells__api_Row] using h
  have g0_1 : DataW.trod enc Try.prog W 0 (fun _ => true) true m0 3 [c0_1] = some y0_1 := by have h := hfl0 1 _ rfl; simpa [Value.cells, cellsint] using h
  have g0_2 : DataW.trod enc Try.prog W 0 (fun _ => true) true m0 3 [c0_2] = some y0_2 := by have h := hfl0 2 _ rfl; simpa [Value.cells, cellsint] using h
  have g0_3 : DataW.trod enc Try.prog W 0 (fun _ => true) true m0 3 [c0_3] = some y0_3 := by have h := hfl0 3 _ rfl; simpa [Value.cells, cellsint] using h
  have g0_4 : DataW.trod enc Try.prog W 0 (fun _ => true) true m0 3 [c0_4] = some y0_4 := by have h := hfl0 4 _ rfl; simpa [Value.cells, cellsint] using h
  have g0_5 : DataW.trod enc Try.prog W 0 (fun _ => true) true m0 3 [c0_5] = some y0_5 := by have h := hfl0 5 _ rfl; simpa [Value.cells, cellsint] using h
  simp only [Prod.mk.injEq] at hx0
  obtain ⟨rfl, hp0⟩ := hx0
  subst hp0
  have hw0_0 : ∀ n ∈ DataW.weights Try.prog 22 y0_0.1, n ≤ 140737488351232 := fun n hn => sized_deep hsz (by rw [Try.params6]; simp [DataW.weightsEach, DataW.weights, Try.underlying50, hn])
  obtain ⟨u0_0, a0_0, ev0_0, f0_0_0, f0_0_1⟩ := open_rowsb g0_0 (fun x hx => hlt x (by simp [hx])) hw0_0
  obtain rfl : c0_0 = _ := by simpa using ev0_0
  obtain ⟨a0_1, ev0_1, ey0_1, w0_1⟩ := DataW.trod_int Try.underlying3 g0_1
  obtain rfl : c0_1 = _ := by simpa using ev0_1
  subst ey0_1
  obtain ⟨a0_2, ev0_2, ey0_2, w0_2⟩ := DataW.trod_int Try.underlying3 g0_2
  obtain rfl : c0_2 = _ := by simpa using ev0_2
  subst ey0_2
  obtain ⟨a0_3, ev0_3, ey0_3, w0_3⟩ := DataW.trod_int Try.underlying3 g0_3
  obtain rfl : c0_3 = _ := by simpa using ev0_3
  subst ey0_3
  obtain ⟨a0_4, ev0_4, ey0_4, w0_4⟩ := DataW.trod_int Try.underlying3 g0_4
  obtain rfl : c0_4 = _ := by simpa using ev0_4
  subst ey0_4
  obtain ⟨a0_5, ev0_5, ey0_5, w0_5⟩ := DataW.trod_int Try.underlying3 g0_5
  obtain rfl : c0_5 = _ := by simpa using ev0_5
  subst ey0_5
  refine (walk W c0_0 a0_0 f0_0_0 f0_0_1 a0_1 w0_1 a0_2 w0_2 a0_3 w0_3 a0_4 w0_4 a0_5 w0_5).mono fun e W' ⟨he, hg⟩ => ?_
  subst he
  exact ⟨_, rfl, Copyhold.law_post laidOut (by kernel_rfl) (by kernel_rfl) Try.underlying4 rfl rfl rfl rfl hW' hg⟩

theorem over : Rows.tableOthersRow.holds Try.pinned (OpenSpec.ofChange Rows.tableOthersSpec) :=
  OpenClaim.holds_of_wide 6 Try.f6 rfl rfl rfl rfl rfl rfl rfl ⟨rfl, rfl, rfl, rfl, rfl⟩ rfl rfl rfl rfl rfl (by kernel_rfl) Try.func6 (by kernel_rfl)
    (of_decide_eq_true (by kernel_rfl)) (by unfold Func.isWrapper; first | (rw [if_pos (by decide +kernel)]; kernel_rfl) | (rw [if_neg (by decide +kernel)]; exact ⟨rfl, rfl⟩))
    (fun os started H enc _ => lifted os started H enc)

theorem proved : Rows.TableOthersSaid :=
  over
end Go.Proofs.Ythnajmfbomedlaa.tableOthers
