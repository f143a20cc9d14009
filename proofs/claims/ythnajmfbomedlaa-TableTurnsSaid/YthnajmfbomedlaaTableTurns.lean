/- Proved: copyholdlaw14.TableTurns returns true for all rows and numbers, and leaves them as they were: which rows are right, what was decided, what is decided, and what is forgotten, are as the document's own answer says. No condition beyond the form's own reach. -/
import Derived.Test.YthnajmfbomedlaaTabSm
import Derived.Test.YthnajmfbomedlaaTabLawK
import Derived.Test.YthnajmfbomedlaaTabDecD
import Derived.Test.YthnajmfbomedlaaLaw
namespace Go.Proofs.Ythnajmfbomedlaa.tableTurns
open Go.ChangeShapes Go.WideShapes Go.ChangeAt Go.RowKit Copyhold
open Go.ChangeMaps (open_string shut_string)
set_option linter.unusedVariables false
set_option linter.unusedSimpArgs false

theorem decide_keeps (rs : List TRow) (n ep sq : Int) (y : Bool) (h : Good rs) : Good (decideF rs n ep sq y).1 := by
  rcases decide_ways rs n ep sq y h with ⟨_, e⟩ | ⟨_, e⟩ | ⟨_, e, g⟩
  · rw [e]; exact h
  · rw [e]; exact h
  · rw [e]; exact g
theorem forget_keeps (rs : List TRow) (n ep dn : Int) (h : Good rs) : Good (forgetF rs n ep dn).1 := by
  rcases forget_ways rs n ep dn h with ⟨e, _⟩ | ⟨r, _, _, _, _, _, e, g⟩
  · rw [e]; exact h
  · rw [e]; exact g

set_option maxRecDepth 100000 in
set_option maxHeartbeats 16000000 in
theorem walk (w : World) (lv : Value) (rs : List TRow) (hr : RowsIn w lv rs) (hn : rs.length ≤ 8796093022207) (n : Int) (wn : (Lit.int .i64 n).wf = true) (ep : Int) (wep : (Lit.int .i64 ep).wf = true) (sq : Int) (wsq : (Lit.int .i64 sq).wf = true) (yes : Bool) (lu : Value) (os : List TRow) (hu : RowsIn w lu os) (hm : os.length ≤ 8796093022207) :
    Calls Try.prog 3 #[.agg #[lv, .int .i64 n, .int .i64 ep, .int .i64 sq, .bool yes, lu]] w fun e w' => e = .returned (.bool true) ∧ Below w.heap.size w w' := by
  obtain ⟨A, c, rfl⟩ := SlOf.shape hr
  obtain ⟨B, d, rfl⟩ := SlOf.shape hu
  obtain ⟨n1, n2⟩ := i64ok_of wn
  obtain ⟨ep1, ep2⟩ := i64ok_of wep
  obtain ⟨sq1, sq2⟩ := i64ok_of wsq
  obtain ⟨W0, hW0⟩ : ∃ W0, W0 = w.alloc (.cells #[.slice A rs.length c, .int .i64 n, .int .i64 ep, .int .i64 sq, .bool yes, .slice B os.length d] 24) := ⟨_, rfl⟩
  have hb0 : Below w.heap.size w W0 := by rw [hW0]; exact (Below.refl _ _).alloc (Nat.le_refl _) _
  have HR := Lib.hid (fun W (h : Below w.heap.size w W) => hr.below h)
  have HU := Lib.hid (fun W (h : Below w.heap.size w W) => hu.below h)
  have HW := Lib.hid hW0
  have Bw_0 := Lib.hid hb0
  clear hr hu hW0 hb0
  cases hfew : fewB rs
  · have HF := Lib.hid hfew
    clear hfew
    go_enter Try.func3, Try.ntmps3
    go_wp2_with fail
    rw [← HW.out]
    refine (law_shown _).mono ?_
    rintro e w1 ⟨rfl, hb⟩
    have Bw_1 := Lib.hid (below_trans Bw_0.out hb Bw_0.out.size)
    clear hb 
    go_wp2_with fail
    refine (few_b rs _ _ (HR.out _ Bw_1.out) hn).mono ?_
    rintro e w2 ⟨rfl, hb⟩
    have Bw_2 := Lib.hid (below_trans Bw_1.out hb Bw_1.out.size)
    rw [HF.out]
    clear hb 
    go_wp2_with fail
    go_ret
    exact ⟨rfl, Bw_2.out⟩
  · have HF := Lib.hid hfew
    have HL := Lib.hid (few_bounds rs hfew)
    clear hfew
    cases hfu : fewB os
    · have HFU := Lib.hid hfu
      clear hfu
      go_enter Try.func3, Try.ntmps3
      go_wp2_with fail
      rw [← HW.out]
      refine (law_shown _).mono ?_
      rintro e w1 ⟨rfl, hb⟩
      have Bw_1 := Lib.hid (below_trans Bw_0.out hb Bw_0.out.size)
      clear hb 
      go_wp2_with fail
      refine (few_b rs _ _ (HR.out _ Bw_1.out) hn).mono ?_
      rintro e w2 ⟨rfl, hb⟩
      have Bw_2 := Lib.hid (below_trans Bw_1.out hb Bw_1.out.size)
      rw [HF.out]
      clear hb 
      go_wp2_with fail
      refine (few_b os _ _ (HU.out _ Bw_2.out) hm).mono ?_
      rintro e w3 ⟨rfl, hb⟩
      have Bw_3 := Lib.hid (below_trans Bw_2.out hb Bw_2.out.size)
      rw [HFU.out]
      clear hb 
      go_wp2_with fail
      go_ret
      exact ⟨rfl, Bw_3.out⟩
    · have HFU := Lib.hid hfu
      have HLU := Lib.hid (few_bounds os hfu)
      clear hfu
      by_cases hgood : Good rs
      · have HG := Lib.hid (goodB_true hgood)
        have HGG := Lib.hid hgood
        clear hgood
        by_cases hgu : Good os
        · have HGU := Lib.hid (goodB_true hgu)
          clear hgu
          obtain ⟨⟨a1, a2⟩, ha⟩ : ∃ q, q = askF rs n ep sq := ⟨_, rfl⟩
          have hk := decide_keeps rs n ep sq yes HGG.out
          obtain ⟨⟨k, was, er⟩, hD⟩ : ∃ q, q = decideF rs n ep sq yes := ⟨_, rfl⟩
          have hp := forget_keeps rs n ep sq HGG.out
          obtain ⟨⟨p, e2⟩, hP⟩ : ∃ q, q = forgetF rs n ep sq := ⟨_, rfl⟩
          rw [← hD] at hk
          rw [← hP] at hp
          simp only at hk hp
          have HA := Lib.hid ha.symm
          have HAR := Lib.hid ((askR_eq HGG.out n ep sq).trans ha.symm)
          have HD := Lib.hid hD.symm
          have HP := Lib.hid hP.symm
          have HLk := Lib.hid (good_bounds hk)
          have HLp := Lib.hid (good_bounds hp)
          clear ha hD hP hk hp
          go_enter Try.func3, Try.ntmps3
          go_wp2_with fail
          rw [← HW.out]
          refine (law_shown _).mono ?_
          rintro e w1 ⟨rfl, hb⟩
          have Bw_1 := Lib.hid (below_trans Bw_0.out hb Bw_0.out.size)
          clear hb 
          go_wp2_with fail
          refine (few_b rs _ _ (HR.out _ Bw_1.out) hn).mono ?_
          rintro e w2 ⟨rfl, hb⟩
          have Bw_2 := Lib.hid (below_trans Bw_1.out hb Bw_1.out.size)
          rw [HF.out]
          clear hb 
          go_wp2_with fail
          refine (few_b os _ _ (HU.out _ Bw_2.out) hm).mono ?_
          rintro e w3 ⟨rfl, hb⟩
          have Bw_3 := Lib.hid (below_trans Bw_2.out hb Bw_2.out.size)
          rw [HFU.out]
          clear hb 
          go_wp2_with fail
          refine (ref14_Right rs _ _ (HR.out _ Bw_3.out) HL.out.1 HL.out.2).mono ?_
          rintro e w4 ⟨rfl, hb⟩
          have Bw_4 := Lib.hid (below_trans Bw_3.out hb Bw_3.out.size)
          rw [HG.out]
          clear hb 
          go_wp2_with fail
          refine (table_Right rs _ _ (HR.out _ Bw_4.out) HL.out.1 HL.out.2).mono ?_
          rintro e w5 ⟨rfl, hb⟩
          have Bw_5 := Lib.hid (below_trans Bw_4.out hb Bw_4.out.size)
          rw [HG.out]
          clear hb 
          go_wp2_with fail
          refine (ref14_Right os _ _ (HU.out _ Bw_5.out) HLU.out.1 HLU.out.2).mono ?_
          rintro e w6 ⟨rfl, hb⟩
          have Bw_6 := Lib.hid (below_trans Bw_5.out hb Bw_5.out.size)
          rw [HGU.out]
          clear hb 
          go_wp2_with fail
          refine (table_Ask rs _ n ep sq _ (HR.out _ Bw_6.out) (by have := HL.out.1; omega) n1 n2 ep1 ep2 sq1 sq2).mono ?_
          rintro e w7 ⟨rfl, hb⟩
          have Bw_7 := Lib.hid (below_trans Bw_6.out hb Bw_6.out.size)
          rw [HA.out]
          clear hb 
          go_wp2_with fail
          refine (ref14_Ask rs _ n ep sq _ (HR.out _ Bw_7.out) HL.out.1 n1 n2 ep1 ep2 sq1 sq2).mono ?_
          rintro e w8 ⟨rfl, hb⟩
          have Bw_8 := Lib.hid (below_trans Bw_7.out hb Bw_7.out.size)
          rw [HAR.out]
          clear hb 
          go_wp2_with fail
          refine (table_Decide rs _ n ep sq yes _ (HR.out _ Bw_8.out) (HL.out).1 (HL.out).2 n1 n2 ep1 ep2 sq1 sq2).mono ?_
          rintro e w9 ⟨Ak, ck, rfl, hrk, hb⟩
          have Bw_9 := Lib.hid (below_trans Bw_8.out hb Bw_8.out.size)
          rw [HD.out] at hrk ⊢
          simp only at hrk ⊢
          clear hb 
          have HRk := Lib.hid (fun W (h : Below w9.heap.size w9 W) => hrk.below h)
          clear hrk
          go_wp2_with fail
          refine (ref14_Decide rs _ n ep sq yes _ (HR.out _ Bw_9.out) HGG.out n1 n2 ep1 ep2 sq1 sq2).mono ?_
          rintro e w10 ⟨Aj, cj, rfl, hrj, hb⟩
          have Bw_10 := Lib.hid (below_trans Bw_9.out hb Bw_9.out.size)
          have Bw9_10 := Lib.hid hb
          rw [HD.out] at hrj ⊢
          simp only at hrj ⊢
          clear hb 
          have HRj := Lib.hid (fun W (h : Below w10.heap.size w10 W) => hrj.below h)
          clear hrj
          go_wp2_with fail
          refine (table_Forget rs _ n ep sq _ (HR.out _ Bw_10.out) HL.out.1 HL.out.2 n1 n2 ep1 ep2 sq1 sq2).mono ?_
          rintro e w11 ⟨Ap, cp, rfl, hrp, hb⟩
          have Bw_11 := Lib.hid (below_trans Bw_10.out hb Bw_10.out.size)
          have Bw9_11 := Lib.hid (below_trans Bw9_10.out hb Bw9_10.out.size)
          have Bw10_11 := Lib.hid hb
          rw [HP.out] at hrp ⊢
          simp only at hrp ⊢
          clear hb 
          have HRp := Lib.hid (fun W (h : Below w11.heap.size w11 W) => hrp.below h)
          clear hrp
          go_wp2_with fail
          refine (ref14_Forget rs _ n ep sq _ (HR.out _ Bw_11.out) HGG.out n1 n2 ep1 ep2 sq1 sq2).mono ?_
          rintro e w12 ⟨Aq, cq, rfl, hrq, hb⟩
          have Bw_12 := Lib.hid (below_trans Bw_11.out hb Bw_11.out.size)
          have Bw9_12 := Lib.hid (below_trans Bw9_11.out hb Bw9_11.out.size)
          have Bw10_12 := Lib.hid (below_trans Bw10_11.out hb Bw10_11.out.size)
          have Bw11_12 := Lib.hid hb
          rw [HP.out] at hrq ⊢
          simp only at hrq ⊢
          clear hb 
          have HRq := Lib.hid (fun W (h : Below w12.heap.size w12 W) => hrq.below h)
          clear hrq
          go_wp2_with fail
          refine (ref14_Same k k _ _ _ (HRk.out _ Bw9_12.out) (HRj.out _ Bw10_12.out) HLk.out.1 HLk.out.2 HLk.out.1 HLk.out.2).mono ?_
          rintro e w13 ⟨rfl, hb⟩
          have Bw_13 := Lib.hid (below_trans Bw_12.out hb Bw_12.out.size)
          have Bw9_13 := Lib.hid (below_trans Bw9_12.out hb Bw9_12.out.size)
          have Bw10_13 := Lib.hid (below_trans Bw10_12.out hb Bw10_12.out.size)
          have Bw11_13 := Lib.hid (below_trans Bw11_12.out hb Bw11_12.out.size)
          have Bw12_13 := Lib.hid hb
          rw [sameB_self]
          clear hb 
          go_wp2_with fail
          refine (ref14_Same p p _ _ _ (HRp.out _ Bw11_13.out) (HRq.out _ Bw12_13.out) HLp.out.1 HLp.out.2 HLp.out.1 HLp.out.2).mono ?_
          rintro e w14 ⟨rfl, hb⟩
          have Bw_14 := Lib.hid (below_trans Bw_13.out hb Bw_13.out.size)
          have Bw9_14 := Lib.hid (below_trans Bw9_13.out hb Bw9_13.out.size)
          have Bw10_14 := Lib.hid (below_trans Bw10_13.out hb Bw10_13.out.size)
          have Bw11_14 := Lib.hid (below_trans Bw11_13.out hb Bw11_13.out.size)
          have Bw12_14 := Lib.hid (below_trans Bw12_13.out hb Bw12_13.out.size)
          rw [sameB_self]
          clear hb 
          go_wp2_with fail
          refine (table_Same rs os _ _ _ (HR.out _ Bw_14.out) (HU.out _ Bw_14.out) HL.out.1 HL.out.2 HLU.out.1 HLU.out.2).mono ?_
          rintro e w15 ⟨rfl, hb⟩
          have Bw_15 := Lib.hid (below_trans Bw_14.out hb Bw_14.out.size)
          have Bw9_15 := Lib.hid (below_trans Bw9_14.out hb Bw9_14.out.size)
          have Bw10_15 := Lib.hid (below_trans Bw10_14.out hb Bw10_14.out.size)
          have Bw11_15 := Lib.hid (below_trans Bw11_14.out hb Bw11_14.out.size)
          have Bw12_15 := Lib.hid (below_trans Bw12_14.out hb Bw12_14.out.size)
          clear hb 
          go_wp2_with fail
          refine (ref14_Same rs os _ _ _ (HR.out _ Bw_15.out) (HU.out _ Bw_15.out) HL.out.1 HL.out.2 HLU.out.1 HLU.out.2).mono ?_
          rintro e w16 ⟨rfl, hb⟩
          have Bw_16 := Lib.hid (below_trans Bw_15.out hb Bw_15.out.size)
          have Bw9_16 := Lib.hid (below_trans Bw9_15.out hb Bw9_15.out.size)
          have Bw10_16 := Lib.hid (below_trans Bw10_15.out hb Bw10_15.out.size)
          have Bw11_16 := Lib.hid (below_trans Bw11_15.out hb Bw11_15.out.size)
          have Bw12_16 := Lib.hid (below_trans Bw12_15.out hb Bw12_15.out.size)
          clear hb 
          go_wp2_with fail
          go_ret
          exact ⟨rfl, Bw_16.out⟩
        · have HGU := Lib.hid (goodB_false hgu)
          clear hgu
          go_enter Try.func3, Try.ntmps3
          go_wp2_with fail
          rw [← HW.out]
          refine (law_shown _).mono ?_
          rintro e w1 ⟨rfl, hb⟩
          have Bw_1 := Lib.hid (below_trans Bw_0.out hb Bw_0.out.size)
          clear hb 
          go_wp2_with fail
          refine (few_b rs _ _ (HR.out _ Bw_1.out) hn).mono ?_
          rintro e w2 ⟨rfl, hb⟩
          have Bw_2 := Lib.hid (below_trans Bw_1.out hb Bw_1.out.size)
          rw [HF.out]
          clear hb 
          go_wp2_with fail
          refine (few_b os _ _ (HU.out _ Bw_2.out) hm).mono ?_
          rintro e w3 ⟨rfl, hb⟩
          have Bw_3 := Lib.hid (below_trans Bw_2.out hb Bw_2.out.size)
          rw [HFU.out]
          clear hb 
          go_wp2_with fail
          refine (ref14_Right rs _ _ (HR.out _ Bw_3.out) HL.out.1 HL.out.2).mono ?_
          rintro e w4 ⟨rfl, hb⟩
          have Bw_4 := Lib.hid (below_trans Bw_3.out hb Bw_3.out.size)
          rw [HG.out]
          clear hb 
          go_wp2_with fail
          refine (table_Right rs _ _ (HR.out _ Bw_4.out) HL.out.1 HL.out.2).mono ?_
          rintro e w5 ⟨rfl, hb⟩
          have Bw_5 := Lib.hid (below_trans Bw_4.out hb Bw_4.out.size)
          rw [HG.out]
          clear hb 
          go_wp2_with fail
          refine (ref14_Right os _ _ (HU.out _ Bw_5.out) HLU.out.1 HLU.out.2).mono ?_
          rintro e w6 ⟨rfl, hb⟩
          have Bw_6 := Lib.hid (below_trans Bw_5.out hb Bw_5.out.size)
          rw [HGU.out]
          clear hb 
          go_wp2_with fail
          go_ret
          exact ⟨rfl, Bw_6.out⟩
      · have HG := Lib.hid (goodB_false hgood)
        clear hgood
        go_enter Try.func3, Try.ntmps3
        go_wp2_with fail
        rw [← HW.out]
        refine (law_shown _).mono ?_
        rintro e w1 ⟨rfl, hb⟩
        have Bw_1 := Lib.hid (below_trans Bw_0.out hb Bw_0.out.size)
        clear hb 
        go_wp2_with fail
        refine (few_b rs _ _ (HR.out _ Bw_1.out) hn).mono ?_
        rintro e w2 ⟨rfl, hb⟩
        have Bw_2 := Lib.hid (below_trans Bw_1.out hb Bw_1.out.size)
        rw [HF.out]
        clear hb 
        go_wp2_with fail
        refine (few_b os _ _ (HU.out _ Bw_2.out) hm).mono ?_
        rintro e w3 ⟨rfl, hb⟩
        have Bw_3 := Lib.hid (below_trans Bw_2.out hb Bw_2.out.size)
        rw [HFU.out]
        clear hb 
        go_wp2_with fail
        refine (ref14_Right rs _ _ (HR.out _ Bw_3.out) HL.out.1 HL.out.2).mono ?_
        rintro e w4 ⟨rfl, hb⟩
        have Bw_4 := Lib.hid (below_trans Bw_3.out hb Bw_3.out.size)
        rw [HG.out]
        clear hb 
        go_wp2_with fail
        refine (table_Right rs _ _ (HR.out _ Bw_4.out) HL.out.1 HL.out.2).mono ?_
        rintro e w5 ⟨rfl, hb⟩
        have Bw_5 := Lib.hid (below_trans Bw_4.out hb Bw_4.out.size)
        rw [HG.out]
        clear hb 
        go_wp2_with fail
        refine (table_Right rs _ _ (HR.out _ Bw_5.out) HL.out.1 HL.out.2).mono ?_
        rintro e w6 ⟨rfl, hb⟩
        have Bw_6 := Lib.hid (below_trans Bw_5.out hb Bw_5.out.size)
        rw [HG.out]
        clear hb 
        go_wp2_with fail
        go_ret
        exact ⟨rfl, Bw_6.out⟩

theorem own : ownKnob Try.prog.godebug = none := by kernel_rfl
theorem laidOut : laidOutB Try.prog = true := by kernel_rfl
theorem cellscopyholdlaw14_TableTurnsIn : Try.prog.cellsOf 24 = 6 := by kernel_rfl
theorem cells__api_Row : Try.prog.cellsOf 22 = 1 := by kernel_rfl
theorem cellsint : Try.prog.cellsOf 3 = 1 := by kernel_rfl
theorem cellsbool : Try.prog.cellsOf 4 = 1 := by kernel_rfl

set_option maxRecDepth 100000 in
set_option maxHeartbeats 1000000 in
theorem lifted (os : Os) (started : os.Started) (H : Type) (enc : TypeId × Value → H) :
    ReturnsInHanded {} Try.checked os 3 .any (Rows.tableTurnsSpec.pre6 enc Try.prog Try.f3 Rows.tableTurnsRow.domain false) (Rows.tableTurnsSpec.post enc Try.prog Try.f3 false true false false) := by
  refine returnsInHanded_of_change_sized (C := Try.checked) own started (by kernel_rfl) Try.func3
    (ChangeSpec.witness6 (enc := enc) (C := Try.checked) false ⟨#[], #[.agg #[.slice none 0 0, .int .i64 0, .int .i64 0, .int .i64 0, .bool false, .slice none 0 0]], []⟩ 8 (by kernel_rfl) (by kernel_rfl) (by kernel_rfl) (by kernel_rfl)) ?_
  intro W base args ds gs before hval0 hW hcnd hsz0 _
  have hsz : (DataW.weightsEach Try.prog (Try.f3.params.toList ++ []) (ds ++ gs)).all (· ≤ reachBytes) = true := hsz0
  clear hsz0
  have hval : ∀ (j : Nat) t v, Try.f3.params[j]? = some t → args[j]? = some v → Value.okWide Try.prog W .any base t v := hval0
  have hW' := hW
  have hlt := hW.lt
  obtain ⟨p, q, hA0, hV, rfl, hfz, hnd⟩ := hW
  have hA : DataW.TrodAll enc Try.prog W 0 (fun _ => true) true Try.f3.params.toList args.toList ds p := hA0
  rw [Try.params3] at hA hval
  obtain ⟨v0, vs0, d0, ds0, p0, q0, hargs, rfl, rfl, h0, r0⟩ := trodAll_cons hA
  obtain ⟨rfl, rfl, rfl⟩ := trodAll_nil r0
  obtain rfl : args = #[v0] := by cases args; simp_all
  obtain ⟨rfl, rfl⟩ := trodVars_none hV
  obtain ⟨cs0, rfl, hcz0⟩ := okWide_struct Try.underlying24 (hval 0 24 v0 rfl rfl)
  rw [cellscopyholdlaw14_TableTurnsIn] at hcz0
  obtain ⟨c0_0, c0_1, c0_2, c0_3, c0_4, c0_5, rfl⟩ := array6_of hcz0
  obtain ⟨fuel0, hf0⟩ := h0
  obtain ⟨xs0, m0, _, hx0, _, hlen0, hfl0⟩ := DataW.trod_struct Try.underlying24 hf0
  obtain ⟨y0_0, y0_1, y0_2, y0_3, y0_4, y0_5, rfl⟩ := list6 hlen0
  have g0_0 : DataW.trod enc Try.prog W 0 (fun _ => true) true m0 22 [c0_0] = some y0_0 := by have h := hfl0 0 _ rfl; simpa [Value.cells, cells__api_Row] using h
  have g0_1 : DataW.trod enc Try.prog W 0 (fun _ => true) true m0 3 [c0_1] = some y0_1 := by have h := hfl0 1 _ rfl; simpa [Value.cells, cellsint] using h
  have g0_2 : DataW.trod enc Try.prog W 0 (fun _ => true) true m0 3 [c0_2] = some y0_2 := by have h := hfl0 2 _ rfl; simpa [Value.cells, cellsint] using h
  have g0_3 : DataW.trod enc Try.prog W 0 (fun _ => true) true m0 3 [c0_3] = some y0_3 := by have h := hfl0 3 _ rfl; simpa [Value.cells, cellsint] using h
  have g0_4 : DataW.trod enc Try.prog W 0 (fun _ => true) true m0 4 [c0_4] = some y0_4 := by have h := hfl0 4 _ rfl; simpa [Value.cells, cellsbool] using h
  have g0_5 : DataW.trod enc Try.prog W 0 (fun _ => true) true m0 22 [c0_5] = some y0_5 := by have h := hfl0 5 _ rfl; simpa [Value.cells, cells__api_Row] using h
  simp only [Prod.mk.injEq] at hx0
  obtain ⟨rfl, hp0⟩ := hx0
  subst hp0
  have hw0_0 : ∀ n ∈ DataW.weights Try.prog 22 y0_0.1, n ≤ 140737488351232 := fun n hn => sized_deep hsz (by rw [Try.params3]; simp [DataW.weightsEach, DataW.weights, Try.underlying24, hn])
  obtain ⟨u0_0, a0_0, ev0_0, f0_0_0, f0_0_1⟩ := open_rowsb g0_0 (fun x hx => hlt x (by simp [hx])) hw0_0
  obtain rfl : c0_0 = _ := by simpa using ev0_0
  obtain ⟨a0_1, ev0_1, ey0_1, w0_1⟩ := DataW.trod_int Try.underlying3 g0_1
  obtain rfl : c0_1 = _ := by simpa using ev0_1
  subst ey0_1
  obtain ⟨a0_2, ev0_2, ey0_2, w0_2⟩ := DataW.trod_int Try.underlying3 g0_2
  obtain rfl : c0_2 = _ := by simpa using ev0_2
  subst ey0_2
  obtain ⟨a0_3, ev0_3, ey0_3, w0_3⟩ := DataW.trod_int Try.underlying3 g0_3
  obtain rfl : c0_3 = _ := by simpa using ev0_3
  subst ey0_3
  obtain ⟨a0_4, ev0_4, ey0_4⟩ := DataW.trod_bool Try.underlying4 g0_4
  obtain rfl : c0_4 = _ := by simpa using ev0_4
  subst ey0_4
  have hw0_5 : ∀ n ∈ DataW.weights Try.prog 22 y0_5.1, n ≤ 140737488351232 := fun n hn => sized_deep hsz (by rw [Try.params3]; simp [DataW.weightsEach, DataW.weights, Try.underlying24, hn])
  obtain ⟨u0_5, a0_5, ev0_5, f0_5_0, f0_5_1⟩ := open_rowsb g0_5 (fun x hx => hlt x (by simp [hx])) hw0_5
  obtain rfl : c0_5 = _ := by simpa using ev0_5
  refine (walk W c0_0 a0_0 f0_0_0 f0_0_1 a0_1 w0_1 a0_2 w0_2 a0_3 w0_3 a0_4 c0_5 a0_5 f0_5_0 f0_5_1).mono fun e W' ⟨he, hg⟩ => ?_
  subst he
  exact ⟨_, rfl, Copyhold.law_post laidOut (by kernel_rfl) (by kernel_rfl) Try.underlying4 rfl rfl rfl rfl hW' hg⟩

theorem over : Rows.tableTurnsRow.holds Try.pinned (OpenSpec.ofChange Rows.tableTurnsSpec) :=
  OpenClaim.holds_of_wide 3 Try.f3 rfl rfl rfl rfl rfl rfl rfl ⟨rfl, rfl, rfl, rfl, rfl⟩ rfl rfl rfl rfl rfl (by kernel_rfl) Try.func3 (by kernel_rfl)
    (of_decide_eq_true (by kernel_rfl)) (by unfold Func.isWrapper; first | (rw [if_pos (by decide +kernel)]; kernel_rfl) | (rw [if_neg (by decide +kernel)]; exact ⟨rfl, rfl⟩))
    (fun os started H enc _ => lifted os started H enc)

theorem proved : Rows.TableTurnsSaid :=
  over
end Go.Proofs.Ythnajmfbomedlaa.tableTurns
