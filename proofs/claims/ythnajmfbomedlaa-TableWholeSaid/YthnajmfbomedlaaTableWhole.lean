/- Proved: copyholdlaw14.TableWhole returns true for all rows and numbers, and leaves them as they were: rows, told and taken, answer as they did; a beginning of what was told isn't taken. No condition beyond the form's own reach. -/
import Derived.Test.YthnajmfbomedlaaTabLawK
import Derived.Test.YthnajmfbomedlaaTabTake
import Derived.Test.YthnajmfbomedlaaTabText
namespace Go.Proofs.Ythnajmfbomedlaa.tableWhole
open Go.ChangeShapes Go.WideShapes Go.ChangeAt Go.RowKit Copyhold
open Go.ChangeMaps (open_string shut_string)
set_option linter.unusedVariables false
set_option linter.unusedSimpArgs false

theorem good_rowT {w : World} {v : Value} {rs : List TRow} (h : RowsIn w v rs) (hg : Good rs) : ∀ r ∈ rs, RowT r := by
  intro r hr
  obtain ⟨o1, o2, o3, o4⟩ := rows_ok4 h r hr
  exact ⟨o1, o2, o3, (hg.2.2 r hr).2.2.2.1, o4⟩

set_option maxRecDepth 100000 in
set_option maxHeartbeats 16000000 in
theorem walk (w : World) (lv : Value) (rs : List TRow) (hr : RowsIn w lv rs) (hn : rs.length ≤ 8796093022207) (n : Int) (wn : (Lit.int .i64 n).wf = true) (ep : Int) (wep : (Lit.int .i64 ep).wf = true) (sq : Int) (wsq : (Lit.int .i64 sq).wf = true) (cut : Int) (wcut : (Lit.int .i64 cut).wf = true) :
    Calls Try.prog 9 #[.agg #[lv, .int .i64 n, .int .i64 ep, .int .i64 sq, .int .i64 cut]] w fun e w' => e = .returned (.bool true) ∧ Below w.heap.size w w' := by
  obtain ⟨A, c, rfl⟩ := SlOf.shape hr
  obtain ⟨n1, n2⟩ := i64ok_of wn
  obtain ⟨ep1, ep2⟩ := i64ok_of wep
  obtain ⟨sq1, sq2⟩ := i64ok_of wsq
  obtain ⟨cut1, cut2⟩ := i64ok_of wcut
  obtain ⟨W0, hW0⟩ : ∃ W0, W0 = w.alloc (.cells #[.slice A rs.length c, .int .i64 n, .int .i64 ep, .int .i64 sq, .int .i64 cut] 59) := ⟨_, rfl⟩
  have hb0 : Below w.heap.size w W0 := by rw [hW0]; exact (Below.refl _ _).alloc (Nat.le_refl _) _
  have HR := Lib.hid (fun W (h : Below w.heap.size w W) => hr.below h)
  have HRT := Lib.hid (fun hg => good_rowT hr hg)
  have hrow := rows_ok4 hr
  have HW := Lib.hid hW0
  have Bw_0 := Lib.hid hb0
  clear hr hW0 hb0
  cases hfew : fewB rs
  · have HF := Lib.hid hfew
    clear hfew hrow
    go_enter Try.func9, Try.ntmps9
    go_wp2_with fail
    rw [← HW.out]
    refine (law_shown _).mono ?_
    rintro e w1 ⟨rfl, hb⟩
    have Bw_1 := Lib.hid (below_trans Bw_0.out hb Bw_0.out.size)
    clear hb
    go_wp2_with fail
    refine (few_b rs _ _ (HR.out _ Bw_1.out) hn).mono ?_
    rintro e w2 ⟨rfl, hb⟩
    have Bw_2 := Lib.hid (below_trans Bw_1.out hb Bw_1.out.size)
    rw [HF.out]
    clear hb
    go_wp2_with fail
    go_ret
    exact ⟨rfl, Bw_2.out⟩
  · have HF := Lib.hid hfew
    have HL := Lib.hid (few_bounds rs hfew)
    by_cases hgood : Good rs
    · have HG := Lib.hid (goodB_true hgood)
      have hs : Small rs := ⟨by have := hgood.1; omega, fun r hr => by have := (hgood.2.2 r hr).2.2.2.1; omega⟩
      have HS := Lib.hid hs
      have hsz := parts_size _ (rowsP_short rs hs hrow)
      have hpl := partsK_len rs rs.length hs
      rw [partsK_end] at hpl
      have hrb : (rowsB rs).length ≤ 20050000 := by unfold rowsB; omega
      have HT3 := Lib.hid (fun W => table_Take (rowsB rs) W (by omega))
      rw [takeT_back hgood (HRT.out hgood)] at HT3
      have HCUT := Lib.hid (fun (k : Nat) (hk : k < (rowsB rs).length) => takeT_cut hgood (HRT.out hgood) k hk)
      have HTC := Lib.hid (fun W (k : Nat) => table_Take ((rowsB rs).take k) W (by rw [List.length_take]; omega))
      obtain ⟨⟨b1, b2⟩, hab⟩ : ∃ q, q = askF rs n ep sq := ⟨_, rfl⟩
      have HAB := Lib.hid hab.symm
      have hbb : (b1 != b1) = false := by simp
      have hbb2 : (b2 != b2) = false := by simp
      have HTX := Lib.hid (fun W h => table_Text rs _ W (HR.out W h) HS.out)
      generalize rowsB rs = B at *
      clear hs hsz hpl hfew hrow hgood hab
      by_cases hlow : cut < 0
      · have hd : decide (cut < 0) = true := decide_eq_true hlow
        go_enter Try.func9, Try.ntmps9
        go_wp2_with fail
        rw [← HW.out]
        refine (law_shown _).mono ?_
        rintro e w1 ⟨rfl, hb⟩
        have Bw_1 := Lib.hid (below_trans Bw_0.out hb Bw_0.out.size)
        clear hb
        go_wp2_with fail
        refine (few_b rs _ _ (HR.out _ Bw_1.out) hn).mono ?_
        rintro e w2 ⟨rfl, hb⟩
        have Bw_2 := Lib.hid (below_trans Bw_1.out hb Bw_1.out.size)
        rw [HF.out]
        clear hb
        go_wp2_with fail
        refine (ref14_Right rs _ _ (HR.out _ Bw_2.out) HL.out.1 HL.out.2).mono ?_
        rintro e w3 ⟨rfl, hb⟩
        have Bw_3 := Lib.hid (below_trans Bw_2.out hb Bw_2.out.size)
        rw [HG.out]
        clear hb
        go_wp2_with fail
        refine (HTX.out _ Bw_3.out).mono ?_
        rintro e w4 ⟨rfl, hb⟩
        have Bw_4 := Lib.hid (below_trans Bw_3.out hb Bw_3.out.size)
        clear hb
        go_wp2_with fail
        refine (HT3.out _).mono ?_
        rintro e w5 ⟨A5, c5, rfl, hr5, hb⟩
        have Bw_5 := Lib.hid (below_trans Bw_4.out hb Bw_4.out.size)
        have HR5 := Lib.hid hr5
        clear hb hr5
        go_wp2_with fail
        refine (table_Ask rs _ n ep sq _ (HR.out _ Bw_5.out) (by have := HL.out.1; omega) n1 n2 ep1 ep2 sq1 sq2).mono ?_
        rintro e w6 ⟨rfl, hb⟩
        have Bw_6 := Lib.hid (below_trans Bw_5.out hb Bw_5.out.size)
        have HR6 := Lib.hid (HR5.out.below hb)
        rw [HAB.out]
        clear hb
        go_wp2_with fail
        refine (table_Ask rs _ n ep sq _ HR6.out (by have := HL.out.1; omega) n1 n2 ep1 ep2 sq1 sq2).mono ?_
        rintro e w7 ⟨rfl, hb⟩
        have Bw_7 := Lib.hid (below_trans Bw_6.out hb Bw_6.out.size)
        rw [HAB.out]
        clear hb
        go_wp2_with fail
        go_ret
        exact ⟨rfl, Bw_7.out⟩
      · by_cases hhi : (B.length : Int) ≤ cut
        · have hd : decide (cut < 0) = false := decide_eq_false hlow
          have hd2 : decide ((B.length : Int) ≤ cut) = true := decide_eq_true hhi
          go_enter Try.func9, Try.ntmps9
          go_wp2_with fail
          rw [← HW.out]
          refine (law_shown _).mono ?_
          rintro e w1 ⟨rfl, hb⟩
          have Bw_1 := Lib.hid (below_trans Bw_0.out hb Bw_0.out.size)
          clear hb
          go_wp2_with fail
          refine (few_b rs _ _ (HR.out _ Bw_1.out) hn).mono ?_
          rintro e w2 ⟨rfl, hb⟩
          have Bw_2 := Lib.hid (below_trans Bw_1.out hb Bw_1.out.size)
          rw [HF.out]
          clear hb
          go_wp2_with fail
          refine (ref14_Right rs _ _ (HR.out _ Bw_2.out) HL.out.1 HL.out.2).mono ?_
          rintro e w3 ⟨rfl, hb⟩
          have Bw_3 := Lib.hid (below_trans Bw_2.out hb Bw_2.out.size)
          rw [HG.out]
          clear hb
          go_wp2_with fail
          refine (HTX.out _ Bw_3.out).mono ?_
          rintro e w4 ⟨rfl, hb⟩
          have Bw_4 := Lib.hid (below_trans Bw_3.out hb Bw_3.out.size)
          clear hb
          go_wp2_with fail
          refine (HT3.out _).mono ?_
          rintro e w5 ⟨A5, c5, rfl, hr5, hb⟩
          have Bw_5 := Lib.hid (below_trans Bw_4.out hb Bw_4.out.size)
          have HR5 := Lib.hid hr5
          clear hb hr5
          go_wp2_with fail
          refine (table_Ask rs _ n ep sq _ (HR.out _ Bw_5.out) (by have := HL.out.1; omega) n1 n2 ep1 ep2 sq1 sq2).mono ?_
          rintro e w6 ⟨rfl, hb⟩
          have Bw_6 := Lib.hid (below_trans Bw_5.out hb Bw_5.out.size)
          have HR6 := Lib.hid (HR5.out.below hb)
          rw [HAB.out]
          clear hb
          go_wp2_with fail
          refine (table_Ask rs _ n ep sq _ HR6.out (by have := HL.out.1; omega) n1 n2 ep1 ep2 sq1 sq2).mono ?_
          rintro e w7 ⟨rfl, hb⟩
          have Bw_7 := Lib.hid (below_trans Bw_6.out hb Bw_6.out.size)
          rw [HAB.out]
          clear hb
          go_wp2_with fail
          go_ret
          exact ⟨rfl, Bw_7.out⟩
        · obtain ⟨k, rfl⟩ : ∃ k : Nat, cut = (k : Int) := ⟨cut.toNat, by omega⟩
          have hk : k < B.length := by omega
          have hc := HCUT.out k hk
          have HTK := Lib.hid (fun W => HTC.out W k)
          rw [hc] at HTK
          have hpc : (⟨B.toArray⟩ : ByteArray).extract 0 k = ⟨(B.take k).toArray⟩ := piece B 0 k
          clear hc hlow hhi
          go_enter Try.func9, Try.ntmps9
          go_wp2_with fail
          rw [← HW.out]
          refine (law_shown _).mono ?_
          rintro e w1 ⟨rfl, hb⟩
          have Bw_1 := Lib.hid (below_trans Bw_0.out hb Bw_0.out.size)
          clear hb
          go_wp2_with fail
          refine (few_b rs _ _ (HR.out _ Bw_1.out) hn).mono ?_
          rintro e w2 ⟨rfl, hb⟩
          have Bw_2 := Lib.hid (below_trans Bw_1.out hb Bw_1.out.size)
          rw [HF.out]
          clear hb
          go_wp2_with fail
          refine (ref14_Right rs _ _ (HR.out _ Bw_2.out) HL.out.1 HL.out.2).mono ?_
          rintro e w3 ⟨rfl, hb⟩
          have Bw_3 := Lib.hid (below_trans Bw_2.out hb Bw_2.out.size)
          rw [HG.out]
          clear hb
          go_wp2_with fail
          refine (HTX.out _ Bw_3.out).mono ?_
          rintro e w4 ⟨rfl, hb⟩
          have Bw_4 := Lib.hid (below_trans Bw_3.out hb Bw_3.out.size)
          clear hb
          go_wp2_with fail
          refine (HT3.out _).mono ?_
          rintro e w5 ⟨A5, c5, rfl, hr5, hb⟩
          have Bw_5 := Lib.hid (below_trans Bw_4.out hb Bw_4.out.size)
          have HR5 := Lib.hid hr5
          clear hb hr5
          go_wp2_with fail
          refine (table_Ask rs _ n ep sq _ (HR.out _ Bw_5.out) (by have := HL.out.1; omega) n1 n2 ep1 ep2 sq1 sq2).mono ?_
          rintro e w6 ⟨rfl, hb⟩
          have Bw_6 := Lib.hid (below_trans Bw_5.out hb Bw_5.out.size)
          have HR6 := Lib.hid (HR5.out.below hb)
          rw [HAB.out]
          clear hb
          go_wp2_with fail
          refine (table_Ask rs _ n ep sq _ HR6.out (by have := HL.out.1; omega) n1 n2 ep1 ep2 sq1 sq2).mono ?_
          rintro e w7 ⟨rfl, hb⟩
          have Bw_7 := Lib.hid (below_trans Bw_6.out hb Bw_6.out.size)
          rw [HAB.out]
          clear hb
          go_wp2_with fail
          refine (HTK.out _).mono ?_
          rintro e w8 ⟨A8, c8, rfl, hr8, hb⟩
          have Bw_8 := Lib.hid (below_trans Bw_7.out hb Bw_7.out.size)
          clear hb hr8
          go_wp2_with fail
          go_ret
          exact ⟨rfl, Bw_8.out⟩
    · have HG := Lib.hid (goodB_false hgood)
      clear hrow
      go_enter Try.func9, Try.ntmps9
      go_wp2_with fail
      rw [← HW.out]
      refine (law_shown _).mono ?_
      rintro e w1 ⟨rfl, hb⟩
      have Bw_1 := Lib.hid (below_trans Bw_0.out hb Bw_0.out.size)
      clear hb
      go_wp2_with fail
      refine (few_b rs _ _ (HR.out _ Bw_1.out) hn).mono ?_
      rintro e w2 ⟨rfl, hb⟩
      have Bw_2 := Lib.hid (below_trans Bw_1.out hb Bw_1.out.size)
      rw [HF.out]
      clear hb
      go_wp2_with fail
      refine (ref14_Right rs _ _ (HR.out _ Bw_2.out) HL.out.1 HL.out.2).mono ?_
      rintro e w3 ⟨rfl, hb⟩
      have Bw_3 := Lib.hid (below_trans Bw_2.out hb Bw_2.out.size)
      rw [HG.out]
      clear hb
      go_wp2_with fail
      go_ret
      exact ⟨rfl, Bw_3.out⟩

theorem own : ownKnob Try.prog.godebug = none := by kernel_rfl
theorem laidOut : laidOutB Try.prog = true := by kernel_rfl
theorem cellscopyholdlaw14_TableWholeIn : Try.prog.cellsOf 59 = 5 := by kernel_rfl
theorem cells__api_Row : Try.prog.cellsOf 22 = 1 := by kernel_rfl
theorem cellsint : Try.prog.cellsOf 3 = 1 := by kernel_rfl

set_option maxRecDepth 100000 in
set_option maxHeartbeats 1000000 in
theorem lifted (os : Os) (started : os.Started) (H : Type) (enc : TypeId × Value → H) :
    ReturnsInHanded {} Try.checked os 9 .any (Rows.tableWholeSpec.pre6 enc Try.prog Try.f9 Rows.tableWholeRow.domain false) (Rows.tableWholeSpec.post enc Try.prog Try.f9 false true false false) := by
  refine returnsInHanded_of_change_sized (C := Try.checked) own started (by kernel_rfl) Try.func9
    (ChangeSpec.witness6 (enc := enc) (C := Try.checked) false ⟨#[], #[.agg #[.slice none 0 0, .int .i64 0, .int .i64 0, .int .i64 0, .int .i64 0]], []⟩ 8 (by kernel_rfl) (by kernel_rfl) (by kernel_rfl) (by kernel_rfl)) ?_
  intro W base args ds gs before hval0 hW hcnd hsz0 _
  have hsz : (DataW.weightsEach Try.prog (Try.f9.params.toList ++ []) (ds ++ gs)).all (· ≤ reachBytes) = true := hsz0
  clear hsz0
  have hval : ∀ (j : Nat) t v, Try.f9.params[j]? = some t → args[j]? = some v → Value.okWide Try.prog W .any base t v := hval0
  have hW' := hW
  have hlt := hW.lt
  obtain ⟨p, q, hA0, hV, rfl, hfz, hnd⟩ := hW
  have hA : DataW.TrodAll enc Try.prog W 0 (fun _ => true) true Try.f9.params.toList args.toList ds p := hA0
  rw [Try.params9] at hA hval
  obtain ⟨v0, vs0, d0, ds0, p0, q0, hargs, rfl, rfl, h0, r0⟩ := trodAll_cons hA
  obtain ⟨rfl, rfl, rfl⟩ := trodAll_nil r0
  obtain rfl : args = #[v0] := by cases args; simp_all
  obtain ⟨rfl, rfl⟩ := trodVars_none hV
  obtain ⟨cs0, rfl, hcz0⟩ := okWide_struct Try.underlying59 (hval 0 59 v0 rfl rfl)
  rw [cellscopyholdlaw14_TableWholeIn] at hcz0
  obtain ⟨c0_0, c0_1, c0_2, c0_3, c0_4, rfl⟩ := array5_of hcz0
  obtain ⟨fuel0, hf0⟩ := h0
  obtain ⟨xs0, m0, _, hx0, _, hlen0, hfl0⟩ := DataW.trod_struct Try.underlying59 hf0
  obtain ⟨y0_0, y0_1, y0_2, y0_3, y0_4, rfl⟩ := list5 hlen0
  have g0_0 : DataW.trod enc Try.prog W 0 (fun _ => true) true m0 22 [c0_0] = some y0_0 := by have h := hfl0 0 _ rfl; simpa [Value.cells, cells__api_Row] using h
  have g0_1 : DataW.trod enc Try.prog W 0 (fun _ => true) true m0 3 [c0_1] = some y0_1 := by have h := hfl0 1 _ rfl; simpa [Value.cells, cellsint] using h
  have g0_2 : DataW.trod enc Try.prog W 0 (fun _ => true) true m0 3 [c0_2] = some y0_2 := by have h := hfl0 2 _ rfl; simpa [Value.cells, cellsint] using h
  have g0_3 : DataW.trod enc Try.prog W 0 (fun _ => true) true m0 3 [c0_3] = some y0_3 := by have h := hfl0 3 _ rfl; simpa [Value.cells, cellsint] using h
  have g0_4 : DataW.trod enc Try.prog W 0 (fun _ => true) true m0 3 [c0_4] = some y0_4 := by have h := hfl0 4 _ rfl; simpa [Value.cells, cellsint] using h
  simp only [Prod.mk.injEq] at hx0
  obtain ⟨rfl, hp0⟩ := hx0
  subst hp0
  have hw0_0 : ∀ n ∈ DataW.weights Try.prog 22 y0_0.1, n ≤ 140737488351232 := fun n hn => sized_deep hsz (by rw [Try.params9]; simp [DataW.weightsEach, DataW.weights, Try.underlying59, hn])
  obtain ⟨u0_0, a0_0, ev0_0, f0_0_0, f0_0_1⟩ := open_rowsb g0_0 (fun x hx => hlt x (by simp [hx])) hw0_0
  obtain rfl : c0_0 = _ := by simpa using ev0_0
  obtain ⟨a0_1, ev0_1, ey0_1, w0_1⟩ := DataW.trod_int Try.underlying3 g0_1
  obtain rfl : c0_1 = _ := by simpa using ev0_1
  subst ey0_1
  obtain ⟨a0_2, ev0_2, ey0_2, w0_2⟩ := DataW.trod_int Try.underlying3 g0_2
  obtain rfl : c0_2 = _ := by simpa using ev0_2
  subst ey0_2
  obtain ⟨a0_3, ev0_3, ey0_3, w0_3⟩ := DataW.trod_int Try.underlying3 g0_3
  obtain rfl : c0_3 = _ := by simpa using ev0_3
  subst ey0_3
  obtain ⟨a0_4, ev0_4, ey0_4, w0_4⟩ := DataW.trod_int Try.underlying3 g0_4
  obtain rfl : c0_4 = _ := by simpa using ev0_4
  subst ey0_4
  refine (walk W c0_0 a0_0 f0_0_0 f0_0_1 a0_1 w0_1 a0_2 w0_2 a0_3 w0_3 a0_4 w0_4).mono fun e W' ⟨he, hg⟩ => ?_
  subst he
  exact ⟨_, rfl, Copyhold.law_post laidOut (by kernel_rfl) (by kernel_rfl) Try.underlying4 rfl rfl rfl rfl hW' hg⟩

theorem over : Rows.tableWholeRow.holds Try.pinned (OpenSpec.ofChange Rows.tableWholeSpec) :=
  OpenClaim.holds_of_wide 9 Try.f9 rfl rfl rfl rfl rfl rfl rfl ⟨rfl, rfl, rfl, rfl, rfl⟩ rfl rfl rfl rfl rfl (by kernel_rfl) Try.func9 (by kernel_rfl)
    (of_decide_eq_true (by kernel_rfl)) (by unfold Func.isWrapper; first | (rw [if_pos (by decide +kernel)]; kernel_rfl) | (rw [if_neg (by decide +kernel)]; exact ⟨rfl, rfl⟩))
    (fun os started H enc _ => lifted os started H enc)

theorem proved : Rows.TableWholeSaid :=
  over
end Go.Proofs.Ythnajmfbomedlaa.tableWhole
