/- Proved: copyholdlaw03.SpanSizes returns true for every pairs, and leaves them as they were: a row has no more places than its spans together, and no fewer than one of them; with another one no fewer. No condition beyond the form's own reach. -/
import Derived.Test.YtcckbiaigcideaaSpanRow
import Derived.Test.YtcckbiaigcideaaSpanRef
import Derived.Test.YtcckbiaigcideaaSpanClean
import Derived.Test.YtcckbiaigcideaaBuild0
import Derived.Test.YtcckbiaigcideaaLaw
namespace Go.Proofs.Ytcckbiaigcideaa.spanSizes
open Go.ChangeShapes Go.WideShapes Go.ChangeAt Go.RowKit Copyhold
open Go.ChangeMaps (open_string shut_string)
set_option linter.unusedVariables false

set_option maxRecDepth 100000 in
set_option maxHeartbeats 1500000 in
theorem walk (w : World) (lv : Value) (ps : List (Int × Int)) (hsl : Sl w 2 lv ps.length (ps.flatMap pairV)) (hwf : ∀ p ∈ ps, (Lit.int .i64 p.1).wf = true ∧ (Lit.int .i64 p.2).wf = true) (hz : ps.length ≤ 8796093022207) (a0 : Int) (v0 : (Lit.int .i64 a0).wf = true) (a1 : Int) (v1 : (Lit.int .i64 a1).wf = true) :
    Calls Try.prog 8 #[lv, .agg #[.int .i64 a0, .int .i64 a1]] w fun e w' => e = .returned (.bool true) ∧ Below w.heap.size w w' := by
  obtain ⟨A, c, rfl, -, -⟩ := hsl.shape
  obtain ⟨a00, a01⟩ := spans_wf v0
  obtain ⟨a10, a11⟩ := spans_wf v1
  obtain ⟨W0, hW0⟩ : ∃ W, W = w.alloc (.cells #[.int .i64 a0, .int .i64 a1] 22) := ⟨_, rfl⟩
  have hb0 : Below w.heap.size w W0 := by rw [hW0]; exact (Below.refl _ _).alloc (Nat.le_refl _) _
  have m0 : W0.cell? ⟨w.heap.size, 0, none⟩ = some (.int .i64 a0) := by rw [hW0]; exact cell_new _ _ _ 0
  have m1 : W0.cell? ⟨w.heap.size, 1, none⟩ = some (.int .i64 a1) := by rw [hW0]; exact cell_new _ _ _ 1
  have HSL := Lib.hid (hsl.below hb0)
  have HWF := Lib.hid hwf
  have HB0 := Lib.hid hb0
  have HW := Lib.hid hW0
  have HM := Lib.hid (And.intro m0 m1)
  clear hsl hwf v0 v1 hb0 hW0 m0 m1
  by_cases hbig : 40 < ps.length
  · go_enter Try.func8, Try.ntmps8
    go_wp2_with fail
    rw [← HW.out]
    refine (law_shown _).mono ?_
    rintro e w1 ⟨rfl, rfl⟩
    go_wp2_with fail
    go_ret
    exact ⟨rfl, HB0.out⟩
  · have hsm : ps.length ≤ 40 := by omega
    go_enter Try.func8, Try.ntmps8
    go_wp2_with fail
    rw [← HW.out]
    refine (law_shown _).mono ?_
    rintro e w1 ⟨rfl, rfl⟩
    go_wp2_with fail
    refine (law_row ps A c _ (by omega) HSL.out HWF.out).mono ?_
    rintro e w1 ⟨A1, c1, rfl, ho1, hb1⟩
    have hks := givens_le ps
    have hkl := givens_len ps
    obtain ⟨ks, hk⟩ : ∃ ks, ks = givens ps := ⟨_, rfl⟩
    rw [← hk] at ho1 hks hkl ⊢
    replace hkl : ks.length ≤ 40 := by omega
    have HK1 := Lib.hid (show Sps w1 A1 c1 ks ∧ Below w.heap.size w w1 ∧ w1.cell? ⟨w.heap.size, 0, none⟩ = some (.int .i64 a0) ∧ w1.cell? ⟨w.heap.size, 1, none⟩ = some (.int .i64 a1) from ⟨Sps.of_owns ho1, below_trans HB0.out hb1 HB0.out.size, cell_keep hb1 HM.out.1, cell_keep hb1 HM.out.2⟩)
    have HKS := Lib.hid hks
    clear ho1 hks hb1 hk HSL HWF HB0 HM
    have hct := cnt_top (hasD ks) 1099511627776
    go_wp2_with fail
    refine (span_Size ks HKS.out (by omega) A1 c1 _ HK1.out.1).mono ?_
    rintro e w2 ⟨rfl, hb2⟩
    have H2 := Lib.hid (show Sps w2 A1 c1 ks ∧ Below w.heap.size w w2 ∧ w2.cell? ⟨w.heap.size, 0, none⟩ = some (.int .i64 a0) ∧ w2.cell? ⟨w.heap.size, 1, none⟩ = some (.int .i64 a1) from ⟨HK1.out.1.below hb2, below_trans HK1.out.2.1 hb2 HK1.out.2.1.size, cell_keep hb2 HK1.out.2.2.1, cell_keep hb2 HK1.out.2.2.2⟩)
    have HMEM := Lib.hid (fun p hp => cnt_mem ks 1099511627776 p hp (HKS.out p hp))
    have HTOT := Lib.hid (cnt_total ks 1099511627776 HKS.out)
    have HMORE := Lib.hid (fun s hs => cnt_more ks s 1099511627776 hs)
    obtain ⟨cc, hcc⟩ : ∃ cc, cc = cnt (hasD ks) 1099511627776 := ⟨_, rfl⟩
    rw [← hcc] at HMEM HTOT HMORE hct ⊢
    clear hb2 HK1 hcc
    go_wp2_with fail
    go_loopw [8, 9] (fun so si wr => ∃ k : Nat, si = .int .i64 k ∧ so = .int .i64 (total (ks.take k) : Nat) ∧ k ≤ ks.length ∧ wr = w2) (fun _ si _ => ks.length - (intOf si).toNat)
    case atStart => exact ⟨0, rfl, rfl, Nat.zero_le _, rfl⟩
    case round =>
      obtain ⟨k, rfl, rfl, hk, rfl⟩ := hrel
      by_cases hlt : k < ks.length
      · have HNX := Lib.hid (total_take ks k hlt)
        have htt : total (ks.take k) ≤ 40 * 1099511627776 := Nat.le_trans (total_top (ks.take k) 1099511627776 (fun q hq => HKS.out q (List.mem_of_mem_take hq))) (Nat.mul_le_mul_right _ (by rw [List.length_take]; omega))
        have hpt := HKS.out ks[k] (List.getElem_mem hlt)
        have hle := HMEM.out ks[k] (List.getElem_mem hlt)
        have hget : (ks.map spV)[k]? = some (spV ks[k]) := by rw [List.getElem?_map, List.getElem?_eq_getElem hlt]; rfl
        obtain ⟨b, off, rfl, hbk, hlen, hcl⟩ := H2.out.1.2.row.at k hget
        have hcell : wr.cell? ⟨b, off + k, none⟩ = some (.complex .f64 (fl ks[k].1) (fl ks[k].2)) := hcl k _ hget
        generalize total (ks.take k) = many at *
        generalize ks[k] = p at *
        have hnl : ¬ ((cc : Int) < (p.2 : Int)) := by omega
        clear hget hcl hlen
        go_wp2_with fail
        refine (ref_Parts p.1 p.2 (by omega) _).mono ?_
        rintro e w3 ⟨rfl, rfl⟩
        go_wp2_with fail
        go_roundw
        case rel => exact ⟨k + 1, by go_num, by rw [HNX.out]; go_num, by omega, by first | rfl | trivial⟩
        case measure => simp [intOf]; omega
      · obtain rfl : k = ks.length := by omega
        rw [List.take_length]
        have htt := HTOT.out
        have htm : total ks ≤ 40 * 1099511627776 := Nat.le_trans (total_top ks 1099511627776 HKS.out) (Nat.mul_le_mul_right _ (by omega))
        generalize total ks = tt at *
        have m0 := H2.out.2.2.1
        have m1 := H2.out.2.2.2
        clear hk hlt
        go_wp2_with fail
        refine (law_given a0 a1 _ a00 a01 a10 a11).mono ?_
        rintro e w3 ⟨rfl, rfl⟩
        have hgl := givenD_le a0 a1
        have hmore := HMORE.out (givenD a0 a1) hgl
        obtain ⟨s, hs⟩ : ∃ s, s = givenD a0 a1 := ⟨_, rfl⟩
        rw [← hs] at hgl hmore ⊢
        clear hs
        go_wp2_with fail
        refine (ref_Parts s.1 s.2 hgl _).mono ?_
        rintro e w3 ⟨rfl, rfl⟩
        have hHS := HKS.out
        have hbx : Below wr.heap.size wr (wr.alloc (.cells #[] 24)) := (Below.refl _ _).alloc (Nat.le_refl _) _
        have own0 : (wr.alloc (.cells #[] 24)).ownsRow wr.heap.size 24 1 (.slice (some ⟨wr.heap.size, 0, none⟩) 0 0) 0 [] := owns_built #[] (Nat.le_refl _) (by simp [maxLen])
        obtain ⟨v4, w4, hrun1, ho4, hgr4, _⟩ := append_sl spElem (wr.alloc (.cells #[] 24)) wr.heap.size 45 _ 0 [] own0 _ ks.length (ks.map spV) ((H2.out.1.below hbx).2) (spOne ks) (by unfold maxLen; omega) (by omega) (by simp)
        rw [Nat.zero_add, List.nil_append] at ho4
        obtain ⟨A4, c4, rfl, -, -⟩ := (Sl.of_owns ho4).shape
        have hb4 : Below wr.heap.size wr w4 := hbx.grown hgr4 (by simp) (fun g hg => (own_block_ge own0 g hg).1)
        obtain ⟨A5, c5, w5, hrun2, ho5, hb5⟩ := push_own s ho4 hb4 (by omega)
        have hsp5 : Sps w5 A5 c5 (ks ++ [s]) := Sps.of_owns (by rw [List.length_append, List.length_singleton]; exact ho5)
        have hfit5 : ∀ p ∈ ks ++ [s], p.1 + p.2 ≤ 1099511627776 := fun p hp => by
          rcases List.mem_append.1 hp with h | h
          · exact hHS p h
          · rw [List.mem_singleton.1 h]; exact hgl
        have hsz := span_Size (ks ++ [s]) hfit5 (by rw [List.length_append, List.length_singleton]; omega) A5 c5 w5 hsp5
        rw [List.length_append, List.length_singleton] at hsz
        have hct5 := cnt_top (hasD (ks ++ [s])) 1099511627776
        generalize cnt (hasD (ks ++ [s])) 1099511627776 = m5 at *
        obtain ⟨q2, q3⟩ := hmore
        have i1 : (cc : Int) ≤ (tt : Int) := by omega
        have i2 : (cc : Int) ≤ (m5 : Int) := by omega
        have i3 : (m5 : Int) ≤ (cc : Int) + (s.2 : Int) := by omega
        have HSZ := Lib.hid hsz
        have HB5 := Lib.hid (below_trans H2.out.2.1 hb5 H2.out.2.1.size)
        clear hHS hbx own0 ho4 hgr4 hb4 ho5 hb5 hsp5 hfit5 hsz m0 m1 HMEM HTOT HMORE
        go_wp2_with (first | (at_builtin; refine wpList_append_run rfl _ _ _ rfl _ _ _ _ rfl rfl hrun1 ?_) | (at_builtin; refine wpList_append_run rfl _ _ _ rfl _ _ _ _ rfl rfl hrun2 ?_) | (refine wpList_build_run rfl _ _ _ rfl #[] rfl _ _ (run_build0 spElem _) ?_))
        refine HSZ.out.mono ?_
        rintro e w6 ⟨rfl, hb6⟩
        have HB6 := Lib.hid (below_trans HB5.out hb6 HB5.out.size)
        clear hb6 hrun1 hrun2
        go_wp2_with fail
        go_ret
        exact ⟨rfl, HB6.out⟩
theorem own : ownKnob Try.prog.godebug = none := by kernel_rfl
theorem laidOut : laidOutB Try.prog = true := by kernel_rfl

set_option maxRecDepth 100000 in
set_option maxHeartbeats 1000000 in
theorem lifted (os : Os) (started : os.Started) (H : Type) (enc : TypeId × Value → H) :
    ReturnsInHanded {} Try.checked os 8 .any (Rows.spanSizesSpec.pre6 enc Try.prog Try.f8 Rows.spanSizesRow.domain false) (Rows.spanSizesSpec.post enc Try.prog Try.f8 false true false false) := by
  refine returnsInHanded_of_change_sized (C := Try.checked) own started (by kernel_rfl) Try.func8
    (ChangeSpec.witness6 (enc := enc) (C := Try.checked) false ⟨#[], #[.slice none 0 0, .agg #[.int .i64 0, .int .i64 0]], []⟩ 8 (by kernel_rfl) (by kernel_rfl) (by kernel_rfl) (by kernel_rfl)) ?_
  intro W base args ds gs before hval0 hW hcnd hsz0 _
  have hsz : (DataW.weightsEach Try.prog (Try.f8.params.toList ++ []) (ds ++ gs)).all (· ≤ reachBytes) = true := hsz0
  clear hsz0
  have hval : ∀ (j : Nat) t v, Try.f8.params[j]? = some t → args[j]? = some v → Value.okWide Try.prog W .any base t v := hval0
  have hW' := hW
  have hlt := hW.lt
  obtain ⟨p, q, hA0, hV, rfl, hfz, hnd⟩ := hW
  have hA : DataW.TrodAll enc Try.prog W 0 (fun _ => true) true Try.f8.params.toList args.toList ds p := hA0
  rw [Try.params8] at hA hval
  obtain ⟨v0, vs0, d0, ds0, p0, q0, hargs, rfl, rfl, h0, r0⟩ := trodAll_cons hA
  obtain ⟨v1, vs1, d1, ds1, p1, q1, rfl, rfl, rfl, h1, r1⟩ := trodAll_cons r0
  obtain ⟨rfl, rfl, rfl⟩ := trodAll_nil r1
  obtain rfl : args = #[v0, v1] := by cases args; simp_all
  obtain ⟨rfl, rfl⟩ := trodVars_none hV
  have hw0 : ∀ n ∈ DataW.weights Try.prog 44 d0, n ≤ 140737488351232 := fun n hn => sized_deep hsz (by rw [Try.params8]; simp [DataW.weightsEach, hn])
  obtain ⟨A0, len0, cap0, rfl⟩ := okWide_slice Try.underlying44 (hval 0 44 v0 rfl rfl)
  obtain ⟨fuel0, hf0⟩ := h0
  obtain ⟨u0, a0, ev0, f0_0, f0_1, f0_2⟩ := spanClean.open_pairs_of hf0 (fun x hx => hlt x (by simp [hx])) hw0
  obtain rfl : Value.slice A0 len0 cap0 = u0 := by have h : [Value.slice A0 len0 cap0] = [u0] := ev0; simpa using h
  obtain ⟨a1_0, a1_1, rfl, rfl, rfl, w1_0, w1_1⟩ := open_pair Try.underlying22 Try.underlying3 (by kernel_rfl) (by kernel_rfl) (hval 1 22 v1 rfl rfl) h1
  refine (walk W _ a0 f0_0 f0_1 f0_2 a1_0 w1_0 a1_1 w1_1).mono fun e W' ⟨he, hg⟩ => ?_
  subst he
  exact ⟨_, rfl, Copyhold.law_post laidOut (by kernel_rfl) (by kernel_rfl) Try.underlying4 rfl rfl rfl rfl hW' hg⟩

theorem over : Rows.spanSizesRow.holds Try.pinned (OpenSpec.ofChange Rows.spanSizesSpec) :=
  OpenClaim.holds_of_wide 8 Try.f8 rfl rfl rfl rfl rfl rfl rfl ⟨rfl, rfl, rfl, rfl, rfl⟩ rfl rfl rfl rfl rfl (by kernel_rfl) Try.func8 (by kernel_rfl)
    (of_decide_eq_true (by kernel_rfl)) (by unfold Func.isWrapper; first | (rw [if_pos (by decide +kernel)]; kernel_rfl) | (rw [if_neg (by decide +kernel)]; exact ⟨rfl, rfl⟩))
    (fun os started H enc _ => lifted os started H enc)

theorem proved : Rows.SpanSizesSaid :=
  over
end Go.Proofs.Ytcckbiaigcideaa.spanSizes
