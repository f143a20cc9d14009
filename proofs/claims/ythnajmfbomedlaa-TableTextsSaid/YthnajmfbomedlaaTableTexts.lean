/- Proved: copyholdlaw14.TableTexts returns true for all rows and every text, and leaves them as they were: rows' text, and what is taken, are as the document says; what was told is taken as it was. No condition beyond the form's own reach. -/
import Derived.Test.YthnajmfbomedlaaTabLawK
import Derived.Test.YthnajmfbomedlaaTabTakeR
import Derived.Test.YthnajmfbomedlaaTabSameR
namespace Go.Proofs.Ythnajmfbomedlaa.tableTexts
open Go.ChangeShapes Go.WideShapes Go.ChangeAt Go.RowKit Copyhold
open Go.ChangeMaps (open_string shut_string)
set_option linter.unusedVariables false
set_option linter.unusedSimpArgs false

theorem take_small (l : List UInt8) : Small (takeT l).1 := by
  by_cases h : (takeT l).2 = 0
  · have h2 := (takeT_laid l h).2.1
    by_cases hg : Good (takeT l).1
    · exact ⟨by have := hg.1; omega, fun r hr => by have := (hg.2.2 r hr).2.2.2.1; omega⟩
    · rw [goodB_false hg] at h2
      cases h2
  · have : (takeT l).1 = [] := by
      unfold takeT endT at h ⊢
      split
      · rfl
      · rename_i h1
        rw [if_neg h1] at h
        split
        · rfl
        · rename_i h3
          rw [if_neg h3] at h
          exact absurd rfl h
    rw [this]
    exact ⟨by simp, fun r hr => by cases hr⟩
theorem few_small (rs : List TRow) (h : fewB rs = true) : Small rs := by
  unfold fewB at h
  have h := of_decide_eq_true h
  have hk : ∀ k, k ≤ rs.length → manyK rs k ≤ 400 := fun k hk => Nat.le_trans (manyK_mono rs k hk) h
  have h0 : rs.length ≤ manyK rs 0 := by unfold manyK; omega
  refine ⟨by have := hk 0 (Nat.zero_le _); omega, fun r hr => ?_⟩
  obtain ⟨k, hkl, rfl⟩ := List.getElem_of_mem hr
  have h1 := hk (k + 1) hkl
  rw [manyK_step rs k hkl] at h1
  omega
theorem good_rowT {w : World} {v : Value} {rs : List TRow} (h : RowsIn w v rs) (hg : Good rs) : ∀ r ∈ rs, RowT r := by
  intro r hr
  obtain ⟨o1, o2, o3, o4⟩ := rows_ok4 h r hr
  exact ⟨o1, o2, o3, (hg.2.2 r hr).2.2.2.1, o4⟩
theorem small_b {rs : List TRow} (h : Small rs) : rs.length ≤ 100000 ∧ ∀ r ∈ rs, r.l.length ≤ 100000 := ⟨by have := h.1; omega, fun r hr => by have := h.2 r hr; omega⟩

set_option maxRecDepth 100000 in
set_option maxHeartbeats 16000000 in
theorem walk (w : World) (lv : Value) (rs : List TRow) (hr : RowsIn w lv rs) (hn : rs.length ≤ 8796093022207) (l : List UInt8) (hl : l.length ≤ 140737488351232) :
    Calls Try.prog 4 #[lv, .string ⟨l.toArray⟩] w fun e w' => e = .returned (.bool true) ∧ Below w.heap.size w w' := by
  obtain ⟨A, c, rfl⟩ := SlOf.shape hr
  have HR := Lib.hid (fun W (h : Below w.heap.size w W) => hr.below h)
  have HRT := Lib.hid (fun hg => good_rowT hr hg)
  have hrow := rows_ok4 hr
  clear hr
  cases hfew : fewB rs
  · have HF := Lib.hid hfew
    clear hfew hrow
    go_enter Try.func4, Try.ntmps4
    go_wp2_with fail
    refine (law_shown _).mono ?_
    rintro e w1 ⟨rfl, hb⟩
    have Bw_1 := Lib.hid hb
    clear hb
    go_wp2_with fail
    refine (few_b rs _ _ (HR.out _ Bw_1.out) hn).mono ?_
    rintro e w2 ⟨rfl, hb⟩
    have Bw_2 := Lib.hid (below_trans Bw_1.out hb Bw_1.out.size)
    rw [HF.out]
    clear hb
    go_wp2_with fail
    go_ret
    exact ⟨rfl, Bw_2.out⟩
  · have HF := Lib.hid hfew
    have hs := few_small rs hfew
    have HS := Lib.hid hs
    have HL := Lib.hid (small_b hs)
    have hsz := parts_size _ (rowsP_short rs hs hrow)
    have hpl := partsK_len rs rs.length hs
    rw [partsK_end] at hpl
    have hrb : (rowsB rs).length ≤ 20050000 := by unfold rowsB; omega
    clear hs hsz hpl hfew hrow
    by_cases hlong : 5000 < l.length
    · have hll : (5000 : Int) < (l.length : Int) := by omega
      go_enter Try.func4, Try.ntmps4
      go_wp2_with fail
      refine (law_shown _).mono ?_
      rintro e w1 ⟨rfl, hb⟩
      have Bw_1 := Lib.hid hb
      clear hb
      go_wp2_with fail
      refine (few_b rs _ _ (HR.out _ Bw_1.out) hn).mono ?_
      rintro e w2 ⟨rfl, hb⟩
      have Bw_2 := Lib.hid (below_trans Bw_1.out hb Bw_1.out.size)
      rw [HF.out]
      clear hb
      go_wp2_with fail
      go_ret
      exact ⟨rfl, Bw_2.out⟩
    · have hll : ¬ (5000 : Int) < (l.length : Int) := by omega
      have hl2 : l.length ≤ 140737488355328 := by omega
      have HT1 := Lib.hid (fun W => table_Take l W hl2)
      have HT2 := Lib.hid (fun W => ref14_Take l W hl2)
      have hsm := take_small l
      have hlaid : (takeT l).2 = 0 → rowsB (takeT l).1 = l := fun h => (takeT_laid l h).1
      have HT3 := Lib.hid (fun W => table_Take (rowsB rs) W (by omega))
      have hback : Good rs → takeT (rowsB rs) = (rs, 0) := fun h => takeT_back h (HRT.out h)
      generalize takeT l = x at *
      obtain ⟨a, er⟩ := x
      simp only at HT1 HT2 hsm hlaid
      have HSM := Lib.hid hsm
      have HLA := Lib.hid (small_b hsm)
      have hnn : (er != er) = false := by simp
      clear hsm
      by_cases hgood : Good rs
      · have hb := hback hgood
        have HG := Lib.hid (goodB_true hgood)
        rw [hb] at HT3
        clear hb hback hgood
        by_cases her : er = 0
        · have hx := hlaid her
          have HX := Lib.hid hx
          subst her
          clear hx hlaid
          go_enter Try.func4, Try.ntmps4
          go_wp2_with fail
          refine (law_shown _).mono ?_
          rintro e w1 ⟨rfl, hb⟩
          have Bw_1 := Lib.hid hb
          clear hb
          go_wp2_with fail
          refine (few_b rs _ _ (HR.out _ Bw_1.out) hn).mono ?_
          rintro e w2 ⟨rfl, hb⟩
          have Bw_2 := Lib.hid (below_trans Bw_1.out hb Bw_1.out.size)
          rw [HF.out]
          clear hb
          go_wp2_with fail
          refine (HT1.out _).mono ?_
          rintro e w3 ⟨A3, c3, rfl, hra, hb⟩
          have Bw_3 := Lib.hid (below_trans Bw_2.out hb Bw_2.out.size)
          have HRA := Lib.hid hra
          clear hb hra
          go_wp2_with fail
          refine (HT2.out _).mono ?_
          rintro e w4 ⟨A4, c4, rfl, hrc, hb⟩
          have Bw_4 := Lib.hid (below_trans Bw_3.out hb Bw_3.out.size)
          have HRA4 := Lib.hid (HRA.out.below hb)
          have HRC := Lib.hid hrc
          clear hb hrc
          go_wp2_with fail
          refine (ref14_Same a a _ _ _ HRA4.out HRC.out HLA.out.1 HLA.out.2 HLA.out.1 HLA.out.2).mono ?_
          rintro e w5 ⟨rfl, hb⟩
          have Bw_5 := Lib.hid (below_trans Bw_4.out hb Bw_4.out.size)
          have HRA5 := Lib.hid (HRA4.out.below hb)
          rw [sameB_self]
          clear hb
          go_wp2_with fail
          refine (table_Text rs _ _ (HR.out _ Bw_5.out) HS.out).mono ?_
          rintro e w6 ⟨rfl, hb⟩
          have Bw_6 := Lib.hid (below_trans Bw_5.out hb Bw_5.out.size)
          have HRA6 := Lib.hid (HRA5.out.below hb)
          clear hb
          go_wp2_with fail
          refine (ref14_Text rs _ _ (HR.out _ Bw_6.out) HS.out).mono ?_
          rintro e w7 ⟨rfl, hb⟩
          have Bw_7 := Lib.hid (below_trans Bw_6.out hb Bw_6.out.size)
          have HRA7 := Lib.hid (HRA6.out.below hb)
          clear hb
          go_wp2_with fail
          refine (table_Text rs _ _ (HR.out _ Bw_7.out) HS.out).mono ?_
          rintro e w8 ⟨rfl, hb⟩
          have Bw_8 := Lib.hid (below_trans Bw_7.out hb Bw_7.out.size)
          have HRA8 := Lib.hid (HRA7.out.below hb)
          clear hb
          go_wp2_with fail
          refine (HT3.out _).mono ?_
          rintro e w9 ⟨A9, c9, rfl, hrk, hb⟩
          have Bw_9 := Lib.hid (below_trans Bw_8.out hb Bw_8.out.size)
          have HRA9 := Lib.hid (HRA8.out.below hb)
          have HRK := Lib.hid hrk
          clear hb hrk
          go_wp2_with fail
          refine (ref14_Right rs _ _ (HR.out _ Bw_9.out) HL.out.1 HL.out.2).mono ?_
          rintro e w10 ⟨rfl, hb⟩
          have Bw_10 := Lib.hid (below_trans Bw_9.out hb Bw_9.out.size)
          have HRA10 := Lib.hid (HRA9.out.below hb)
          have HRK10 := Lib.hid (HRK.out.below hb)
          rw [HG.out]
          clear hb
          go_wp2_with fail
          refine (ref14_Same rs rs _ _ _ HRK10.out (HR.out _ Bw_10.out) HL.out.1 HL.out.2 HL.out.1 HL.out.2).mono ?_
          rintro e w11 ⟨rfl, hb⟩
          have Bw_11 := Lib.hid (below_trans Bw_10.out hb Bw_10.out.size)
          have HRA11 := Lib.hid (HRA10.out.below hb)
          rw [sameB_self]
          clear hb
          go_wp2_with fail
          refine (table_Text a _ _ HRA11.out HSM.out).mono ?_
          rintro e w12 ⟨rfl, hb⟩
          have Bw_12 := Lib.hid (below_trans Bw_11.out hb Bw_11.out.size)
          rw [HX.out]
          clear hb
          go_wp2_with fail
          go_ret
          exact ⟨rfl, Bw_12.out⟩
        · have hne : (er == 0) = false := by simpa using her
          have hne2 : (er != 0) = true := by simpa using her
          clear her hlaid
          go_enter Try.func4, Try.ntmps4
          go_wp2_with fail
          refine (law_shown _).mono ?_
          rintro e w1 ⟨rfl, hb⟩
          have Bw_1 := Lib.hid hb
          clear hb
          go_wp2_with fail
          refine (few_b rs _ _ (HR.out _ Bw_1.out) hn).mono ?_
          rintro e w2 ⟨rfl, hb⟩
          have Bw_2 := Lib.hid (below_trans Bw_1.out hb Bw_1.out.size)
          rw [HF.out]
          clear hb
          go_wp2_with fail
          refine (HT1.out _).mono ?_
          rintro e w3 ⟨A3, c3, rfl, hra, hb⟩
          have Bw_3 := Lib.hid (below_trans Bw_2.out hb Bw_2.out.size)
          have HRA := Lib.hid hra
          clear hb hra
          go_wp2_with fail
          refine (HT2.out _).mono ?_
          rintro e w4 ⟨A4, c4, rfl, hrc, hb⟩
          have Bw_4 := Lib.hid (below_trans Bw_3.out hb Bw_3.out.size)
          have HRA4 := Lib.hid (HRA.out.below hb)
          have HRC := Lib.hid hrc
          clear hb hrc
          go_wp2_with fail
          refine (ref14_Same a a _ _ _ HRA4.out HRC.out HLA.out.1 HLA.out.2 HLA.out.1 HLA.out.2).mono ?_
          rintro e w5 ⟨rfl, hb⟩
          have Bw_5 := Lib.hid (below_trans Bw_4.out hb Bw_4.out.size)
          have HRA5 := Lib.hid (HRA4.out.below hb)
          rw [sameB_self]
          clear hb
          go_wp2_with fail
          refine (table_Text rs _ _ (HR.out _ Bw_5.out) HS.out).mono ?_
          rintro e w6 ⟨rfl, hb⟩
          have Bw_6 := Lib.hid (below_trans Bw_5.out hb Bw_5.out.size)
          have HRA6 := Lib.hid (HRA5.out.below hb)
          clear hb
          go_wp2_with fail
          refine (ref14_Text rs _ _ (HR.out _ Bw_6.out) HS.out).mono ?_
          rintro e w7 ⟨rfl, hb⟩
          have Bw_7 := Lib.hid (below_trans Bw_6.out hb Bw_6.out.size)
          have HRA7 := Lib.hid (HRA6.out.below hb)
          clear hb
          go_wp2_with fail
          refine (table_Text rs _ _ (HR.out _ Bw_7.out) HS.out).mono ?_
          rintro e w8 ⟨rfl, hb⟩
          have Bw_8 := Lib.hid (below_trans Bw_7.out hb Bw_7.out.size)
          have HRA8 := Lib.hid (HRA7.out.below hb)
          clear hb
          go_wp2_with fail
          refine (HT3.out _).mono ?_
          rintro e w9 ⟨A9, c9, rfl, hrk, hb⟩
          have Bw_9 := Lib.hid (below_trans Bw_8.out hb Bw_8.out.size)
          have HRA9 := Lib.hid (HRA8.out.below hb)
          have HRK := Lib.hid hrk
          clear hb hrk
          go_wp2_with fail
          refine (ref14_Right rs _ _ (HR.out _ Bw_9.out) HL.out.1 HL.out.2).mono ?_
          rintro e w10 ⟨rfl, hb⟩
          have Bw_10 := Lib.hid (below_trans Bw_9.out hb Bw_9.out.size)
          have HRA10 := Lib.hid (HRA9.out.below hb)
          have HRK10 := Lib.hid (HRK.out.below hb)
          rw [HG.out]
          clear hb
          go_wp2_with fail
          refine (ref14_Same rs rs _ _ _ HRK10.out (HR.out _ Bw_10.out) HL.out.1 HL.out.2 HL.out.1 HL.out.2).mono ?_
          rintro e w11 ⟨rfl, hb⟩
          have Bw_11 := Lib.hid (below_trans Bw_10.out hb Bw_10.out.size)
          have HRA11 := Lib.hid (HRA10.out.below hb)
          rw [sameB_self]
          clear hb
          go_wp2_with fail
          go_ret
          exact ⟨rfl, Bw_11.out⟩
      · have HG := Lib.hid (goodB_false hgood)
        obtain ⟨⟨k, g⟩, hk⟩ : ∃ q, q = takeT (rowsB rs) := ⟨_, rfl⟩
        rw [← hk] at HT3
        clear hk hback hgood
        by_cases her : er = 0
        · have hx := hlaid her
          have HX := Lib.hid hx
          subst her
          clear hx hlaid
          go_enter Try.func4, Try.ntmps4
          go_wp2_with fail
          refine (law_shown _).mono ?_
          rintro e w1 ⟨rfl, hb⟩
          have Bw_1 := Lib.hid hb
          clear hb
          go_wp2_with fail
          refine (few_b rs _ _ (HR.out _ Bw_1.out) hn).mono ?_
          rintro e w2 ⟨rfl, hb⟩
          have Bw_2 := Lib.hid (below_trans Bw_1.out hb Bw_1.out.size)
          rw [HF.out]
          clear hb
          go_wp2_with fail
          refine (HT1.out _).mono ?_
          rintro e w3 ⟨A3, c3, rfl, hra, hb⟩
          have Bw_3 := Lib.hid (below_trans Bw_2.out hb Bw_2.out.size)
          have HRA := Lib.hid hra
          clear hb hra
          go_wp2_with fail
          refine (HT2.out _).mono ?_
          rintro e w4 ⟨A4, c4, rfl, hrc, hb⟩
          have Bw_4 := Lib.hid (below_trans Bw_3.out hb Bw_3.out.size)
          have HRA4 := Lib.hid (HRA.out.below hb)
          have HRC := Lib.hid hrc
          clear hb hrc
          go_wp2_with fail
          refine (ref14_Same a a _ _ _ HRA4.out HRC.out HLA.out.1 HLA.out.2 HLA.out.1 HLA.out.2).mono ?_
          rintro e w5 ⟨rfl, hb⟩
          have Bw_5 := Lib.hid (below_trans Bw_4.out hb Bw_4.out.size)
          have HRA5 := Lib.hid (HRA4.out.below hb)
          rw [sameB_self]
          clear hb
          go_wp2_with fail
          refine (table_Text rs _ _ (HR.out _ Bw_5.out) HS.out).mono ?_
          rintro e w6 ⟨rfl, hb⟩
          have Bw_6 := Lib.hid (below_trans Bw_5.out hb Bw_5.out.size)
          have HRA6 := Lib.hid (HRA5.out.below hb)
          clear hb
          go_wp2_with fail
          refine (ref14_Text rs _ _ (HR.out _ Bw_6.out) HS.out).mono ?_
          rintro e w7 ⟨rfl, hb⟩
          have Bw_7 := Lib.hid (below_trans Bw_6.out hb Bw_6.out.size)
          have HRA7 := Lib.hid (HRA6.out.below hb)
          clear hb
          go_wp2_with fail
          refine (table_Text rs _ _ (HR.out _ Bw_7.out) HS.out).mono ?_
          rintro e w8 ⟨rfl, hb⟩
          have Bw_8 := Lib.hid (below_trans Bw_7.out hb Bw_7.out.size)
          have HRA8 := Lib.hid (HRA7.out.below hb)
          clear hb
          go_wp2_with fail
          refine (HT3.out _).mono ?_
          rintro e w9 ⟨A9, c9, rfl, hrk, hb⟩
          have Bw_9 := Lib.hid (below_trans Bw_8.out hb Bw_8.out.size)
          have HRA9 := Lib.hid (HRA8.out.below hb)
          have HRK := Lib.hid hrk
          clear hb hrk
          go_wp2_with fail
          refine (ref14_Right rs _ _ (HR.out _ Bw_9.out) HL.out.1 HL.out.2).mono ?_
          rintro e w10 ⟨rfl, hb⟩
          have Bw_10 := Lib.hid (below_trans Bw_9.out hb Bw_9.out.size)
          have HRA10 := Lib.hid (HRA9.out.below hb)
          have HRK10 := Lib.hid (HRK.out.below hb)
          rw [HG.out]
          clear hb
          go_wp2_with fail
          refine (table_Text a _ _ HRA10.out HSM.out).mono ?_
          rintro e w12 ⟨rfl, hb⟩
          have Bw_12 := Lib.hid (below_trans Bw_10.out hb Bw_10.out.size)
          rw [HX.out]
          clear hb
          go_wp2_with fail
          go_ret
          exact ⟨rfl, Bw_12.out⟩
        · have hne : (er == 0) = false := by simpa using her
          have hne2 : (er != 0) = true := by simpa using her
          clear her hlaid
          go_enter Try.func4, Try.ntmps4
          go_wp2_with fail
          refine (law_shown _).mono ?_
          rintro e w1 ⟨rfl, hb⟩
          have Bw_1 := Lib.hid hb
          clear hb
          go_wp2_with fail
          refine (few_b rs _ _ (HR.out _ Bw_1.out) hn).mono ?_
          rintro e w2 ⟨rfl, hb⟩
          have Bw_2 := Lib.hid (below_trans Bw_1.out hb Bw_1.out.size)
          rw [HF.out]
          clear hb
          go_wp2_with fail
          refine (HT1.out _).mono ?_
          rintro e w3 ⟨A3, c3, rfl, hra, hb⟩
          have Bw_3 := Lib.hid (below_trans Bw_2.out hb Bw_2.out.size)
          have HRA := Lib.hid hra
          clear hb hra
          go_wp2_with fail
          refine (HT2.out _).mono ?_
          rintro e w4 ⟨A4, c4, rfl, hrc, hb⟩
          have Bw_4 := Lib.hid (below_trans Bw_3.out hb Bw_3.out.size)
          have HRA4 := Lib.hid (HRA.out.below hb)
          have HRC := Lib.hid hrc
          clear hb hrc
          go_wp2_with fail
          refine (ref14_Same a a _ _ _ HRA4.out HRC.out HLA.out.1 HLA.out.2 HLA.out.1 HLA.out.2).mono ?_
          rintro e w5 ⟨rfl, hb⟩
          have Bw_5 := Lib.hid (below_trans Bw_4.out hb Bw_4.out.size)
          have HRA5 := Lib.hid (HRA4.out.below hb)
          rw [sameB_self]
          clear hb
          go_wp2_with fail
          refine (table_Text rs _ _ (HR.out _ Bw_5.out) HS.out).mono ?_
          rintro e w6 ⟨rfl, hb⟩
          have Bw_6 := Lib.hid (below_trans Bw_5.out hb Bw_5.out.size)
          have HRA6 := Lib.hid (HRA5.out.below hb)
          clear hb
          go_wp2_with fail
          refine (ref14_Text rs _ _ (HR.out _ Bw_6.out) HS.out).mono ?_
          rintro e w7 ⟨rfl, hb⟩
          have Bw_7 := Lib.hid (below_trans Bw_6.out hb Bw_6.out.size)
          have HRA7 := Lib.hid (HRA6.out.below hb)
          clear hb
          go_wp2_with fail
          refine (table_Text rs _ _ (HR.out _ Bw_7.out) HS.out).mono ?_
          rintro e w8 ⟨rfl, hb⟩
          have Bw_8 := Lib.hid (below_trans Bw_7.out hb Bw_7.out.size)
          have HRA8 := Lib.hid (HRA7.out.below hb)
          clear hb
          go_wp2_with fail
          refine (HT3.out _).mono ?_
          rintro e w9 ⟨A9, c9, rfl, hrk, hb⟩
          have Bw_9 := Lib.hid (below_trans Bw_8.out hb Bw_8.out.size)
          have HRA9 := Lib.hid (HRA8.out.below hb)
          have HRK := Lib.hid hrk
          clear hb hrk
          go_wp2_with fail
          refine (ref14_Right rs _ _ (HR.out _ Bw_9.out) HL.out.1 HL.out.2).mono ?_
          rintro e w10 ⟨rfl, hb⟩
          have Bw_10 := Lib.hid (below_trans Bw_9.out hb Bw_9.out.size)
          have HRA10 := Lib.hid (HRA9.out.below hb)
          have HRK10 := Lib.hid (HRK.out.below hb)
          rw [HG.out]
          clear hb
          go_wp2_with fail
          go_ret
          exact ⟨rfl, Bw_10.out⟩

theorem own : ownKnob Try.prog.godebug = none := by kernel_rfl
theorem laidOut : laidOutB Try.prog = true := by kernel_rfl

set_option maxRecDepth 100000 in
set_option maxHeartbeats 1000000 in
theorem lifted (os : Os) (started : os.Started) (H : Type) (enc : TypeId × Value → H) :
    ReturnsInHanded {} Try.checked os 4 .any (Rows.tableTextsSpec.pre6 enc Try.prog Try.f4 Rows.tableTextsRow.domain false) (Rows.tableTextsSpec.post enc Try.prog Try.f4 false true false false) := by
  refine returnsInHanded_of_change_sized (C := Try.checked) own started (by kernel_rfl) Try.func4
    (ChangeSpec.witness6 (enc := enc) (C := Try.checked) false ⟨#[], #[.slice none 0 0, .string ByteArray.empty], []⟩ 8 (by kernel_rfl) (by kernel_rfl) (by kernel_rfl) (by kernel_rfl)) ?_
  intro W base args ds gs before hval0 hW hcnd hsz0 _
  have hsz : (DataW.weightsEach Try.prog (Try.f4.params.toList ++ []) (ds ++ gs)).all (· ≤ reachBytes) = true := hsz0
  clear hsz0
  have hval : ∀ (j : Nat) t v, Try.f4.params[j]? = some t → args[j]? = some v → Value.okWide Try.prog W .any base t v := hval0
  have hW' := hW
  have hlt := hW.lt
  obtain ⟨p, q, hA0, hV, rfl, hfz, hnd⟩ := hW
  have hA : DataW.TrodAll enc Try.prog W 0 (fun _ => true) true Try.f4.params.toList args.toList ds p := hA0
  rw [Try.params4] at hA hval
  obtain ⟨v0, vs0, d0, ds0, p0, q0, hargs, rfl, rfl, h0, r0⟩ := trodAll_cons hA
  obtain ⟨v1, vs1, d1, ds1, p1, q1, rfl, rfl, rfl, h1, r1⟩ := trodAll_cons r0
  obtain ⟨rfl, rfl, rfl⟩ := trodAll_nil r1
  obtain rfl : args = #[v0, v1] := by cases args; simp_all
  obtain ⟨rfl, rfl⟩ := trodVars_none hV
  have hw0 : ∀ n ∈ DataW.weights Try.prog 22 d0, n ≤ 140737488351232 := fun n hn => sized_deep hsz (by rw [Try.params4]; simp [DataW.weightsEach, hn])
  obtain ⟨A0, len0, cap0, rfl⟩ := okWide_slice Try.underlying22 (hval 0 22 v0 rfl rfl)
  obtain ⟨fuel0, hf0⟩ := h0
  obtain ⟨u0, a0, ev0, f0_0, f0_1⟩ := open_rowsb hf0 (fun x hx => hlt x (by simp [hx])) hw0
  obtain rfl : Value.slice A0 len0 cap0 = u0 := by have h : [Value.slice A0 len0 cap0] = [u0] := ev0; simpa using h
  obtain ⟨s1, rfl, rfl, rfl, w1⟩ := open_string Try.underlying9 (hval 1 9 v1 rfl rfl) h1
  have z1 : s1.data.toList.length ≤ 140737488351232 := sized_string hsz (j := 1) (t := 9) (by rw [Try.params4]; rfl) rfl
  obtain ⟨a1, rfl⟩ : ∃ l : List UInt8, s1 = ⟨l.toArray⟩ := ⟨s1.data.toList, rfl⟩
  refine (walk W _ a0 f0_0 f0_1 a1 z1).mono fun e W' ⟨he, hg⟩ => ?_
  subst he
  exact ⟨_, rfl, Copyhold.law_post laidOut (by kernel_rfl) (by kernel_rfl) Try.underlying4 rfl rfl rfl rfl hW' hg⟩

theorem over : Rows.tableTextsRow.holds Try.pinned (OpenSpec.ofChange Rows.tableTextsSpec) :=
  OpenClaim.holds_of_wide 4 Try.f4 rfl rfl rfl rfl rfl rfl rfl ⟨rfl, rfl, rfl, rfl, rfl⟩ rfl rfl rfl rfl rfl (by kernel_rfl) Try.func4 (by kernel_rfl)
    (of_decide_eq_true (by kernel_rfl)) (by unfold Func.isWrapper; first | (rw [if_pos (by decide +kernel)]; kernel_rfl) | (rw [if_neg (by decide +kernel)]; exact ⟨rfl, rfl⟩))
    (fun os started H enc _ => lifted os started H enc)

theorem proved : Rows.TableTextsSaid :=
  over
end Go.Proofs.Ythnajmfbomedlaa.tableTexts
