/- Proved: copyholdlaw09.DataMends returns true for every two texts, and leaves them as they were: of two texts of one length, the pieces of the one, patched into the other where they differ, make the one of it; of the same texts there are none. No condition beyond the form's own reach. -/
import Derived.Test.YtgmpgmhbfkdalaaDataShown
import Derived.Test.YtgmpgmhbfkdalaaDataMendsP
import Derived.Test.YtgmpgmhbfkdalaaLaw
namespace Go.Proofs.Ytgmpgmhbfkdalaa.dataMends
open Go.ChangeShapes Go.WideShapes Go.ChangeAt Go.RowKit Copyhold
open Go.ChangeMaps (open_string shut_string)
set_option linter.unusedVariables false
attribute [local go_sem] piece

set_option maxHeartbeats 2000000 in
theorem walk (w : World) (s : List UInt8) (z0 : s.length ≤ 140737488351232) (t : List UInt8) (z2 : t.length ≤ 140737488351232) :
    Calls Try.prog 6 #[.string ⟨s.toArray⟩, .string ⟨t.toArray⟩] w fun e w' => e = .returned (.bool true) ∧ Below w.heap.size w w' := by
  by_cases hl : s.length = t.length
  · rcases (show 2000 < s.length ∨ s.length ≤ 2000 from by omega) with h | h
    · have hq : ((s.length : Int) != (t.length : Int)) = false := by simp [hl]
      have HL := Lib.hid hl
      clear hl
      go_enter Try.func6, Try.ntmps6
      go_wp2_with fail
      refine (law_shown _).mono ?_
      rintro e w1 ⟨rfl, hb1⟩
      go_wp2_with fail
      go_ret
      exact ⟨rfl, hb1⟩
    · have hq : ((s.length : Int) != (t.length : Int)) = false := by simp [hl]
      have HM := Lib.hid (mends s t hl (by omega))
      have HSM := Lib.hid (small_unlike s t (by omega))
      have HCM := Lib.hid (unlikeD_comm t s)
      have HPL := Lib.hid (pieces_len t (by omega) (unlikeD s t))
      have htl : t.length ≤ 2000 := by omega
      obtain ⟨N, hN⟩ : ∃ N, N = (unlikeD s t).length := ⟨_, rfl⟩
      have hNle : N ≤ 2000 := by have := unlike_len s t; omega
      have HN := Lib.hid hN
      have hboth : (((N : Int) == 0) == (s == t)) = true := by
        by_cases hst : s = t
        · have : N = 0 := by rw [hN, (dataSame.unlikeD_nil s t).2 hst]; rfl
          simp [this, hst]
        · have : N ≠ 0 := by rw [hN]; intro e; exact hst ((dataSame.unlikeD_nil s t).1 (List.eq_nil_of_length_eq_zero e))
          have h1 : (s == t) = false := by simpa using hst
          have h2 : ((N : Int) == 0) = false := by rw [beq_eq_false_iff_ne]; omega
          rw [h1, h2]; rfl
      clear hN z0 z2 hl
      go_enter Try.func6, Try.ntmps6
      go_wp2_with fail
      refine (law_shown _).mono ?_
      rintro e w1 ⟨rfl, hb1⟩
      go_wp2_with fail
      refine (data_Unlike s t _ (by omega) (by omega)).mono ?_
      rintro e w2 ⟨v, rfl, hown2, hb2'⟩
      have hb2 := hb1.trans (hb2'.mono hb1.size)
      clear hb1
      have HR2 := Lib.hid (Row.of_owns hown2)
      clear hown2 hb2'
      obtain ⟨ad, c, rfl⟩ := HR2.out.shape
      rw [List.length_map, ← HN.out] at HR2 ⊢
      go_wp2_with fail
      refine (data_Pieces t (unlikeD s t) (.slice ad N c) _ (by omega) (by rw [← HN.out]; omega) HSM.out HR2.out).mono ?_
      rintro e w3 ⟨v3, rfl, hown3, hb3'⟩
      have hb3 := hb2.trans (hb3'.mono hb2.size)
      have HR3 := Lib.hid (HR2.out.below hb3')
      have HP3 := Lib.hid (Row.of_owns hown3)
      clear hb2 hown3 hb3' HR2
      obtain ⟨ad3, c3, rfl⟩ := HP3.out.shape
      rw [List.length_map, show (piecesD t (unlikeD s t)).length = N from by rw [HN.out]; simp [piecesD]] at HP3 ⊢
      go_wp2_with fail
      refine (data_Patch s (unlikeD s t) (piecesD t (unlikeD s t)) (.slice ad N c) (.slice ad3 N c3) _ (by omega) (by rw [← HN.out]; omega) (by simp [piecesD, ← HN.out]; omega) HSM.out HPL.out HR3.out HP3.out).mono ?_
      rintro e w4 ⟨rfl, hb4'⟩
      have hb4 := hb3.trans (hb4'.mono hb3.size)
      have HR4 := Lib.hid (HR3.out.below hb4')
      clear hb3 hb4' HP3 HR3
      rw [HM.out]
      go_wp2_with fail
      refine (data_Unlike t s _ (by omega) (by omega)).mono ?_
      rintro e w5 ⟨v5, rfl, hown5, hb5'⟩
      have hb5 := hb4.trans (hb5'.mono hb4.size)
      have HR5 := Lib.hid (HR4.out.below hb5')
      rw [HCM.out] at hown5
      have HP5 := Lib.hid (Row.of_owns hown5)
      clear hb4 hb5' hown5 HR4
      obtain ⟨ad5, c5, rfl⟩ := HP5.out.shape
      rw [List.length_map, ← HN.out] at HP5 ⊢
      go_wp2_with fail
      refine (ref_Same (unlikeD s t) (unlikeD s t) (.slice ad5 N c5) (.slice ad N c) _ (by rw [← HN.out]; omega) (by rw [← HN.out]; omega) HSM.out HSM.out HP5.out HR5.out).mono ?_
      rintro e w6 ⟨rfl, hb6⟩
      have hb6 := hb5.trans (hb6.mono hb5.size)
      rw [decide_eq_true rfl]
      clear hb5
      go_wp2_with fail
      go_ret
      exact ⟨rfl, hb6⟩
  · have hq : ((s.length : Int) != (t.length : Int)) = true := by rw [bne_iff_ne]; omega
    clear hl
    go_enter Try.func6, Try.ntmps6
    go_wp2_with fail
    refine (law_shown _).mono ?_
    rintro e w1 ⟨rfl, hb1⟩
    go_wp2_with fail
    go_ret
    exact ⟨rfl, hb1⟩

theorem own : ownKnob Try.prog.godebug = none := by kernel_rfl
theorem laidOut : laidOutB Try.prog = true := by kernel_rfl

set_option maxRecDepth 100000 in
set_option maxHeartbeats 1000000 in
theorem lifted (os : Os) (started : os.Started) (H : Type) (enc : TypeId × Value → H) :
    ReturnsInHanded {} Try.checked os 6 .any (Rows.dataMendsSpec.pre6 enc Try.prog Try.f6 Rows.dataMendsRow.domain false) (Rows.dataMendsSpec.post enc Try.prog Try.f6 false true false false) := by
  refine returnsInHanded_of_change_sized (C := Try.checked) own started (by kernel_rfl) Try.func6
    (ChangeSpec.witness6 (enc := enc) (C := Try.checked) false ⟨#[], #[.string ByteArray.empty, .string ByteArray.empty], []⟩ 8 (by kernel_rfl) (by kernel_rfl) (by kernel_rfl) (by kernel_rfl)) ?_
  intro W base args ds gs before hval0 hW hcnd hsz0 _
  have hsz : (DataW.weightsEach Try.prog (Try.f6.params.toList ++ []) (ds ++ gs)).all (· ≤ reachBytes) = true := hsz0
  clear hsz0
  have hval : ∀ (j : Nat) t v, Try.f6.params[j]? = some t → args[j]? = some v → Value.okWide Try.prog W .any base t v := hval0
  have hW' := hW
  have hlt := hW.lt
  obtain ⟨p, q, hA0, hV, rfl, hfz, hnd⟩ := hW
  have hA : DataW.TrodAll enc Try.prog W 0 (fun _ => true) true Try.f6.params.toList args.toList ds p := hA0
  rw [Try.params6] at hA hval
  obtain ⟨v0, vs0, d0, ds0, p0, q0, hargs, rfl, rfl, h0, r0⟩ := trodAll_cons hA
  obtain ⟨v1, vs1, d1, ds1, p1, q1, rfl, rfl, rfl, h1, r1⟩ := trodAll_cons r0
  obtain ⟨rfl, rfl, rfl⟩ := trodAll_nil r1
  obtain rfl : args = #[v0, v1] := by cases args; simp_all
  obtain ⟨rfl, rfl⟩ := trodVars_none hV
  obtain ⟨s0, rfl, rfl, rfl, w0⟩ := open_string Try.underlying9 (hval 0 9 v0 rfl rfl) h0
  have z0 : s0.data.toList.length ≤ 140737488351232 := sized_string hsz (j := 0) (t := 9) (by rw [Try.params6]; rfl) rfl
  obtain ⟨a0, rfl⟩ : ∃ l : List UInt8, s0 = ⟨l.toArray⟩ := ⟨s0.data.toList, rfl⟩
  obtain ⟨s1, rfl, rfl, rfl, w1⟩ := open_string Try.underlying9 (hval 1 9 v1 rfl rfl) h1
  have z1 : s1.data.toList.length ≤ 140737488351232 := sized_string hsz (j := 1) (t := 9) (by rw [Try.params6]; rfl) rfl
  obtain ⟨a1, rfl⟩ : ∃ l : List UInt8, s1 = ⟨l.toArray⟩ := ⟨s1.data.toList, rfl⟩
  refine (walk W a0 z0 a1 z1).mono fun e W' ⟨he, hg⟩ => ?_
  subst he
  exact ⟨_, rfl, Copyhold.law_post laidOut (by kernel_rfl) (by kernel_rfl) Try.underlying4 rfl rfl rfl rfl hW' hg⟩

theorem over : Rows.dataMendsRow.holds Try.pinned (OpenSpec.ofChange Rows.dataMendsSpec) :=
  OpenClaim.holds_of_wide 6 Try.f6 rfl rfl rfl rfl rfl rfl rfl ⟨rfl, rfl, rfl, rfl, rfl⟩ rfl rfl rfl rfl rfl (by kernel_rfl) Try.func6 (by kernel_rfl)
    (of_decide_eq_true (by kernel_rfl)) (by unfold Func.isWrapper; first | (rw [if_pos (by decide +kernel)]; kernel_rfl) | (rw [if_neg (by decide +kernel)]; exact ⟨rfl, rfl⟩))
    (fun os started H enc _ => lifted os started H enc)

theorem proved : Rows.DataMendsSaid :=
  over
end Go.Proofs.Ytgmpgmhbfkdalaa.dataMends
