/- Proved: copyholdlaw06.NameBad returns true for every input, and leaves it as it was: a name that isn't right is never entered, never found. No condition beyond the form's own reach. -/
import Derived.Test.YtjeejnjomgcplaaNameLawK
namespace Go.Proofs.Ytjeejnjomgcplaa.nameBad
open Go.ChangeShapes Go.WideShapes Go.ChangeAt Go.RowKit Copyhold Copyhold.Name
open Go.ChangeMaps (open_string shut_string)
set_option linter.unusedVariables false

set_option maxRecDepth 100000 in
set_option maxHeartbeats 4000000 in
theorem walk (w : World) (lv : Value) (l : List Ent) (hl : Ents w lv l) (ho : OkEnts l) (hn : l.length ≤ 5864062014634) (s : List UInt8) (z1 : s.length ≤ 140737488351232) :
    Calls Try.prog 9 #[lv, .string ⟨s.toArray⟩] w fun e w' => e = .returned (.bool true) ∧ Below w.heap.size w w' := by
  have HL := Lib.hid hl
  have HO := Lib.hid ho
  obtain ⟨A, c, rfl, -⟩ := hl.shape
  clear hl ho
  by_cases hs : s.length ≤ 1000
  · cases hr : rightE l
    · have HR := Lib.hid hr
      clear hr
      go_enter Try.func9, Try.ntmps9
      go_wp2_with fail
      refine (law_shown _).mono ?_
      rintro e w1 ⟨rfl, hb1⟩
      have HB1 := Lib.hid hb1
      clear hb1
      go_wp2_with fail
      refine (right_b _ l w1 (HL.out.below HB1.out) HO.out hn).mono ?_
      rintro e w2 ⟨rfl, hb2⟩
      have HB2 := below_step HB1 hb2
      clear hb2
      rw [HR.out]
      go_wp2_with fail
      go_ret
      exact ⟨rfl, HB2.out⟩
    have hl256 := right_len hr
    have HSRT := Lib.hid (right_srt hr)
    have HR := Lib.hid hr
    cases hk : okN s
    · have hat : isAt l s = false := by
        cases h : isAt l s
        · rfl
        · rw [right_at hr h] at hk; cases hk
      have HK : Hid (checkD s = 10) := Lib.hid (by rw [checkD, hk]; rfl)
      have HE : Hid (enterF l s 1 = (l, 10)) := Lib.hid (by simp [enterF, hk])
      have HLV : Hid (leaveF l s = (l, 0, 6)) := Lib.hid (by simp [leaveF, hat])
      have HF : Hid ((getE l s).getD 0 = 0 ∧ isAt l s = false) := Lib.hid ⟨by rw [get_none hat]; rfl, hat⟩
      clear hr hk hat
      go_enter Try.func9, Try.ntmps9
      go_wp2_with fail
      refine (law_shown _).mono ?_
      rintro e w1 ⟨rfl, hb1⟩
      have HB1 := Lib.hid hb1
      clear hb1
      go_wp2_with fail
      refine (right_b _ l w1 (HL.out.below HB1.out) HO.out hn).mono ?_
      rintro e w2 ⟨rfl, hb2⟩
      have HB2 := below_step HB1 hb2
      clear hb2
      rw [HR.out]
      go_wp2_with fail
      refine (name_Check s w2 (by omega)).mono ?_
      rintro e w3 ⟨rfl, rfl⟩
      rw [HK.out]
      go_wp2_with fail
      refine (enter_b _ l s 1 w2 (HL.out.below HB2.out) hl256 HSRT.out (by omega) (by omega) (by omega)).mono ?_
      rw [HE.out]
      rintro e w3 ⟨v3, rfl, hE3, hb3⟩
      have HB3 := below_step HB2 hb3
      have HE3 := Lib.hid hE3
      obtain ⟨A3, c3, rfl, -⟩ := hE3.shape
      clear hE3
      clear hb3
      go_wp2_with fail
      refine (find_b _ l s w3 (HL.out.below HB3.out) (by omega) HSRT.out).mono ?_
      rw [HF.out.1, HF.out.2]
      rintro e w4 ⟨rfl, hb4⟩
      have HB4 := below_step HB3 hb4
      clear hb4
      go_wp2_with fail
      refine (leave_b _ l s w4 (HL.out.below HB4.out) hl256 HSRT.out).mono ?_
      rw [HLV.out]
      rintro e w5 ⟨v5, rfl, hE5, hb5⟩
      have HB5 := below_step HB4 hb5
      have HE5 := Lib.hid hE5
      obtain ⟨A5, c5, rfl, -⟩ := hE5.shape
      clear hE5
      clear hb5
      go_wp2_with fail
      refine (same_b _ _ l l w5 HE5.out (HL.out.below HB5.out) (by omega) (by omega)).mono ?_
      rintro e w6 ⟨rfl, hb6⟩
      have HB6 := below_step HB5 hb6
      clear hb6
      rw [beq_self_eq_true]
      go_wp2_with fail
      go_ret
      exact ⟨rfl, HB6.out⟩
    · have HK : Hid (checkD s = 0) := Lib.hid (by rw [checkD, hk]; rfl)
      clear hr hk
      go_enter Try.func9, Try.ntmps9
      go_wp2_with fail
      refine (law_shown _).mono ?_
      rintro e w1 ⟨rfl, hb1⟩
      have HB1 := Lib.hid hb1
      clear hb1
      go_wp2_with fail
      refine (right_b _ l w1 (HL.out.below HB1.out) HO.out hn).mono ?_
      rintro e w2 ⟨rfl, hb2⟩
      have HB2 := below_step HB1 hb2
      clear hb2
      rw [HR.out]
      go_wp2_with fail
      refine (name_Check s w2 (by omega)).mono ?_
      rintro e w3 ⟨rfl, rfl⟩
      rw [HK.out]
      go_wp2_with fail
      go_ret
      exact ⟨rfl, HB2.out⟩
  · have hd : decide ((1000 : Int) < (s.length : Int)) = true := by rw [decide_eq_true_iff]; omega
    go_enter Try.func9, Try.ntmps9
    go_wp2_with fail
    refine (law_shown _).mono ?_
    rintro e w1 ⟨rfl, hb1⟩
    have HB1 := Lib.hid hb1
    clear hb1
    go_wp2_with fail
    go_ret
    exact ⟨rfl, HB1.out⟩

theorem own : ownKnob Try.prog.godebug = none := by kernel_rfl
theorem laidOut : laidOutB Try.prog = true := by kernel_rfl

set_option maxRecDepth 100000 in
set_option maxHeartbeats 1000000 in
theorem lifted (os : Os) (started : os.Started) (H : Type) (enc : TypeId × Value → H) :
    ReturnsInHanded {} Try.checked os 9 .any (Rows.nameBadSpec.pre6 enc Try.prog Try.f9 Rows.nameBadRow.domain false) (Rows.nameBadSpec.post enc Try.prog Try.f9 false true false false) := by
  refine returnsInHanded_of_change_sized (C := Try.checked) own started (by kernel_rfl) Try.func9
    (ChangeSpec.witness6 (enc := enc) (C := Try.checked) false ⟨#[], #[.slice none 0 0, .string ByteArray.empty], []⟩ 8 (by kernel_rfl) (by kernel_rfl) (by kernel_rfl) (by kernel_rfl)) ?_
  intro W base args ds gs before hval0 hW hcnd hsz0 _
  have hsz : (DataW.weightsEach Try.prog (Try.f9.params.toList ++ []) (ds ++ gs)).all (· ≤ reachBytes) = true := hsz0
  clear hsz0
  have hval : ∀ (j : Nat) t v, Try.f9.params[j]? = some t → args[j]? = some v → Value.okWide Try.prog W .any base t v := hval0
  have hW' := hW
  have hlt := hW.lt
  obtain ⟨p, q, hA0, hV, rfl, hfz, hnd⟩ := hW
  have hA : DataW.TrodAll enc Try.prog W 0 (fun _ => true) true Try.f9.params.toList args.toList ds p := hA0
  rw [Try.params9] at hA hval
  obtain ⟨v0, vs0, d0, ds0, p0, q0, hargs, rfl, rfl, h0, r0⟩ := trodAll_cons hA
  obtain ⟨v1, vs1, d1, ds1, p1, q1, rfl, rfl, rfl, h1, r1⟩ := trodAll_cons r0
  obtain ⟨rfl, rfl, rfl⟩ := trodAll_nil r1
  obtain rfl : args = #[v0, v1] := by cases args; simp_all
  obtain ⟨rfl, rfl⟩ := trodVars_none hV
  have hw0 : ∀ n ∈ DataW.weights Try.prog 22 d0, n ≤ 140737488351232 := fun n hn => sized_deep hsz (by rw [Try.params9]; simp [DataW.weightsEach, hn])
  obtain ⟨A0, len0, cap0, rfl⟩ := okWide_slice Try.underlying22 (hval 0 22 v0 rfl rfl)
  obtain ⟨fuel0, hf0⟩ := h0
  obtain ⟨u0, a0, ev0, f0_0, f0_1, f0_2⟩ := open_ents hf0 (fun x hx => hlt x (by simp [hx])) hw0
  obtain rfl : Value.slice A0 len0 cap0 = u0 := by have h : [Value.slice A0 len0 cap0] = [u0] := ev0; simpa using h
  obtain ⟨s1, rfl, rfl, rfl, w1⟩ := open_string Try.underlying9 (hval 1 9 v1 rfl rfl) h1
  have z1 : s1.data.toList.length ≤ 140737488351232 := sized_string hsz (j := 1) (t := 9) (by rw [Try.params9]; rfl) rfl
  obtain ⟨a1, rfl⟩ : ∃ l : List UInt8, s1 = ⟨l.toArray⟩ := ⟨s1.data.toList, rfl⟩
  refine (walk W _ a0 f0_0 f0_1 f0_2 a1 z1).mono fun e W' ⟨he, hg⟩ => ?_
  subst he
  exact ⟨_, rfl, Copyhold.law_post laidOut (by kernel_rfl) (by kernel_rfl) Try.underlying4 rfl rfl rfl rfl hW' hg⟩

theorem over : Rows.nameBadRow.holds Try.pinned (OpenSpec.ofChange Rows.nameBadSpec) :=
  OpenClaim.holds_of_wide 9 Try.f9 rfl rfl rfl rfl rfl rfl rfl ⟨rfl, rfl, rfl, rfl, rfl⟩ rfl rfl rfl rfl rfl (by kernel_rfl) Try.func9 (by kernel_rfl)
    (of_decide_eq_true (by kernel_rfl)) (by unfold Func.isWrapper; first | (rw [if_pos (by decide +kernel)]; kernel_rfl) | (rw [if_neg (by decide +kernel)]; exact ⟨rfl, rfl⟩))
    (fun os started H enc _ => lifted os started H enc)

theorem proved : Rows.NameBadSaid :=
  over
end Go.Proofs.Ytjeejnjomgcplaa.nameBad
