/- Proved: copyholdlaw06.NameOthers returns true for every input, and leaves it as it was: where an entry is added, or taken out, all others are found as they were. No condition beyond the form's own reach. -/
import Derived.Test.YtjeejnjomgcplaaNameLawK
namespace Go.Proofs.Ytjeejnjomgcplaa.nameOthers
open Go.ChangeShapes Go.WideShapes Go.ChangeAt Go.RowKit Copyhold Copyhold.Name
open Go.ChangeMaps (open_string shut_string)
set_option linter.unusedVariables false

set_option maxRecDepth 100000 in
set_option maxHeartbeats 4000000 in
theorem walk (w : World) (lv : Value) (l : List Ent) (hl : Ents w lv l) (ho : OkEnts l) (hn : l.length ≤ 5864062014634) (s : List UInt8) (z1 : s.length ≤ 140737488351232) (t : List UInt8) (z2 : t.length ≤ 140737488351232) (n : Int) (wn : (Lit.int .i64 n).wf = true) :
    Calls Try.prog 6 #[.agg #[lv, .string ⟨s.toArray⟩, .string ⟨t.toArray⟩, .int .i64 n]] w fun e w' => e = .returned (.bool true) ∧ Below w.heap.size w w' := by
  obtain ⟨n1, n2⟩ := i64ok_of wn
  have HL := Lib.hid hl
  have HO := Lib.hid ho
  obtain ⟨A, c, rfl, -⟩ := hl.shape
  clear hl ho
  obtain ⟨W0, hW⟩ : ∃ W0, W0 = w.alloc (.cells #[.slice A l.length c, .string ⟨s.toArray⟩, .string ⟨t.toArray⟩, .int .i64 n] 49) := ⟨_, rfl⟩
  have HB0 : Hid (Below w.heap.size w W0) := Lib.hid (by rw [hW]; exact (Below.refl _ _).alloc (Nat.le_refl _) _)
  have HW := Lib.hid hW
  clear hW
  by_cases hs : s.length + t.length ≤ 2000
  · cases hr : rightE l
    · have HR := Lib.hid hr
      clear hr
      go_enter Try.func6, Try.ntmps6
      go_wp2_with fail
      rw [← HW.out]
      refine (law_shown _).mono ?_
      rintro e w1 ⟨rfl, hb1⟩
      have HB1 := below_step HB0 hb1
      clear hb1
      go_wp2_with fail
      refine (right_b _ l w1 (HL.out.below HB1.out) HO.out hn).mono ?_
      rintro e w2 ⟨rfl, hb2⟩
      have HB2 := below_step HB1 hb2
      clear hb2
      rw [HR.out]
      go_wp2_with fail
      go_ret
      exact ⟨rfl, HB2.out⟩
    have hl256 := right_len hr
    have HSRT := Lib.hid (right_srt hr)
    have HR := Lib.hid hr
    by_cases hst : s = t
    · subst hst
      clear hr
      go_enter Try.func6, Try.ntmps6
      go_wp2_with fail
      rw [← HW.out]
      refine (law_shown _).mono ?_
      rintro e w1 ⟨rfl, hb1⟩
      have HB1 := below_step HB0 hb1
      clear hb1
      go_wp2_with fail
      refine (right_b _ l w1 (HL.out.below HB1.out) HO.out hn).mono ?_
      rintro e w2 ⟨rfl, hb2⟩
      have HB2 := below_step HB1 hb2
      clear hb2
      rw [HR.out]
      go_wp2_with fail
      go_ret
      exact ⟨rfl, HB2.out⟩
    · have hq : (s == t) = false := by simpa using hst
      have HEE : Hid ((enterF l s n).1.length ≤ 1000000 ∧ Srt (enterF l s n).1 ∧ (getE (enterF l s n).1 t).getD 0 = (getE l t).getD 0 ∧ isAt (enterF l s n).1 t = isAt l t) := Lib.hid (by
        rcases enter_cases l s n with ⟨e, _, h, _⟩ | ⟨_, _, h3, _, h⟩ <;> rw [h]
        · exact ⟨by simp only; omega, right_srt hr, rfl, rfl⟩
        · simp only
          rw [get_some (l := insE l (s, n)), get_some (l := l), get_ins h3, if_neg (Ne.symm hst), len_ins]
          exact ⟨by omega, srt_ins (right_srt hr) h3, rfl, rfl⟩)
      have HLV : Hid ((leaveF l s).1.length ≤ 1000000 ∧ Srt (leaveF l s).1 ∧ (getE (leaveF l s).1 t).getD 0 = (getE l t).getD 0 ∧ isAt (leaveF l s).1 t = isAt l t) := Lib.hid (by
        unfold leaveF
        split
        · have := List.length_filter_le (fun x : Ent => !(x.1 == s)) l
          simp only
          rw [get_some (l := delE l s), get_some (l := l), get_del, if_neg (Ne.symm hst)]
          exact ⟨by simp only [delE]; omega, srt_del (right_srt hr) s, rfl, rfl⟩
        · exact ⟨by simp only; omega, right_srt hr, rfl, rfl⟩)
      clear hr hst
      go_enter Try.func6, Try.ntmps6
      go_wp2_with fail
      rw [← HW.out]
      refine (law_shown _).mono ?_
      rintro e w1 ⟨rfl, hb1⟩
      have HB1 := below_step HB0 hb1
      clear hb1
      go_wp2_with fail
      refine (right_b _ l w1 (HL.out.below HB1.out) HO.out hn).mono ?_
      rintro e w2 ⟨rfl, hb2⟩
      have HB2 := below_step HB1 hb2
      clear hb2
      rw [HR.out]
      go_wp2_with fail
      refine (find_b _ l t w2 (HL.out.below HB2.out) (by omega) HSRT.out).mono ?_
      rintro e w3 ⟨rfl, hb3⟩
      have HB3 := below_step HB2 hb3
      clear hb3
      go_wp2_with fail
      refine (enter_b _ l s n w3 (HL.out.below HB3.out) hl256 HSRT.out (by omega) n1 n2).mono ?_
      rintro e w4 ⟨v4, rfl, hE4, hb4⟩
      have HB4 := below_step HB3 hb4
      have HE4 := Lib.hid hE4
      obtain ⟨A4, c4, rfl, -⟩ := hE4.shape
      clear hE4
      clear hb4
      go_wp2_with fail
      refine (leave_b _ l s w4 (HL.out.below HB4.out) hl256 HSRT.out).mono ?_
      rintro e w5 ⟨v5, rfl, hE5, hb5⟩
      have HB5 := below_step HB4 hb5
      have HE4a := Lib.hid (HE4.out.below hb5)
      have HE5 := Lib.hid hE5
      obtain ⟨A5, c5, rfl, -⟩ := hE5.shape
      clear hE5
      clear hb5
      go_wp2_with fail
      refine (find_b _ _ t w5 HE4a.out HEE.out.1 HEE.out.2.1).mono ?_
      rw [HEE.out.2.2.1, HEE.out.2.2.2]
      rintro e w6 ⟨rfl, hb6⟩
      have HB6 := below_step HB5 hb6
      have HE5a := Lib.hid (HE5.out.below hb6)
      clear hb6
      go_wp2_with fail
      refine (find_b _ _ t w6 HE5a.out HLV.out.1 HLV.out.2.1).mono ?_
      rw [HLV.out.2.2.1, HLV.out.2.2.2]
      rintro e w7 ⟨rfl, hb7⟩
      have HB7 := below_step HB6 hb7
      clear hb7
      go_wp2_with fail
      go_ret
      exact ⟨rfl, HB7.out⟩
  · have hd : decide ((2000 : Int) < (s.length : Int) + (t.length : Int)) = true := by rw [decide_eq_true_iff]; omega
    go_enter Try.func6, Try.ntmps6
    go_wp2_with fail
    rw [← HW.out]
    refine (law_shown _).mono ?_
    rintro e w1 ⟨rfl, hb1⟩
    have HB1 := below_step HB0 hb1
    clear hb1
    go_wp2_with fail
    go_ret
    exact ⟨rfl, HB1.out⟩

theorem own : ownKnob Try.prog.godebug = none := by kernel_rfl
theorem laidOut : laidOutB Try.prog = true := by kernel_rfl
theorem cellscopyhold_copyholdlaw06_NameOthersIn : Try.prog.cellsOf 49 = 4 := by kernel_rfl
theorem cells__api_Entry : Try.prog.cellsOf 22 = 1 := by kernel_rfl
theorem cellsstring : Try.prog.cellsOf 9 = 1 := by kernel_rfl
theorem cellsint : Try.prog.cellsOf 3 = 1 := by kernel_rfl

set_option maxRecDepth 100000 in
set_option maxHeartbeats 1000000 in
theorem lifted (os : Os) (started : os.Started) (H : Type) (enc : TypeId × Value → H) :
    ReturnsInHanded {} Try.checked os 6 .any (Rows.nameOthersSpec.pre6 enc Try.prog Try.f6 Rows.nameOthersRow.domain false) (Rows.nameOthersSpec.post enc Try.prog Try.f6 false true false false) := by
  refine returnsInHanded_of_change_sized (C := Try.checked) own started (by kernel_rfl) Try.func6
    (ChangeSpec.witness6 (enc := enc) (C := Try.checked) false ⟨#[], #[.agg #[.slice none 0 0, .string ByteArray.empty, .string ByteArray.empty, .int .i64 0]], []⟩ 8 (by kernel_rfl) (by kernel_rfl) (by kernel_rfl) (by kernel_rfl)) ?_
  intro W base args ds gs before hval0 hW hcnd hsz0 _
  have hsz : (DataW.weightsEach Try.prog (Try.f6.params.toList ++ []) (ds ++ gs)).all (· ≤ reachBytes) = true := hsz0
  clear hsz0
  have hval : ∀ (j : Nat) t v, Try.f6.params[j]? = some t → args[j]? = some v → Value.okWide Try.prog W .any base t v := hval0
  have hW' := hW
  have hlt := hW.lt
  obtain ⟨p, q, hA0, hV, rfl, hfz, hnd⟩ := hW
  have hA : DataW.TrodAll enc Try.prog W 0 (fun _ => true) true Try.f6.params.toList args.toList ds p := hA0
  rw [Try.params6] at hA hval
  obtain ⟨v0, vs0, d0, ds0, p0, q0, hargs, rfl, rfl, h0, r0⟩ := trodAll_cons hA
  obtain ⟨rfl, rfl, rfl⟩ := trodAll_nil r0
  obtain rfl : args = #[v0] := by cases args; simp_all
  obtain ⟨rfl, rfl⟩ := trodVars_none hV
  obtain ⟨cs0, rfl, hcz0⟩ := okWide_struct Try.underlying49 (hval 0 49 v0 rfl rfl)
  rw [cellscopyhold_copyholdlaw06_NameOthersIn] at hcz0
  obtain ⟨c0_0, c0_1, c0_2, c0_3, rfl⟩ := array4_of hcz0
  obtain ⟨fuel0, hf0⟩ := h0
  obtain ⟨xs0, m0, _, hx0, _, hlen0, hfl0⟩ := DataW.trod_struct Try.underlying49 hf0
  obtain ⟨y0_0, y0_1, y0_2, y0_3, rfl⟩ := list4 hlen0
  have g0_0 : DataW.trod enc Try.prog W 0 (fun _ => true) true m0 22 [c0_0] = some y0_0 := by have h := hfl0 0 _ rfl; simpa [Value.cells, cells__api_Entry] using h
  have g0_1 : DataW.trod enc Try.prog W 0 (fun _ => true) true m0 9 [c0_1] = some y0_1 := by have h := hfl0 1 _ rfl; simpa [Value.cells, cellsstring] using h
  have g0_2 : DataW.trod enc Try.prog W 0 (fun _ => true) true m0 9 [c0_2] = some y0_2 := by have h := hfl0 2 _ rfl; simpa [Value.cells, cellsstring] using h
  have g0_3 : DataW.trod enc Try.prog W 0 (fun _ => true) true m0 3 [c0_3] = some y0_3 := by have h := hfl0 3 _ rfl; simpa [Value.cells, cellsint] using h
  simp only [Prod.mk.injEq] at hx0
  obtain ⟨rfl, hp0⟩ := hx0
  subst hp0
  have hw0_0 : ∀ n ∈ DataW.weights Try.prog 22 y0_0.1, n ≤ 140737488351232 := fun n hn => sized_deep hsz (by rw [Try.params6]; simp [DataW.weightsEach, DataW.weights, Try.underlying49, hn])
  obtain ⟨u0_0, a0_0, ev0_0, f0_0_0, f0_0_1, f0_0_2⟩ := open_ents g0_0 (fun x hx => hlt x (by simp [hx])) hw0_0
  obtain rfl : c0_0 = _ := by simpa using ev0_0
  obtain ⟨s0_1, ev0_1, ey0_1, w0_1⟩ := DataW.trod_string Try.underlying9 g0_1
  obtain rfl : c0_1 = _ := by simpa using ev0_1
  subst ey0_1
  have z0_1 : s0_1.data.toList.length ≤ 140737488351232 := sized_deep hsz (by rw [Try.params6]; simp [DataW.weightsEach, DataW.weights, Try.underlying49])
  obtain ⟨a0_1, rfl⟩ : ∃ l : List UInt8, s0_1 = ⟨l.toArray⟩ := ⟨s0_1.data.toList, rfl⟩
  obtain ⟨s0_2, ev0_2, ey0_2, w0_2⟩ := DataW.trod_string Try.underlying9 g0_2
  obtain rfl : c0_2 = _ := by simpa using ev0_2
  subst ey0_2
  have z0_2 : s0_2.data.toList.length ≤ 140737488351232 := sized_deep hsz (by rw [Try.params6]; simp [DataW.weightsEach, DataW.weights, Try.underlying49])
  obtain ⟨a0_2, rfl⟩ : ∃ l : List UInt8, s0_2 = ⟨l.toArray⟩ := ⟨s0_2.data.toList, rfl⟩
  obtain ⟨a0_3, ev0_3, ey0_3, w0_3⟩ := DataW.trod_int Try.underlying3 g0_3
  obtain rfl : c0_3 = _ := by simpa using ev0_3
  subst ey0_3
  refine (walk W c0_0 a0_0 f0_0_0 f0_0_1 f0_0_2 a0_1 z0_1 a0_2 z0_2 a0_3 w0_3).mono fun e W' ⟨he, hg⟩ => ?_
  subst he
  exact ⟨_, rfl, Copyhold.law_post laidOut (by kernel_rfl) (by kernel_rfl) Try.underlying4 rfl rfl rfl rfl hW' hg⟩

theorem over : Rows.nameOthersRow.holds Try.pinned (OpenSpec.ofChange Rows.nameOthersSpec) :=
  OpenClaim.holds_of_wide 6 Try.f6 rfl rfl rfl rfl rfl rfl rfl ⟨rfl, rfl, rfl, rfl, rfl⟩ rfl rfl rfl rfl rfl (by kernel_rfl) Try.func6 (by kernel_rfl)
    (of_decide_eq_true (by kernel_rfl)) (by unfold Func.isWrapper; first | (rw [if_pos (by decide +kernel)]; kernel_rfl) | (rw [if_neg (by decide +kernel)]; exact ⟨rfl, rfl⟩))
    (fun os started H enc _ => lifted os started H enc)

theorem proved : Rows.NameOthersSaid :=
  over
end Go.Proofs.Ytjeejnjomgcplaa.nameOthers
