/- Proved: copyholdlaw06.NameTurns returns true for every input, and leaves it as it was: an entry that is added, and one that is taken out, is as the document says. No condition beyond the form's own reach. -/
import Derived.Test.YtjeejnjomgcplaaNameLawK
namespace Go.Proofs.Ytjeejnjomgcplaa.nameTurns
open Go.ChangeShapes Go.WideShapes Go.ChangeAt Go.RowKit Copyhold Copyhold.Name
open Go.ChangeMaps (open_string shut_string)
set_option linter.unusedVariables false

set_option maxRecDepth 100000 in
set_option maxHeartbeats 4000000 in
theorem walk (w : World) (lv : Value) (l : List Ent) (hl : Ents w lv l) (ho : OkEnts l) (hn : l.length ≤ 5864062014634) (s : List UInt8) (z1 : s.length ≤ 140737488351232) (n : Int) (wn : (Lit.int .i64 n).wf = true) :
    Calls Try.prog 4 #[lv, .string ⟨s.toArray⟩, .int .i64 n] w fun e w' => e = .returned (.bool true) ∧ Below w.heap.size w w' := by
  obtain ⟨n1, n2⟩ := i64ok_of wn
  have HL := Lib.hid hl
  have HO := Lib.hid ho
  obtain ⟨A, c, rfl, -⟩ := hl.shape
  clear hl ho
  by_cases hs : s.length ≤ 2000
  · cases hr : rightE l
    · have HR := Lib.hid hr
      clear hr
      go_enter Try.func4, Try.ntmps4
      go_wp2_with fail
      refine (law_shown _).mono ?_
      rintro e w1 ⟨rfl, hb1⟩
      have HB1 := Lib.hid hb1
      clear hb1
      go_wp2_with fail
      refine (right_b _ l w1 (HL.out.below HB1.out) HO.out hn).mono ?_
      rintro e w2 ⟨rfl, hb2⟩
      have HB2 := below_step HB1 hb2
      clear hb2
      rw [HR.out]
      go_wp2_with fail
      go_ret
      exact ⟨rfl, HB2.out⟩
    · have hl256 := right_len hr
      have HSRT := Lib.hid (right_srt hr)
      have HR := Lib.hid hr
      have HLE : Hid ((enterF l s n).1.length ≤ 1000000) := Lib.hid (by
        rcases enter_cases l s n with ⟨e, _, h, _⟩ | ⟨_, _, _, _, h⟩ <;> rw [h]
        · simp only; omega
        · simp only [len_ins]; omega)
      have HLL : Hid ((leaveF l s).1.length ≤ 1000000) := Lib.hid (by
        unfold leaveF
        split
        · have := List.length_filter_le (fun x : Ent => !(x.1 == s)) l
          simp only [delE]; omega
        · simp only; omega)
      clear hr
      go_enter Try.func4, Try.ntmps4
      go_wp2_with fail
      refine (law_shown _).mono ?_
      rintro e w1 ⟨rfl, hb1⟩
      have HB1 := Lib.hid hb1
      clear hb1
      go_wp2_with fail
      refine (right_b _ l w1 (HL.out.below HB1.out) HO.out hn).mono ?_
      rintro e w2 ⟨rfl, hb2⟩
      have HB2 := below_step HB1 hb2
      clear hb2
      rw [HR.out]
      go_wp2_with fail
      refine (enter_b _ l s n w2 (HL.out.below HB2.out) hl256 HSRT.out z1 n1 n2).mono ?_
      rintro e w3 ⟨v3, rfl, hE3, hb3⟩
      have HB3 := below_step HB2 hb3
      have HE3 := Lib.hid hE3
      obtain ⟨A3, c3, rfl, -⟩ := hE3.shape
      clear hE3
      clear hb3
      go_wp2_with fail
      refine (renter_b _ l s n w3 (HL.out.below HB3.out) hl256 HSRT.out z1 n1 n2).mono ?_
      rintro e w4 ⟨v4, rfl, hE4, hb4⟩
      have HB4 := below_step HB3 hb4
      have HE3a := Lib.hid (HE3.out.below hb4)
      have HE4 := Lib.hid hE4
      obtain ⟨A4, c4, rfl, -⟩ := hE4.shape
      clear hE4
      clear hb4
      go_wp2_with fail
      refine (leave_b _ l s w4 (HL.out.below HB4.out) hl256 HSRT.out).mono ?_
      rintro e w5 ⟨v5, rfl, hE5, hb5⟩
      have HB5 := below_step HB4 hb5
      have HE3b := Lib.hid (HE3a.out.below hb5)
      have HE4a := Lib.hid (HE4.out.below hb5)
      have HE5 := Lib.hid hE5
      obtain ⟨A5, c5, rfl, -⟩ := hE5.shape
      clear hE5
      clear hb5
      go_wp2_with fail
      refine (rleave_b _ l s w5 (HL.out.below HB5.out) hl256).mono ?_
      rintro e w6 ⟨v6, rfl, hE6, hb6⟩
      have HB6 := below_step HB5 hb6
      have HE3c := Lib.hid (HE3b.out.below hb6)
      have HE4b := Lib.hid (HE4a.out.below hb6)
      have HE5a := Lib.hid (HE5.out.below hb6)
      have HE6 := Lib.hid hE6
      obtain ⟨A6, c6, rfl, -⟩ := hE6.shape
      clear hE6
      clear hb6
      go_wp2_with fail
      refine (same_b _ _ _ _ w6 HE3c.out HE4b.out HLE.out HLE.out).mono ?_
      rintro e w7 ⟨rfl, hb7⟩
      have HB7 := below_step HB6 hb7
      have HE5b := Lib.hid (HE5a.out.below hb7)
      have HE6a := Lib.hid (HE6.out.below hb7)
      clear hb7
      rw [beq_self_eq_true]
      go_wp2_with fail
      refine (same_b _ _ _ _ w7 HE5b.out HE6a.out HLL.out HLL.out).mono ?_
      rintro e w8 ⟨rfl, hb8⟩
      have HB8 := below_step HB7 hb8
      clear hb8
      rw [beq_self_eq_true]
      go_wp2_with fail
      go_ret
      exact ⟨rfl, HB8.out⟩
  · have hd : decide ((2000 : Int) < (s.length : Int)) = true := by rw [decide_eq_true_iff]; omega
    go_enter Try.func4, Try.ntmps4
    go_wp2_with fail
    refine (law_shown _).mono ?_
    rintro e w1 ⟨rfl, hb1⟩
    have HB1 := Lib.hid hb1
    clear hb1
    go_wp2_with fail
    go_ret
    exact ⟨rfl, HB1.out⟩

theorem own : ownKnob Try.prog.godebug = none := by kernel_rfl
theorem laidOut : laidOutB Try.prog = true := by kernel_rfl

set_option maxRecDepth 100000 in
set_option maxHeartbeats 1000000 in
theorem lifted (os : Os) (started : os.Started) (H : Type) (enc : TypeId × Value → H) :
    ReturnsInHanded {} Try.checked os 4 .any (Rows.nameTurnsSpec.pre6 enc Try.prog Try.f4 Rows.nameTurnsRow.domain false) (Rows.nameTurnsSpec.post enc Try.prog Try.f4 false true false false) := by
  refine returnsInHanded_of_change_sized (C := Try.checked) own started (by kernel_rfl) Try.func4
    (ChangeSpec.witness6 (enc := enc) (C := Try.checked) false ⟨#[], #[.slice none 0 0, .string ByteArray.empty, .int .i64 0], []⟩ 8 (by kernel_rfl) (by kernel_rfl) (by kernel_rfl) (by kernel_rfl)) ?_
  intro W base args ds gs before hval0 hW hcnd hsz0 _
  have hsz : (DataW.weightsEach Try.prog (Try.f4.params.toList ++ []) (ds ++ gs)).all (· ≤ reachBytes) = true := hsz0
  clear hsz0
  have hval : ∀ (j : Nat) t v, Try.f4.params[j]? = some t → args[j]? = some v → Value.okWide Try.prog W .any base t v := hval0
  have hW' := hW
  have hlt := hW.lt
  obtain ⟨p, q, hA0, hV, rfl, hfz, hnd⟩ := hW
  have hA : DataW.TrodAll enc Try.prog W 0 (fun _ => true) true Try.f4.params.toList args.toList ds p := hA0
  rw [Try.params4] at hA hval
  obtain ⟨v0, vs0, d0, ds0, p0, q0, hargs, rfl, rfl, h0, r0⟩ := trodAll_cons hA
  obtain ⟨v1, vs1, d1, ds1, p1, q1, rfl, rfl, rfl, h1, r1⟩ := trodAll_cons r0
  obtain ⟨v2, vs2, d2, ds2, p2, q2, rfl, rfl, rfl, h2, r2⟩ := trodAll_cons r1
  obtain ⟨rfl, rfl, rfl⟩ := trodAll_nil r2
  obtain rfl : args = #[v0, v1, v2] := by cases args; simp_all
  obtain ⟨rfl, rfl⟩ := trodVars_none hV
  have hw0 : ∀ n ∈ DataW.weights Try.prog 22 d0, n ≤ 140737488351232 := fun n hn => sized_deep hsz (by rw [Try.params4]; simp [DataW.weightsEach, hn])
  obtain ⟨A0, len0, cap0, rfl⟩ := okWide_slice Try.underlying22 (hval 0 22 v0 rfl rfl)
  obtain ⟨fuel0, hf0⟩ := h0
  obtain ⟨u0, a0, ev0, f0_0, f0_1, f0_2⟩ := open_ents hf0 (fun x hx => hlt x (by simp [hx])) hw0
  obtain rfl : Value.slice A0 len0 cap0 = u0 := by have h : [Value.slice A0 len0 cap0] = [u0] := ev0; simpa using h
  obtain ⟨s1, rfl, rfl, rfl, w1⟩ := open_string Try.underlying9 (hval 1 9 v1 rfl rfl) h1
  have z1 : s1.data.toList.length ≤ 140737488351232 := sized_string hsz (j := 1) (t := 9) (by rw [Try.params4]; rfl) rfl
  obtain ⟨a1, rfl⟩ : ∃ l : List UInt8, s1 = ⟨l.toArray⟩ := ⟨s1.data.toList, rfl⟩
  obtain ⟨a2, rfl, rfl, rfl, w2⟩ := open_int Try.underlying3 (hval 2 3 v2 rfl rfl) h2
  refine (walk W _ a0 f0_0 f0_1 f0_2 a1 z1 a2 w2).mono fun e W' ⟨he, hg⟩ => ?_
  subst he
  exact ⟨_, rfl, Copyhold.law_post laidOut (by kernel_rfl) (by kernel_rfl) Try.underlying4 rfl rfl rfl rfl hW' hg⟩

theorem over : Rows.nameTurnsRow.holds Try.pinned (OpenSpec.ofChange Rows.nameTurnsSpec) :=
  OpenClaim.holds_of_wide 4 Try.f4 rfl rfl rfl rfl rfl rfl rfl ⟨rfl, rfl, rfl, rfl, rfl⟩ rfl rfl rfl rfl rfl (by kernel_rfl) Try.func4 (by kernel_rfl)
    (of_decide_eq_true (by kernel_rfl)) (by unfold Func.isWrapper; first | (rw [if_pos (by decide +kernel)]; kernel_rfl) | (rw [if_neg (by decide +kernel)]; exact ⟨rfl, rfl⟩))
    (fun os started H enc _ => lifted os started H enc)

theorem proved : Rows.NameTurnsSaid :=
  over
end Go.Proofs.Ytjeejnjomgcplaa.nameTurns
