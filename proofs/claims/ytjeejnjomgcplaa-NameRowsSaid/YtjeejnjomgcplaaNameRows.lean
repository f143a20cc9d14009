/- Proved: copyholdlaw06.NameRows returns true for every input, and leaves it as it was: which names and rows are right, an entry, all names, and a path's names, are as the document says. No condition beyond the form's own reach. -/
import Derived.Test.YtjeejnjomgcplaaNameLawK
namespace Go.Proofs.Ytjeejnjomgcplaa.nameRows
open Go.ChangeShapes Go.WideShapes Go.ChangeAt Go.RowKit Copyhold Copyhold.Name
open Go.ChangeMaps (open_string shut_string)
set_option linter.unusedVariables false

set_option maxRecDepth 100000 in
set_option maxHeartbeats 4000000 in
theorem walk (w : World) (lv : Value) (l : List Ent) (hl : Ents w lv l) (ho : OkEnts l) (hn : l.length ≤ 5864062014634) (s : List UInt8) (z1 : s.length ≤ 140737488351232) :
    Calls Try.prog 3 #[lv, .string ⟨s.toArray⟩] w fun e w' => e = .returned (.bool true) ∧ Below w.heap.size w w' := by
  have HL := Lib.hid hl
  have HO := Lib.hid ho
  obtain ⟨A, c, rfl, -⟩ := hl.shape
  clear hl ho
  by_cases hs : s.length ≤ 2000 ∧ l.length ≤ 300
  · obtain ⟨hs, hl3⟩ := hs
    have HS1 : Hid (∀ W, Calls Try.prog 12 #[.string ⟨s.toArray⟩] W (RetSp W (splitD s))) := Lib.hid fun W => name_Split s (by omega) W
    have HS2 : Hid (∀ W, Calls Try.prog 13 #[.string ⟨s.toArray⟩] W (RetSp W (splitD s))) := Lib.hid fun W => ref06_Split s (by omega) W
    have HSL : Hid ((splitD s).1.length ≤ 8796093022208) := Lib.hid (by
      unfold splitD
      have := len_names s
      split
      · split
        · simp only; omega
        · simp
      · simp)
    have HST : Hid (sameTexts (splitD s).1 (splitD s).1 = true) := Lib.hid (by simp [sameTexts])
    generalize splitD s = r at *
    have HNM : Hid (sameTexts (l.map (·.1)) (l.map (·.1)) = true) := Lib.hid (by simp [sameTexts])
    cases hr : rightE l
    · have HR := Lib.hid hr
      clear hr
      go_enter Try.func3, Try.ntmps3
      go_wp2_with fail
      refine (law_shown _).mono ?_
      rintro e w1 ⟨rfl, hb1⟩
      have HB1 := Lib.hid hb1
      clear hb1
      go_wp2_with fail
      refine (right_b _ l w1 (HL.out.below HB1.out) HO.out hn).mono ?_
      rintro e w2 ⟨rfl, hb2⟩
      have HB2 := below_step HB1 hb2
      clear hb2
      go_wp2_with fail
      refine (HS1.out w2).mono ?_
      rintro e w3 ⟨v3, rfl, hE3, hb3⟩
      have HB3 := below_step HB2 hb3
      have HX := Lib.hid hE3
      obtain ⟨A3, c3, rfl⟩ := hE3.shape
      simp only [List.length_map] at HX
      clear hE3
      clear hb3
      go_wp2_with fail
      refine (HS2.out w3).mono ?_
      rintro e w4 ⟨v4, rfl, hE4, hb4⟩
      have HB4 := below_step HB3 hb4
      have HXa := Lib.hid (HX.out.below hb4)
      have HY := Lib.hid hE4
      obtain ⟨A4, c4, rfl⟩ := hE4.shape
      simp only [List.length_map] at HY
      clear hE4
      clear hb4
      go_wp2_with fail
      refine (ref_Strings _ _ r.1 r.1 w4 HXa.out HY.out HSL.out HSL.out).mono ?_
      rw [HST.out]
      rintro e w5 ⟨rfl, hb5⟩
      have HB5 := below_step HB4 hb5
      clear hb5
      go_wp2_with fail
      refine (nright_b _ l w5 (HL.out.below HB5.out) HO.out hn).mono ?_
      rintro e w6 ⟨rfl, hb6⟩
      have HB6 := below_step HB5 hb6
      clear hb6
      go_wp2_with fail
      refine (name_Check s w6 (by omega)).mono ?_
      rintro e w6a ⟨rfl, rfl⟩
      go_wp2_with fail
      refine (ref06_Check s w6 (by omega)).mono ?_
      rintro e w6a ⟨rfl, rfl⟩
      rw [HR.out]
      go_wp2_with fail
      go_ret
      exact ⟨rfl, HB6.out⟩
    · have hl256 := right_len hr
      have HSRT := Lib.hid (right_srt hr)
      have HR := Lib.hid hr
      clear hr
      go_enter Try.func3, Try.ntmps3
      go_wp2_with fail
      refine (law_shown _).mono ?_
      rintro e w1 ⟨rfl, hb1⟩
      have HB1 := Lib.hid hb1
      clear hb1
      go_wp2_with fail
      refine (right_b _ l w1 (HL.out.below HB1.out) HO.out hn).mono ?_
      rintro e w2 ⟨rfl, hb2⟩
      have HB2 := below_step HB1 hb2
      clear hb2
      go_wp2_with fail
      refine (HS1.out w2).mono ?_
      rintro e w3 ⟨v3, rfl, hE3, hb3⟩
      have HB3 := below_step HB2 hb3
      have HX := Lib.hid hE3
      obtain ⟨A3, c3, rfl⟩ := hE3.shape
      simp only [List.length_map] at HX
      clear hE3
      clear hb3
      go_wp2_with fail
      refine (HS2.out w3).mono ?_
      rintro e w4 ⟨v4, rfl, hE4, hb4⟩
      have HB4 := below_step HB3 hb4
      have HXa := Lib.hid (HX.out.below hb4)
      have HY := Lib.hid hE4
      obtain ⟨A4, c4, rfl⟩ := hE4.shape
      simp only [List.length_map] at HY
      clear hE4
      clear hb4
      go_wp2_with fail
      refine (ref_Strings _ _ r.1 r.1 w4 HXa.out HY.out HSL.out HSL.out).mono ?_
      rw [HST.out]
      rintro e w5 ⟨rfl, hb5⟩
      have HB5 := below_step HB4 hb5
      clear hb5
      go_wp2_with fail
      refine (nright_b _ l w5 (HL.out.below HB5.out) HO.out hn).mono ?_
      rintro e w6 ⟨rfl, hb6⟩
      have HB6 := below_step HB5 hb6
      clear hb6
      go_wp2_with fail
      refine (name_Check s w6 (by omega)).mono ?_
      rintro e w6a ⟨rfl, rfl⟩
      go_wp2_with fail
      refine (ref06_Check s w6 (by omega)).mono ?_
      rintro e w6a ⟨rfl, rfl⟩
      rw [HR.out]
      go_wp2_with fail
      refine (find_b _ l s w6 (HL.out.below HB6.out) (by omega) HSRT.out).mono ?_
      rintro e w7 ⟨rfl, hb7⟩
      have HB7 := below_step HB6 hb7
      clear hb7
      go_wp2_with fail
      refine (rfind_b _ l s w7 (HL.out.below HB7.out) (by omega)).mono ?_
      rintro e w8 ⟨rfl, hb8⟩
      have HB8 := below_step HB7 hb8
      clear hb8
      go_wp2_with fail
      refine (names_b _ l w8 (HL.out.below HB8.out) (by omega)).mono ?_
      rintro e w9 ⟨v9, rfl, hE9, hb9⟩
      have HB9 := below_step HB8 hb9
      have HN := Lib.hid hE9
      obtain ⟨A9, c9, rfl⟩ := hE9.shape
      simp only [List.length_map] at HN
      clear hE9
      clear hb9
      go_wp2_with fail
      refine (rnames_b _ l w9 (HL.out.below HB9.out) (by omega)).mono ?_
      rintro e w10 ⟨v10, rfl, hE10, hb10⟩
      have HB10 := below_step HB9 hb10
      have HNa := Lib.hid (HN.out.below hb10)
      have HM := Lib.hid hE10
      obtain ⟨A10, c10, rfl⟩ := hE10.shape
      simp only [List.length_map] at HM
      clear hE10
      clear hb10
      go_wp2_with fail
      refine (ref_Strings _ _ (l.map (·.1)) (l.map (·.1)) w10 HNa.out HM.out (by simp; omega) (by simp; omega)).mono ?_
      rw [HNM.out]
      rintro e w11 ⟨rfl, hb11⟩
      have HB11 := below_step HB10 hb11
      clear hb11
      go_wp2_with fail
      go_ret
      exact ⟨rfl, HB11.out⟩
  · rcases (show 300 < l.length ∨ l.length ≤ 300 ∧ 2000 < s.length from by omega) with h | ⟨h1, h2⟩
    all_goals
      go_enter Try.func3, Try.ntmps3
      go_wp2_with fail
      refine (law_shown _).mono ?_
      rintro e w1 ⟨rfl, hb1⟩
      have HB1 := Lib.hid hb1
      clear hb1
      go_wp2_with fail
      go_ret
      exact ⟨rfl, HB1.out⟩

theorem own : ownKnob Try.prog.godebug = none := by kernel_rfl
theorem laidOut : laidOutB Try.prog = true := by kernel_rfl

set_option maxRecDepth 100000 in
set_option maxHeartbeats 1000000 in
theorem lifted (os : Os) (started : os.Started) (H : Type) (enc : TypeId × Value → H) :
    ReturnsInHanded {} Try.checked os 3 .any (Rows.nameRowsSpec.pre6 enc Try.prog Try.f3 Rows.nameRowsRow.domain false) (Rows.nameRowsSpec.post enc Try.prog Try.f3 false true false false) := by
  refine returnsInHanded_of_change_sized (C := Try.checked) own started (by kernel_rfl) Try.func3
    (ChangeSpec.witness6 (enc := enc) (C := Try.checked) false ⟨#[], #[.slice none 0 0, .string ByteArray.empty], []⟩ 8 (by kernel_rfl) (by kernel_rfl) (by kernel_rfl) (by kernel_rfl)) ?_
  intro W base args ds gs before hval0 hW hcnd hsz0 _
  have hsz : (DataW.weightsEach Try.prog (Try.f3.params.toList ++ []) (ds ++ gs)).all (· ≤ reachBytes) = true := hsz0
  clear hsz0
  have hval : ∀ (j : Nat) t v, Try.f3.params[j]? = some t → args[j]? = some v → Value.okWide Try.prog W .any base t v := hval0
  have hW' := hW
  have hlt := hW.lt
  obtain ⟨p, q, hA0, hV, rfl, hfz, hnd⟩ := hW
  have hA : DataW.TrodAll enc Try.prog W 0 (fun _ => true) true Try.f3.params.toList args.toList ds p := hA0
  rw [Try.params3] at hA hval
  obtain ⟨v0, vs0, d0, ds0, p0, q0, hargs, rfl, rfl, h0, r0⟩ := trodAll_cons hA
  obtain ⟨v1, vs1, d1, ds1, p1, q1, rfl, rfl, rfl, h1, r1⟩ := trodAll_cons r0
  obtain ⟨rfl, rfl, rfl⟩ := trodAll_nil r1
  obtain rfl : args = #[v0, v1] := by cases args; simp_all
  obtain ⟨rfl, rfl⟩ := trodVars_none hV
  have hw0 : ∀ n ∈ DataW.weights Try.prog 22 d0, n ≤ 140737488351232 := fun n hn => sized_deep hsz (by rw [Try.params3]; simp [DataW.weightsEach, hn])
  obtain ⟨A0, len0, cap0, rfl⟩ := okWide_slice Try.underlying22 (hval 0 22 v0 rfl rfl)
  obtain ⟨fuel0, hf0⟩ := h0
  obtain ⟨u0, a0, ev0, f0_0, f0_1, f0_2⟩ := open_ents hf0 (fun x hx => hlt x (by simp [hx])) hw0
  obtain rfl : Value.slice A0 len0 cap0 = u0 := by have h : [Value.slice A0 len0 cap0] = [u0] := ev0; simpa using h
  obtain ⟨s1, rfl, rfl, rfl, w1⟩ := open_string Try.underlying9 (hval 1 9 v1 rfl rfl) h1
  have z1 : s1.data.toList.length ≤ 140737488351232 := sized_string hsz (j := 1) (t := 9) (by rw [Try.params3]; rfl) rfl
  obtain ⟨a1, rfl⟩ : ∃ l : List UInt8, s1 = ⟨l.toArray⟩ := ⟨s1.data.toList, rfl⟩
  refine (walk W _ a0 f0_0 f0_1 f0_2 a1 z1).mono fun e W' ⟨he, hg⟩ => ?_
  subst he
  exact ⟨_, rfl, Copyhold.law_post laidOut (by kernel_rfl) (by kernel_rfl) Try.underlying4 rfl rfl rfl rfl hW' hg⟩

theorem over : Rows.nameRowsRow.holds Try.pinned (OpenSpec.ofChange Rows.nameRowsSpec) :=
  OpenClaim.holds_of_wide 3 Try.f3 rfl rfl rfl rfl rfl rfl rfl ⟨rfl, rfl, rfl, rfl, rfl⟩ rfl rfl rfl rfl rfl (by kernel_rfl) Try.func3 (by kernel_rfl)
    (of_decide_eq_true (by kernel_rfl)) (by unfold Func.isWrapper; first | (rw [if_pos (by decide +kernel)]; kernel_rfl) | (rw [if_neg (by decide +kernel)]; exact ⟨rfl, rfl⟩))
    (fun os started H enc _ => lifted os started H enc)

theorem proved : Rows.NameRowsSaid :=
  over
end Go.Proofs.Ytjeejnjomgcplaa.nameRows
