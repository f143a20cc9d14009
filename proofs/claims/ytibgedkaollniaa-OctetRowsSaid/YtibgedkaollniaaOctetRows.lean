/- Proved: copyholdlaw01.OctetRows returns true for every two texts and every number, and leaves its arguments as they were: texts one behind the other are taken one by one, each with what is left; a number has as many bytes as it needs. No condition beyond the form's own reach. -/
import Derived.Test.YtibgedkaollniaaOctShown
import Derived.Test.YtibgedkaollniaaOctTakeText
import Derived.Test.YtibgedkaollniaaPure01b
import Derived.Test.YtibgedkaollniaaLaw
namespace Go.Proofs.Ytibgedkaollniaa.octetRows
open Go.ChangeShapes Go.WideShapes Go.ChangeAt Go.RowKit Copyhold
open Go.ChangeMaps (open_string shut_string)
set_option linter.unusedVariables false

theorem num_small (n : Nat) : (n < 128 → (numB n).length = 1) ∧ (128 ≤ n → n < 16384 → (numB n).length = 2) ∧ (16384 ≤ n → 3 ≤ (numB n).length) := by
  refine ⟨fun h => by rw [numB_small h]; rfl, fun h1 h2 => ?_, fun h => ?_⟩
  · rw [numB_big (by omega), numB_small (by omega)]; rfl
  · rw [numB_big (by omega), numB_big (by omega)]
    have := numB_pos (n / 128 / 128)
    simp only [List.length_cons]; omega

set_option maxHeartbeats 2000000 in
theorem walk (a : List UInt8) (z0 : a.length ≤ 140737488351232) (b : List UInt8) (z1 : b.length ≤ 140737488351232) (n : Int) (w2 : (Lit.int .u64 n).wf = true) (w : World) :
    Calls Try.prog 8 #[.string ⟨a.toArray⟩, .string ⟨b.toArray⟩, .int .u64 n] w fun e w' => e = .returned (.bool true) ∧ Below w.heap.size w w' := by
  have b2 : 0 ≤ n ∧ n ≤ 18446744073709551615 := by simpa [Lit.wf, IntKind.min, IntKind.max, IntKind.signed, IntKind.bits] using w2
  obtain ⟨b20, b21⟩ := b2
  clear w2
  by_cases hlen : 3000 < a.length + b.length
  · go_enter Try.func8, Try.ntmps8
    go_wp2_with fail
    refine (law_shown _).mono ?_
    rintro e w1 ⟨rfl, hb1⟩
    go_wp2_with fail
    go_ret
    exact ⟨rfl, hb1⟩
  · go_enter Try.func8, Try.ntmps8
    go_wp2_with fail
    refine (law_shown _).mono ?_
    rintro e w1 ⟨rfl, hb1⟩
    have ha : a.length ≤ 3000 := by omega
    have hb : b.length ≤ 3000 := by omega
    go_wp2_with fail
    refine (octet_Text a _ (by omega)).mono ?_
    rintro e w2 ⟨rfl, hb2⟩
    go_wp2_with fail
    refine (octet_Text b _ (by omega)).mono ?_
    rintro e w3 ⟨rfl, hb3⟩
    have l1 := textB_len a (by omega)
    have l2 := textB_len b (by omega)
    have t1 : takeText (textB a ++ textB b) 3000 = (a, textB b, 0) := by
      rw [takeText_textB _ _ _ (by omega), if_neg (by omega)]
    have t2 : takeText (textB b) 3000 = (b, [], 0) := by
      have := takeText_textB b 3000 [] (by omega)
      rw [List.append_nil] at this
      rw [this, if_neg (by omega)]
    have T1 := Lib.hid t1
    have T2 := Lib.hid t2
    clear t1 t2
    go_wp2_with fail
    refine (octet_TakeText _ _ _ (by rw [List.length_append]; omega) (by omega) (by omega)).mono ?_
    rintro e w4 ⟨rfl, hb4⟩
    rw [T1.out]
    go_wp2_with fail
    refine (octet_TakeText _ _ _ (by omega) (by omega) (by omega)).mono ?_
    rintro e w5 ⟨rfl, hb5⟩
    rw [T2.out]
    go_wp2_with fail
    refine (octet_Num _ _ b20 b21).mono ?_
    rintro e w6 ⟨rfl, hb6⟩
    have n10 := numB_len10 n.toNat (by omega)
    have hbelow : Below w.heap.size w w6 := by
      have s1 := hb1.size
      have s2 := hb2.size
      have s3 := hb3.size
      have s4 := hb4.size
      have s5 := hb5.size
      exact ((((hb1.trans (hb2.mono s1)).trans (hb3.mono (by omega))).trans (hb4.mono (by omega))).trans (hb5.mono (by omega))).trans (hb6.mono (by omega))
    have hnum := num_small n.toNat
    generalize numB n.toNat = x at *
    rcases (show n < 128 ∧ x.length = 1 ∨ 128 ≤ n ∧ n < 16384 ∧ x.length = 2 ∨ 16384 ≤ n ∧ 3 ≤ x.length from by omega) with ⟨h1, h2⟩ | ⟨h1, h2, h3⟩ | ⟨h1, h2⟩
    all_goals
      clear hnum
      go_wp2_with fail
      go_ret
      exact ⟨by first | rfl | exact ret_bool (decide_eq_true (by omega)), hbelow⟩

theorem own : ownKnob Try.prog.godebug = none := by kernel_rfl
theorem laidOut : laidOutB Try.prog = true := by kernel_rfl

set_option maxRecDepth 100000 in
theorem lifted (os : Os) (started : os.Started) (H : Type) (enc : TypeId × Value → H) :
    ReturnsInHanded {} Try.checked os 8 .any (Rows.octetRowsSpec.pre6 enc Try.prog Try.f8 Rows.octetRowsRow.domain false) (Rows.octetRowsSpec.post enc Try.prog Try.f8 false true false false) := by
  refine returnsInHanded_of_change_sized (C := Try.checked) own started (by kernel_rfl) Try.func8
    (ChangeSpec.witness6 (enc := enc) (C := Try.checked) false ⟨#[], #[.string ByteArray.empty, .string ByteArray.empty, .int .u64 0], []⟩ 8 (by kernel_rfl) (by kernel_rfl) (by kernel_rfl) (by kernel_rfl)) ?_
  intro W base args ds gs before hval0 hW hcnd hsz _
  have hval : ∀ (j : Nat) t v, Try.f8.params[j]? = some t → args[j]? = some v → Value.okWide Try.prog W .any base t v := hval0
  have hW' := hW
  have hlt := hW.lt
  obtain ⟨p, q, hA0, hV, rfl, hfz, hnd⟩ := hW
  have hA : DataW.TrodAll enc Try.prog W 0 (fun _ => true) true Try.f8.params.toList args.toList ds p := hA0
  rw [Try.params8] at hA hval
  obtain ⟨v0, vs0, d0, ds0, p0, q0, hargs, rfl, rfl, h0, r0⟩ := trodAll_cons hA
  obtain ⟨v1, vs1, d1, ds1, p1, q1, rfl, rfl, rfl, h1, r1⟩ := trodAll_cons r0
  obtain ⟨v2, vs2, d2, ds2, p2, q2, rfl, rfl, rfl, h2, r2⟩ := trodAll_cons r1
  obtain ⟨rfl, rfl, rfl⟩ := trodAll_nil r2
  obtain rfl : args = #[v0, v1, v2] := by cases args; simp_all
  obtain ⟨rfl, rfl⟩ := trodVars_none hV
  obtain ⟨s0, rfl, rfl, rfl, w0⟩ := open_string Try.underlying9 (hval 0 9 v0 rfl rfl) h0
  have z0 : s0.data.toList.length ≤ 140737488351232 := sized_string hsz (j := 0) (t := 9) (by rw [Try.params8]; rfl) rfl
  obtain ⟨a0, rfl⟩ : ∃ l : List UInt8, s0 = ⟨l.toArray⟩ := ⟨s0.data.toList, rfl⟩
  obtain ⟨s1, rfl, rfl, rfl, w1⟩ := open_string Try.underlying9 (hval 1 9 v1 rfl rfl) h1
  have z1 : s1.data.toList.length ≤ 140737488351232 := sized_string hsz (j := 1) (t := 9) (by rw [Try.params8]; rfl) rfl
  obtain ⟨a1, rfl⟩ : ∃ l : List UInt8, s1 = ⟨l.toArray⟩ := ⟨s1.data.toList, rfl⟩
  obtain ⟨a2, rfl, rfl, rfl, w2⟩ := open_int Try.underlying22 (hval 2 22 v2 rfl rfl) h2
  refine (walk a0 z0 a1 z1 a2 w2 W).mono fun e W' ⟨he, hg⟩ => ?_
  subst he
  exact ⟨_, rfl, Copyhold.law_post laidOut (by kernel_rfl) (by kernel_rfl) Try.underlying4 rfl rfl rfl rfl hW' hg⟩

theorem over : Rows.octetRowsRow.holds Try.pinned (OpenSpec.ofChange Rows.octetRowsSpec) :=
  OpenClaim.holds_of_wide 8 Try.f8 rfl rfl rfl rfl rfl rfl rfl ⟨rfl, rfl, rfl, rfl, rfl⟩ rfl rfl rfl rfl rfl (by kernel_rfl) Try.func8 (by kernel_rfl)
    (of_decide_eq_true (by kernel_rfl)) (by unfold Func.isWrapper; first | (rw [if_pos (by decide +kernel)]; kernel_rfl) | (rw [if_neg (by decide +kernel)]; exact ⟨rfl, rfl⟩))
    (fun os started H enc _ => lifted os started H enc)

theorem proved : Rows.OctetRowsSaid :=
  over
end Go.Proofs.Ytibgedkaollniaa.octetRows
