/- Proved: copyholdlaw01.OctetTakes returns true for every text and every two numbers, and leaves its arguments as they were: a number, a text, and a list that are taken are as the document says. No condition beyond the form's own reach. -/
import Derived.Test.YtibgedkaollniaaOctShown
import Derived.Test.YtibgedkaollniaaRef01TakeList
import Derived.Test.YtibgedkaollniaaRef01Rows
import Derived.Test.YtibgedkaollniaaLaw
namespace Go.Proofs.Ytibgedkaollniaa.octetTakes
open Go.ChangeShapes Go.WideShapes Go.ChangeAt Go.RowKit Copyhold
open Go.ChangeMaps (open_string shut_string)
set_option linter.unusedVariables false

set_option maxRecDepth 100000 in
set_option maxHeartbeats 4000000 in
theorem walk (w : World) (l : List UInt8) (z0 : l.length ≤ 140737488351232) (most : Int) (w1 : (Lit.int .i64 most).wf = true) (long : Int) (w2 : (Lit.int .i64 long).wf = true) :
    Calls Try.prog 4 #[.string ⟨l.toArray⟩, .int .i64 most, .int .i64 long] w fun e w' => e = .returned (.bool true) ∧ Below w.heap.size w w' := by
  have b1 : -9223372036854775808 ≤ most ∧ most ≤ 9223372036854775807 := by simpa [Lit.wf, IntKind.min, IntKind.max, IntKind.signed, IntKind.bits] using w1
  obtain ⟨b10, b11⟩ := b1
  have b2 : -9223372036854775808 ≤ long ∧ long ≤ 9223372036854775807 := by simpa [Lit.wf, IntKind.min, IntKind.max, IntKind.signed, IntKind.bits] using w2
  obtain ⟨b20, b21⟩ := b2
  clear w1 w2
  by_cases hlen : 5000 < l.length
  · go_enter Try.func4, Try.ntmps4
    go_wp2_with fail
    refine (law_shown _).mono ?_
    rintro e w1 ⟨rfl, hb1⟩
    go_wp2_with fail
    go_ret
    exact ⟨rfl, hb1⟩
  · have hlen' : l.length ≤ 5000 := by omega
    have c1 := (takeNum_bd l).2.2
    have c2 := (takeText_bd l most).2.2
    have c3 := takeList_bd l most long
    have c4 := takeList_len l most long
    obtain ⟨c10, c11⟩ := c1
    obtain ⟨c20, c21⟩ := c2
    obtain ⟨c30, c31⟩ := c3
    have hc4 : (takeList l most long).1.length ≤ 2147483648 := by omega
    clear c4 hlen
    go_enter Try.func4, Try.ntmps4
    go_wp2_with fail
    refine (law_shown _).mono ?_
    rintro e w1 ⟨rfl, hb1⟩
    go_wp2_with fail
    refine (octet_TakeNum l _ (by omega)).mono ?_
    rintro e w2 ⟨rfl, hb2⟩
    have hb2 := hb1.trans (hb2.mono hb1.size)
    go_wp2_with fail
    refine (ref_TakeNum l _ (by omega)).mono ?_
    rintro e w3 ⟨rfl, hb3⟩
    have hb3 := hb2.trans (hb3.mono hb2.size)
    clear hb1 hb2
    go_wp2_with fail
    refine (octet_TakeText l most _ (by omega) b10 b11).mono ?_
    rintro e w4 ⟨rfl, hb4⟩
    have hb4 := hb3.trans (hb4.mono hb3.size)
    clear hb3
    go_wp2_with fail
    refine (ref_TakeText l most _ (by omega) b10 b11).mono ?_
    rintro e w5 ⟨rfl, hb5⟩
    have hb5 := hb4.trans (hb5.mono hb4.size)
    clear hb4
    go_wp2_with fail
    refine (octet_TakeList l most long _ (by omega) b10 b11 b20 b21).mono ?_
    rintro e w6 ⟨v6, rfl, hown6, hb6⟩
    have hb6 := hb5.trans (hb6.mono hb5.size)
    clear hb5
    have HO6 := Lib.hid hown6
    clear hown6
    go_wp2_with fail
    refine (ref_TakeList l most long _ (by omega) b10 b11 b20 b21).mono ?_
    rintro e w7 ⟨v7, rfl, hown7, hb7⟩
    have hrow6 := Row.of_owns (owns_below HO6.out hb7)
    have hrow7 := Row.of_owns hown7
    have hb7 := hb6.trans (hb7.mono hb6.size)
    have HR6 := Lib.hid hrow6
    have HR7 := Lib.hid hrow7
    clear hb6 hown7 hrow6 hrow7 HO6
    have hsame : sameTexts (takeList l most long).1 (takeList l most long).1 = true := by simp [sameTexts]
    go_wp2_with fail
    refine (ref_Strings _ _ _ _ _ HR6.out HR7.out hc4 hc4).mono ?_
    rintro e w8 ⟨rfl, hb8⟩
    have hb8 := hb7.trans (hb8.mono hb7.size)
    rw [hsame]
    clear hsame HR6 HR7 hb7 hc4
    generalize takeNum l = x at *
    generalize takeText l most = y at *
    generalize takeList l most long = z at *
    go_wp2_with fail
    go_ret
    exact ⟨rfl, hb8⟩

theorem own : ownKnob Try.prog.godebug = none := by kernel_rfl
theorem laidOut : laidOutB Try.prog = true := by kernel_rfl

set_option maxRecDepth 100000 in
theorem lifted (os : Os) (started : os.Started) (H : Type) (enc : TypeId × Value → H) :
    ReturnsInHanded {} Try.checked os 4 .any (Rows.octetTakesSpec.pre6 enc Try.prog Try.f4 Rows.octetTakesRow.domain false) (Rows.octetTakesSpec.post enc Try.prog Try.f4 false true false false) := by
  refine returnsInHanded_of_change_sized (C := Try.checked) own started (by kernel_rfl) Try.func4
    (ChangeSpec.witness6 (enc := enc) (C := Try.checked) false ⟨#[], #[.string ByteArray.empty, .int .i64 0, .int .i64 0], []⟩ 8 (by kernel_rfl) (by kernel_rfl) (by kernel_rfl) (by kernel_rfl)) ?_
  intro W base args ds gs before hval0 hW hcnd hsz _
  have hval : ∀ (j : Nat) t v, Try.f4.params[j]? = some t → args[j]? = some v → Value.okWide Try.prog W .any base t v := hval0
  have hW' := hW
  have hlt := hW.lt
  obtain ⟨p, q, hA0, hV, rfl, hfz, hnd⟩ := hW
  have hA : DataW.TrodAll enc Try.prog W 0 (fun _ => true) true Try.f4.params.toList args.toList ds p := hA0
  rw [Try.params4] at hA hval
  obtain ⟨v0, vs0, d0, ds0, p0, q0, hargs, rfl, rfl, h0, r0⟩ := trodAll_cons hA
  obtain ⟨v1, vs1, d1, ds1, p1, q1, rfl, rfl, rfl, h1, r1⟩ := trodAll_cons r0
  obtain ⟨v2, vs2, d2, ds2, p2, q2, rfl, rfl, rfl, h2, r2⟩ := trodAll_cons r1
  obtain ⟨rfl, rfl, rfl⟩ := trodAll_nil r2
  obtain rfl : args = #[v0, v1, v2] := by cases args; simp_all
  obtain ⟨rfl, rfl⟩ := trodVars_none hV
  obtain ⟨s0, rfl, rfl, rfl, w0⟩ := open_string Try.underlying9 (hval 0 9 v0 rfl rfl) h0
  have z0 : s0.data.toList.length ≤ 140737488351232 := sized_string hsz (j := 0) (t := 9) (by rw [Try.params4]; rfl) rfl
  obtain ⟨a0, rfl⟩ : ∃ l : List UInt8, s0 = ⟨l.toArray⟩ := ⟨s0.data.toList, rfl⟩
  obtain ⟨a1, rfl, rfl, rfl, w1⟩ := open_int Try.underlying3 (hval 1 3 v1 rfl rfl) h1
  obtain ⟨a2, rfl, rfl, rfl, w2⟩ := open_int Try.underlying3 (hval 2 3 v2 rfl rfl) h2
  refine (walk W a0 z0 a1 w1 a2 w2).mono fun e W' ⟨he, hg⟩ => ?_
  subst he
  exact ⟨_, rfl, Copyhold.law_post laidOut (by kernel_rfl) (by kernel_rfl) Try.underlying4 rfl rfl rfl rfl hW' hg⟩

theorem over : Rows.octetTakesRow.holds Try.pinned (OpenSpec.ofChange Rows.octetTakesSpec) :=
  OpenClaim.holds_of_wide 4 Try.f4 rfl rfl rfl rfl rfl rfl rfl ⟨rfl, rfl, rfl, rfl, rfl⟩ rfl rfl rfl rfl rfl (by kernel_rfl) Try.func4 (by kernel_rfl)
    (of_decide_eq_true (by kernel_rfl)) (by unfold Func.isWrapper; first | (rw [if_pos (by decide +kernel)]; kernel_rfl) | (rw [if_neg (by decide +kernel)]; exact ⟨rfl, rfl⟩))
    (fun os started H enc _ => lifted os started H enc)

theorem proved : Rows.OctetTakesSaid :=
  over
end Go.Proofs.Ytibgedkaollniaa.octetTakes
