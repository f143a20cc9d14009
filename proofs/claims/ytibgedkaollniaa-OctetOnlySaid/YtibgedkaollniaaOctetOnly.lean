/- Proved: copyholdlaw01.OctetOnly returns true for every text and every two numbers, and leaves its arguments as they were: what is taken was laid: laid again it is what was taken. No condition beyond the form's own reach. -/
import Derived.Test.YtibgedkaollniaaOctShown
import Derived.Test.YtibgedkaollniaaOctTakeList
import Derived.Test.YtibgedkaollniaaPure01b
import Derived.Test.YtibgedkaollniaaLaw
namespace Go.Proofs.Ytibgedkaollniaa.octetOnly
open Go.ChangeShapes Go.WideShapes Go.ChangeAt Go.RowKit Copyhold
open Go.ChangeMaps (open_string shut_string)
set_option linter.unusedVariables false

set_option maxHeartbeats 2000000 in
theorem walk (l : List UInt8) (z0 : l.length ≤ 140737488351232) (most : Int) (w1 : (Lit.int .i64 most).wf = true) (long : Int) (w2 : (Lit.int .i64 long).wf = true) (w : World) :
    Calls Try.prog 7 #[.string ⟨l.toArray⟩, .int .i64 most, .int .i64 long] w fun e w' => e = .returned (.bool true) ∧ Below w.heap.size w w' := by
  have b1 : -9223372036854775808 ≤ most ∧ most ≤ 9223372036854775807 := by simpa [Lit.wf, IntKind.min, IntKind.max, IntKind.signed, IntKind.bits] using w1
  obtain ⟨b10, b11⟩ := b1
  have b2 : -9223372036854775808 ≤ long ∧ long ≤ 9223372036854775807 := by simpa [Lit.wf, IntKind.min, IntKind.max, IntKind.signed, IntKind.bits] using w2
  obtain ⟨b20, b21⟩ := b2
  clear w1 w2
  by_cases hlen : 5000 < l.length
  · go_enter Try.func7, Try.ntmps7
    go_wp2_with fail
    refine (law_shown _).mono ?_
    rintro e w1 ⟨rfl, hb1⟩
    go_wp2_with fail
    go_ret
    exact ⟨rfl, hb1⟩
  · have hnb := takeNum_bd l
    have hne : ((takeNum l).2.2 == 0) = true → l = numB (takeNum l).1 ++ (takeNum l).2.1 := fun h => takeNum_laid l (by simpa using h)
    have HNB := Lib.hid hnb
    have HNE := Lib.hid hne
    clear hnb hne
    go_enter Try.func7, Try.ntmps7
    go_wp2_with fail
    refine (law_shown _).mono ?_
    rintro e w1 ⟨rfl, hb1⟩
    go_wp2_with fail
    refine (octet_TakeNum _ _ (by omega)).mono ?_
    rintro e w2 ⟨rfl, hb2⟩
    have hlb := takeList_laid l most long
    have htb := takeText_laid l most
    have hlr : ((takeList l most long).2.2 = 0 → (listB (takeList l most long).1).length ≤ 5000 ∧ (takeList l most long).2.1.length ≤ 5000) := by
      intro h
      have := congrArg List.length (hlb h)
      rw [List.length_append] at this
      omega
    have htr := takeText_bd l most
    have HLB := Lib.hid hlb
    have HTB := Lib.hid htb
    have HLR := Lib.hid hlr
    have HTR := Lib.hid htr
    clear hlb htb hlr htr
    generalize takeNum l = x at *
    obtain ⟨n, r, e⟩ := x
    simp only at HNB HNE ⊢
    have s1 := hb1.size
    have hb12 := hb1.trans (hb2.mono s1)
    clear hb1 hb2 s1
    by_cases he : e = 0
    rotate_left
    have hb3 := hb12
    clear hb12
    go_wp2_with fail
    rotate_left
    subst he
    have hcat : numB n ++ r = l := (HNE.out rfl).symm
    have hn10 := numB_len10 n HNB.out.1
    have hrl : r.length ≤ 5000 := by have := HNB.out.2.1; omega
    go_wp2_with fail
    refine (octet_Num _ _ (by omega) (by have := HNB.out.1; omega)).mono ?_
    rintro e w2' ⟨rfl, hb2'⟩
    rw [Int.toNat_natCast]
    have s2 := hb12.size
    have hb3 := hb12.trans (hb2'.mono s2)
    clear hb12 hb2' s2
    go_wp2_with fail
    all_goals
      refine (octet_TakeList l most long _ (by omega) b10 b11 b20 b21).mono ?_
      rintro e w4 ⟨v4, rfl, hown4, hb4⟩
      have hb5 := hb3.trans (hb4.mono hb3.size)
      clear hb3 hb4
      by_cases hf : (takeList l most long).2.2 = 0
      rotate_left
      have HF := Lib.hid hf
      have hf1 : ((takeList l most long).2.2 == 0) = false := by simpa using hf
      clear hf
      go_wp2_with fail
      rotate_left
      have hlaid := (HLB.out hf).symm
      have hl5 := HLR.out hf
      have HF := Lib.hid hf
      clear hf
      have hsum := sum_le_listB (takeList l most long).1
      have hrow := Row.of_owns hown4
      clear hown4
      obtain ⟨hl51, hl52⟩ := hl5
      refine (octet_List _ _ _ hrow (by omega)).mono ?_
      rintro e w6 ⟨rfl, hb6⟩
      have hb7 := hb5.trans (hb6.mono hb5.size)
      clear hb5 hb6 hrow
      have hb5 := hb7
      clear hb7
      go_wp2_with fail
    all_goals
      refine (octet_TakeText l most _ (by omega) b10 b11).mono ?_
      rintro e w8 ⟨rfl, hb8⟩
      have hb9 := hb5.trans (hb8.mono hb5.size)
      clear hb5 hb8
      by_cases hg : (takeText l most).2.2 = 0
      rotate_left
      have hg1 : ((takeText l most).2.2 == 0) = false := by simpa using hg
      have hg2 : ((takeText l most).2.2 != 0) = true := by simpa using hg
      clear hg
      go_wp2_with fail
      go_ret
      exact ⟨rfl, hb9⟩
      have htl := HTB.out hg
      obtain ⟨htl1, htl2⟩ := htl
      have htl3 := htl1.symm
      have htr1 := HTR.out.1
      have htr2 := HTR.out.2.1
      have htb := textB_len (takeText l most).1 (by omega)
      clear htl1
      refine (octet_Text _ _ (by omega)).mono ?_
      rintro e w10 ⟨rfl, hb10⟩
      have hb11 := hb9.trans (hb10.mono hb9.size)
      clear hb9 hb10
      go_wp2_with fail
      go_ret
      exact ⟨by first | rfl | exact ret_bool (decide_eq_true htl2), hb11⟩

theorem own : ownKnob Try.prog.godebug = none := by kernel_rfl
theorem laidOut : laidOutB Try.prog = true := by kernel_rfl

set_option maxRecDepth 100000 in
theorem lifted (os : Os) (started : os.Started) (H : Type) (enc : TypeId × Value → H) :
    ReturnsInHanded {} Try.checked os 7 .any (Rows.octetOnlySpec.pre6 enc Try.prog Try.f7 Rows.octetOnlyRow.domain false) (Rows.octetOnlySpec.post enc Try.prog Try.f7 false true false false) := by
  refine returnsInHanded_of_change_sized (C := Try.checked) own started (by kernel_rfl) Try.func7
    (ChangeSpec.witness6 (enc := enc) (C := Try.checked) false ⟨#[], #[.string ByteArray.empty, .int .i64 0, .int .i64 0], []⟩ 8 (by kernel_rfl) (by kernel_rfl) (by kernel_rfl) (by kernel_rfl)) ?_
  intro W base args ds gs before hval0 hW hcnd hsz _
  have hval : ∀ (j : Nat) t v, Try.f7.params[j]? = some t → args[j]? = some v → Value.okWide Try.prog W .any base t v := hval0
  have hW' := hW
  have hlt := hW.lt
  obtain ⟨p, q, hA0, hV, rfl, hfz, hnd⟩ := hW
  have hA : DataW.TrodAll enc Try.prog W 0 (fun _ => true) true Try.f7.params.toList args.toList ds p := hA0
  rw [Try.params7] at hA hval
  obtain ⟨v0, vs0, d0, ds0, p0, q0, hargs, rfl, rfl, h0, r0⟩ := trodAll_cons hA
  obtain ⟨v1, vs1, d1, ds1, p1, q1, rfl, rfl, rfl, h1, r1⟩ := trodAll_cons r0
  obtain ⟨v2, vs2, d2, ds2, p2, q2, rfl, rfl, rfl, h2, r2⟩ := trodAll_cons r1
  obtain ⟨rfl, rfl, rfl⟩ := trodAll_nil r2
  obtain rfl : args = #[v0, v1, v2] := by cases args; simp_all
  obtain ⟨rfl, rfl⟩ := trodVars_none hV
  obtain ⟨s0, rfl, rfl, rfl, w0⟩ := open_string Try.underlying9 (hval 0 9 v0 rfl rfl) h0
  have z0 : s0.data.toList.length ≤ 140737488351232 := sized_string hsz (j := 0) (t := 9) (by rw [Try.params7]; rfl) rfl
  obtain ⟨a0, rfl⟩ : ∃ l : List UInt8, s0 = ⟨l.toArray⟩ := ⟨s0.data.toList, rfl⟩
  obtain ⟨a1, rfl, rfl, rfl, w1⟩ := open_int Try.underlying3 (hval 1 3 v1 rfl rfl) h1
  obtain ⟨a2, rfl, rfl, rfl, w2⟩ := open_int Try.underlying3 (hval 2 3 v2 rfl rfl) h2
  refine (walk a0 z0 a1 w1 a2 w2 W).mono fun e W' ⟨he, hg⟩ => ?_
  subst he
  exact ⟨_, rfl, Copyhold.law_post laidOut (by kernel_rfl) (by kernel_rfl) Try.underlying4 rfl rfl rfl rfl hW' hg⟩

theorem over : Rows.octetOnlyRow.holds Try.pinned (OpenSpec.ofChange Rows.octetOnlySpec) :=
  OpenClaim.holds_of_wide 7 Try.f7 rfl rfl rfl rfl rfl rfl rfl ⟨rfl, rfl, rfl, rfl, rfl⟩ rfl rfl rfl rfl rfl (by kernel_rfl) Try.func7 (by kernel_rfl)
    (of_decide_eq_true (by kernel_rfl)) (by unfold Func.isWrapper; first | (rw [if_pos (by decide +kernel)]; kernel_rfl) | (rw [if_neg (by decide +kernel)]; exact ⟨rfl, rfl⟩))
    (fun os started H enc _ => lifted os started H enc)

theorem proved : Rows.OctetOnlySaid :=
  over
end Go.Proofs.Ytibgedkaollniaa.octetOnly
