/- Proved: copyholdlaw01.OctetBack returns true for every number, row of texts, text and place, and leaves its argument as it was: what was laid is taken as it was, whatever stands behind it; no beginning of it is. Where the argument is of bulk at most 1048576. -/
import Derived.Test.YtibgedkaollniaaOctShown
import Derived.Test.YtibgedkaollniaaOctTakeList
import Derived.Test.YtibgedkaollniaaRef01Rows
import Derived.Test.YtibgedkaollniaaPure01d
import Derived.Test.YtibgedkaollniaaBulk
namespace Go.Proofs.Ytibgedkaollniaa.octetBack
open Go.ChangeShapes Go.WideShapes Go.ChangeAt Go.RowKit Copyhold
open Go.ChangeMaps (open_string shut_string)
set_option linter.unusedVariables false
attribute [local go_sem] piece

set_option maxRecDepth 100000 in
set_option maxHeartbeats 4000000 in
theorem walk (w : World) (n : Int) (w0 : (Lit.int .u64 n).wf = true) (v : Value) (ls : List (List UInt8)) (hv : Row w v (ls.map strV)) (z1 : (ls.map List.length).sum + ls.length ≤ 1048576) (more : List UInt8) (z2 : more.length ≤ 1048576) (cut : Int) (w3 : (Lit.int .i64 cut).wf = true) :
    Calls Try.prog 5 #[.agg #[.int .u64 n, v, .string ⟨more.toArray⟩, .int .i64 cut]] w fun e w' => e = .returned (.bool true) ∧ Below w.heap.size w w' := by
  have b0 : 0 ≤ n ∧ n ≤ 18446744073709551615 := by simpa [Lit.wf, IntKind.min, IntKind.max, IntKind.signed, IntKind.bits] using w0
  obtain ⟨b00, b01⟩ := b0
  have b2 : -9223372036854775808 ≤ cut ∧ cut ≤ 9223372036854775807 := by simpa [Lit.wf, IntKind.min, IntKind.max, IntKind.signed, IntKind.bits] using w3
  obtain ⟨b20, b21⟩ := b2
  clear w0 w3
  obtain ⟨a, c, rfl⟩ := hv.shape
  rw [List.length_map] at hv ⊢
  have HV := Lib.hid hv
  have HZ := Lib.hid z1
  have hlz : ls.length ≤ 1048576 := by omega
  have hlong : longN ls ≤ 1048576 := z1
  clear hv z1
  obtain ⟨W, hW⟩ : ∃ W, W = w.alloc (.cells #[.int .u64 n, .slice a ls.length c, .string ⟨more.toArray⟩, .int .i64 cut] 48) := ⟨_, rfl⟩
  have hbW : Below w.heap.size w W := by rw [hW]; exact (Below.refl _ _).alloc (Nat.le_refl _) _
  have HW := Lib.hid hW
  clear hW
  rcases (show 5000 < longN ls ∨ longN ls ≤ 5000 ∧ 1000 < more.length ∨ longN ls ≤ 5000 ∧ more.length ≤ 1000 from by omega) with h5 | ⟨h5, h6⟩ | ⟨h5, h6⟩
  · go_enter Try.func5, Try.ntmps5
    go_wp2_with fail
    rw [← HW.out]
    refine (law_shown _).mono ?_
    rintro e w1 ⟨rfl, hb1⟩
    have hb1 := hbW.trans (hb1.mono hbW.size)
    go_wp2_with fail
    refine (ref_Long _ ls _ (HV.out.below hb1) (by have := HZ.out; omega)).mono ?_
    rintro e w2 ⟨rfl, rfl⟩
    go_wp2_with fail
    go_ret
    exact ⟨rfl, hb1⟩
  · go_enter Try.func5, Try.ntmps5
    go_wp2_with fail
    rw [← HW.out]
    refine (law_shown _).mono ?_
    rintro e w1 ⟨rfl, hb1⟩
    have hb1 := hbW.trans (hb1.mono hbW.size)
    go_wp2_with fail
    refine (ref_Long _ ls _ (HV.out.below hb1) (by have := HZ.out; omega)).mono ?_
    rintro e w2 ⟨rfl, rfl⟩
    go_wp2_with fail
    go_ret
    exact ⟨rfl, hb1⟩
  · have hsum : (ls.map List.length).sum + ls.length ≤ 5000 := h5
    have hfl := flat_len ls (by omega)
    have hfl2 : (listB ls).length ≤ 60000 := by omega
    have hll : ls.length ≤ 5000 := by omega
    have hn10 := numB_len10 n.toNat (by omega)
    have heach : ∀ t ∈ ls, (t.length : Int) ≤ 5000 ∧ t.length < 18446744073709551616 := fun t ht => by
      have := len_le_sum ht
      omega
    have t1 : takeNum (numB n.toNat ++ (listB ls ++ more)) = (n.toNat, listB ls ++ more, 0) := takeNum_numB _ _ (by omega)
    have t2 : takeList (listB ls ++ more) (ls.length : Int) 5000 = (ls, more, 0) := by
      rw [takeList_listB ls _ _ _ (by omega) (by omega) heach, if_neg (by omega)]
    have T1 := Lib.hid t1
    have T2 := Lib.hid t2
    have HE := Lib.hid heach
    have HS := Lib.hid hsum
    clear t1 t2 heach hsum hfl h5 hlong
    go_enter Try.func5, Try.ntmps5
    go_wp2_with fail
    rw [← HW.out]
    refine (law_shown _).mono ?_
    rintro e w1 ⟨rfl, hb1⟩
    have hb1 := hbW.trans (hb1.mono hbW.size)
    have hlong : longN ls ≤ 5000 := HS.out
    go_wp2_with fail
    refine (ref_Long _ ls _ (HV.out.below hb1) (by have := HZ.out; omega)).mono ?_
    rintro e w2 ⟨rfl, rfl⟩
    go_wp2_with fail
    refine (octet_Num n _ b00 b01).mono ?_
    rintro e w3 ⟨rfl, hb3⟩
    have hb3 := hb1.trans (hb3.mono hb1.size)
    go_wp2_with fail
    refine (octet_List _ ls _ (HV.out.below hb3) (by have := HS.out; omega)).mono ?_
    rintro e w4 ⟨rfl, hb4⟩
    have hb4 := hb3.trans (hb4.mono hb3.size)
    clear hb1 hb3 hbW
    go_wp2_with fail
    refine (octet_TakeNum _ _ (by simp only [List.length_append]; omega)).mono ?_
    rintro e w5 ⟨rfl, hb5⟩
    have hb5 := hb4.trans (hb5.mono hb4.size)
    first | rw [T1.out] | rw [List.append_assoc, T1.out]
    simp only
    rw [Int.toNat_of_nonneg b00]
    go_wp2_with fail
    refine (octet_TakeList _ _ _ _ (by simp only [List.length_append]; omega) (by omega) (by omega) (by omega) (by omega)).mono ?_
    rintro e w6 ⟨v6, rfl, hown6, hb6⟩
    have hb6 := hb5.trans (hb6.mono hb5.size)
    rw [T2.out] at hown6 ⊢
    simp only at hown6 ⊢
    have HR6 := Lib.hid (Row.of_owns hown6)
    clear hown6 hb4 hb5
    have hsame : sameTexts ls ls = true := by simp [sameTexts]
    go_wp2_with fail
    refine (ref_Strings _ _ _ _ _ HR6.out (HV.out.below hb6) (by omega) (by omega)).mono ?_
    rintro e w7 ⟨rfl, hb7⟩
    have hb7 := hb6.trans (hb7.mono hb6.size)
    rw [hsame]
    clear hsame HR6 hb6
    go_wp2_with fail
    refine (octet_List _ ls _ (HV.out.below hb7) (by have := HS.out; omega)).mono ?_
    rintro e w8 ⟨rfl, hb8⟩
    have hb8 := hb7.trans (hb8.mono hb7.size)
    clear hb7
    rcases (show cut < 0 ∨ 0 ≤ cut ∧ ((listB ls).length : Int) ≤ cut ∨ 0 ≤ cut ∧ cut < ((listB ls).length : Int) from by omega) with hc | ⟨hc, hc'⟩ | ⟨hc, hc'⟩
    · go_wp2_with fail
      go_ret
      exact ⟨rfl, hb8⟩
    · go_wp2_with fail
      go_ret
      exact ⟨rfl, hb8⟩
    · obtain ⟨k, rfl⟩ := Int.eq_ofNat_of_zero_le hc
      have t3 : takeList ((listB ls).take k) (ls.length : Int) 5000 = ([], [], 2) := takeList_cut ls _ _ k (by omega) (by omega) (by omega) HE.out (by omega)
      have T3 := Lib.hid t3
      clear t3
      have hk : k ≤ (listB ls).length := by omega
      go_wp2_with fail
      refine (octet_TakeList _ _ _ _ (by simp only [List.length_take]; omega) (by omega) (by omega) (by omega) (by omega)).mono ?_
      rintro e w9 ⟨v9, rfl, _, hb9⟩
      have hb9 := hb8.trans (hb9.mono hb8.size)
      rw [T3.out]
      simp only
      go_wp2_with fail
      go_ret
      exact ⟨rfl, hb9⟩

theorem own : ownKnob Try.prog.godebug = none := by kernel_rfl
theorem laidOut : laidOutB Try.prog = true := by kernel_rfl

set_option maxRecDepth 100000 in
theorem lifted (os : Os) (started : os.Started) (H : Type) (enc : TypeId × Value → H) (F : Stop.Interp) :
    ReturnsInHanded {} Try.checked os 5 .any ((Rows.OpenSpec.upto Rows.octetBackSpec).pre6 enc Try.prog Try.f5 Rows.octetBackUptoRow.domain false) (((Rows.OpenSpec.upto Rows.octetBackSpec).at F).post enc Try.prog Try.f5 false true false false) := by
  refine returnsInHanded_of_cond (C := Try.checked) (s := Rows.OpenSpec.upto Rows.octetBackSpec) (k := Rows.uptoSmall) rfl own started (by kernel_rfl) Try.func5
    (OpenSpec.witness (enc := enc) (C := Try.checked) (s := Rows.OpenSpec.upto Rows.octetBackSpec) (k := Rows.uptoSmall) rfl false ⟨#[], #[.agg #[.int .u64 0, .slice none 0 0, .string ByteArray.empty, .int .i64 0]], []⟩ 8 (by kernel_rfl) (by kernel_rfl) (by kernel_rfl)
      (x := ([.agg [.lit (.int .u64 0), .nil, .lit (.string []), .lit (.int .i64 0)]], [], [])) (by kernel_rfl) rfl (by kernel_rfl)) ?_
  intro W base args ds gs before hval0 hW hcnd hk _
  have hval : ∀ (j : Nat) t v, Try.f5.params[j]? = some t → args[j]? = some v → Value.okWide Try.prog W .any base t v := hval0
  have hW' := hW
  have hlt := hW.lt
  obtain ⟨p, q, hA0, hV, rfl, hfz, hnd⟩ := hW
  have hA : DataW.TrodAll enc Try.prog W 0 (fun _ => true) true Try.f5.params.toList args.toList ds p := hA0
  rw [Try.params5] at hA hval
  obtain ⟨v0, vs0, d0, ds0, p0, q0, hargs, rfl, rfl, h0, r0⟩ := trodAll_cons hA
  obtain ⟨rfl, rfl, rfl⟩ := trodAll_nil r0
  obtain rfl : args = #[v0] := by cases args; simp_all
  obtain ⟨rfl, rfl⟩ := trodVars_none hV
  obtain ⟨c0_0, c0_1, c0_2, c0_3, y0_0, y0_1, y0_2, y0_3, m0, rfl, rfl, hp0, g0_0, g0_1, g0_2, g0_3⟩ := Go.Joins.open_agg4 Try.underlying48 (by kernel_rfl) (by kernel_rfl) (hval 0 48 v0 rfl rfl) h0
  subst hp0
  have hk0 := bulk_le hk (d := .agg [y0_0.1, y0_1.1, y0_2.1, y0_3.1]) (by simp)
  obtain ⟨a0_0, ev0_0, ey0_0, w0_0⟩ := DataW.trod_int Try.underlying22 g0_0
  obtain rfl : c0_0 = _ := by simpa using ev0_0
  subst ey0_0
  obtain ⟨u0_1, a0_1, ev0_1, w0_1, e0_1⟩ := open_texts_at Try.underlying23 Try.underlying9 (by kernel_rfl) g0_1 (fun x hx => hlt x (by simp [hx]))
  obtain rfl : c0_1 = _ := by simpa using ev0_1
  have z0_1 := bulk_texts e0_1 (bulk_agg hk0 (by simp))
  obtain ⟨s0_2, ev0_2, ey0_2, w0_2⟩ := DataW.trod_string Try.underlying9 g0_2
  obtain rfl : c0_2 = _ := by simpa using ev0_2
  subst ey0_2
  have z0_2 : s0_2.data.toList.length ≤ 1048576 := bulk_string (bulk_agg hk0 (d := .lit (.string s0_2.data.toList)) (by simp))
  obtain ⟨a0_2, rfl⟩ : ∃ l : List UInt8, s0_2 = ⟨l.toArray⟩ := ⟨s0_2.data.toList, rfl⟩
  obtain ⟨a0_3, ev0_3, ey0_3, w0_3⟩ := DataW.trod_int Try.underlying3 g0_3
  obtain rfl : c0_3 = _ := by simpa using ev0_3
  subst ey0_3
  refine (walk W a0_0 w0_0 c0_1 a0_1 w0_1 z0_1 a0_2 z0_2 a0_3 w0_3).mono fun e W' ⟨he, hg⟩ => ?_
  subst he
  exact ⟨_, rfl, Copyhold.law_post laidOut (by kernel_rfl) (by kernel_rfl) Try.underlying4 rfl rfl rfl rfl hW' hg⟩

theorem over : Rows.octetBackUptoRow.holds Try.pinned (Rows.OpenSpec.upto Rows.octetBackSpec) :=
  OpenClaim.holds_of_cond 5 Try.f5 rfl rfl rfl rfl rfl rfl rfl ⟨rfl, rfl, rfl, rfl, rfl⟩ rfl rfl rfl rfl rfl (by kernel_rfl) Try.func5 (by kernel_rfl)
    (of_decide_eq_true (by kernel_rfl)) (by unfold Func.isWrapper; first | (rw [if_pos (by decide +kernel)]; kernel_rfl) | (rw [if_neg (by decide +kernel)]; exact ⟨rfl, rfl⟩))
    (fun os started H enc _ F => lifted os started H enc F)

theorem proved : Rows.OctetBackUptoSaid :=
  over
end Go.Proofs.Ytibgedkaollniaa.octetBack
