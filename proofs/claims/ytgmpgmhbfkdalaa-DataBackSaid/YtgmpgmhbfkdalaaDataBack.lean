/- Proved: copyholdlaw09.DataBack returns true for every text, number and text, and leaves its arguments as they were: what was written is read; ahead and behind all is as it was. No condition beyond the form's own reach. -/
import Derived.Test.YtgmpgmhbfkdalaaDataSplit
import Derived.Test.YtgmpgmhbfkdalaaLaw
import Derived.BigRegion
namespace Go.Proofs.Ytgmpgmhbfkdalaa.dataBack
open Go.ChangeShapes Go.WideShapes Go.ChangeAt Go.RowKit Copyhold
open Go.ChangeMaps (open_string shut_string)
set_option linter.unusedVariables false
attribute [local go_sem] piece

theorem putD_read (l t : List UInt8) (a : Nat) : ((putD l a t).drop a).take t.length = t := by
  apply List.ext_getElem?
  intro i
  rw [List.getElem?_take]
  by_cases h : i < t.length
  · rw [if_pos h, List.getElem?_drop, dataSplit.get_putD, if_pos (by omega), if_pos (by omega), show a + i - a = i from by omega]
    simp [List.getD, h]
  · rw [if_neg h, List.getElem?_eq_none (by omega)]

theorem putD_ahead (l t : List UInt8) (a : Nat) (ht : t ≠ []) : ∃ d, (putD l a t).take a = l.take a ++ List.replicate d 0 ∧ (l.take a).length + d = a := by
  refine ⟨a - (l.take a).length, ?_, by have := List.length_take_le a l; omega⟩
  apply List.ext_getElem?
  intro i
  rw [List.getElem?_take, List.getElem?_append, List.length_take]
  by_cases h : i < a
  · rw [if_pos h, dataSplit.get_putD, if_pos (by have := List.length_pos_iff.2 ht; omega), if_neg (by omega)]
    by_cases h2 : i < l.length
    · rw [if_pos (by omega), List.getElem?_take, if_pos h]
      simp [List.getD, h2]
    · rw [if_neg (by omega), List.getElem?_replicate, if_pos (by omega)]
      simp [List.getD, h2]
  · rw [if_neg h, if_neg (by omega), List.getElem?_replicate, if_neg (by omega)]

theorem putD_behind (l t : List UInt8) (a : Nat) : (putD l a t).drop (a + t.length) = l.drop (a + t.length) := by
  apply List.ext_getElem?
  intro i
  rw [List.getElem?_drop, List.getElem?_drop, dataSplit.get_putD]
  by_cases h : a + t.length + i < l.length
  · rw [if_pos (by omega), if_neg (by omega)]
    simp [List.getD, h]
  · rw [if_neg (by omega), List.getElem?_eq_none (by omega)]

/-- what the law asks, in one -/
theorem facts (s t : List UInt8) (n : Int) (hr : refusedD n t.length = 0) (ht : t ≠ []) (hs : s.length ≤ 4096) :
    ∃ k b d e, writeD s n t = (k, 0) ∧ k.length ≤ 4096 ∧ readD k n t.length = (t, 0) ∧ readD k 0 n = (b ++ List.replicate d 0, 0) ∧ readD s 0 n = (b, 0) ∧ ((b.length : Int) + d = n) ∧
      readD k (n + t.length) 5000 = (e, 0) ∧ readD s (n + t.length) 5000 = (e, 0) := by
  have h0 := refusedD_zero hr
  obtain ⟨n, rfl⟩ := Int.eq_ofNat_of_zero_le h0.1
  obtain ⟨d, hd, hd2⟩ := putD_ahead s t n ht
  have rd : ∀ (l : List UInt8) (a b : Nat), a ≤ 5000 → b ≤ 5000 → readD l a b = ((l.drop a).take b, 0) := dataSplit.readD_ok
  refine ⟨putD s n t, s.take n, d, (s.drop (n + t.length)).take 5000, ?_, ?_, ?_, ?_, ?_, by omega, ?_, ?_⟩
  · rw [dataSplit.writeD_ok s n t (by omega), if_neg ht]
  · rw [putD_length]; omega
  · rw [rd _ _ _ (by omega) (by omega), putD_read]
  · rw [← hd]
    have := rd (putD s n t) 0 n (by omega) (by omega)
    simpa using this
  · have := rd s 0 n (by omega) (by omega)
    simpa using this
  · have := rd (putD s n t) (n + t.length) 5000 (by omega) (by omega)
    rw [putD_behind] at this
    exact this
  · exact rd s (n + t.length) 5000 (by omega) (by omega)

set_option maxHeartbeats 4000000 in
theorem walk (w : World) (s : List UInt8) (z0 : s.length ≤ 140737488351232) (n : Int) (w1 : (Lit.int .i64 n).wf = true) (t : List UInt8) (z2 : t.length ≤ 140737488351232) :
    Calls Try.prog 5 #[.string ⟨s.toArray⟩, .int .i64 n, .string ⟨t.toArray⟩] w fun e w' => e = .returned (.bool true) ∧ Below w.heap.size w w' := by
  have b1 : -9223372036854775808 ≤ n ∧ n ≤ 9223372036854775807 := by simpa [Lit.wf, IntKind.min, IntKind.max, IntKind.signed, IntKind.bits] using w1
  obtain ⟨b10, b11⟩ := b1
  clear w1
  rcases (show 4096 < s.length ∨ s.length ≤ 4096 ∧ 4096 < t.length ∨ s.length ≤ 4096 ∧ t.length ≤ 4096 from by omega) with h | ⟨h, h'⟩ | ⟨h, h'⟩
  case inr.inr =>
    by_cases hr : refusedD n t.length = 0
    · by_cases ht : t = []
      · subst ht
        have hk : writeD s n [] = (s, 0) := by unfold writeD; rw [if_pos hr, if_pos rfl]
        have HK := Lib.hid hk
        clear hk hr
        go_enter Try.func5, Try.ntmps5
        go_wp2_with fail
        refine (law_shown _).mono ?_
        rintro e w1 ⟨rfl, hb1⟩
        go_wp2_with fail
        refine (data_Write s n [] _ (by omega) (by decide) (by omega) (by omega)).mono ?_
        rintro e w2 ⟨rfl, hb2⟩
        have hb2 := hb1.trans (hb2.mono hb1.size)
        clear hb1
        rw [HK.out]
        go_wp2_with fail
        go_ret
        exact ⟨rfl, hb2⟩
      · obtain ⟨k, b, d, c, hk, hkl, hx, ha, hb, hd, hc, hc'⟩ := facts s t n hr ht h
        have h0 := refusedD_zero hr
        obtain ⟨h01, h02, h03⟩ := h0
        have hmk := fun W : World => run_make_bytes W d (by omega)
        have hcv := fun W : World => run_bytes_back (w := (W.alloc (.cells (Lib.byteCells (List.replicate d 0)).toArray 5)).drew) (g := W.heap.size) (l := List.replicate d 0) (heap_alloc_new W _)
        have hrl : (List.replicate d (0 : UInt8)).length = d := List.length_replicate
        rw [List.length_replicate] at hcv
        generalize hR : List.replicate d (0 : UInt8) = R at *
        obtain ⟨A, hA⟩ : ∃ A, A = b ++ R := ⟨_, rfl⟩
        rw [← hA] at ha
        have hAt : A.take b.length = b := by rw [hA]; simp
        have hAd : A.drop b.length = R := by rw [hA]; simp
        have hAl : (A.length : Int) = n := by rw [hA, List.length_append]; omega
        have hAn : ((A.length : Int) == n) = true := by rw [beq_iff_eq]; exact hAl
        have hAle : b.length ≤ A.length := by omega
        have hAle' : (b.length : Int) ≤ (A.length : Int) := by omega
        have hbl0 : (0 : Int) ≤ (b.length : Int) := by omega
        have hbn : (b.length : Int) ≤ n := by omega
        have hAn2 : ((A.length : Int) != n) = false := by rw [bne, hAn]; rfl
        have hbn2 : ¬ n < (b.length : Int) := by omega
        have hbn3 : decide (n < (b.length : Int)) = false := decide_eq_false hbn2
        have hie : t.isEmpty = false := by simpa using ht
        have e1 : IntKind.i64.wrap (n - b.length) = d := by rw [show n - b.length = d from by omega]; exact IntWalk.i64_in _ (by omega)
        have HK := Lib.hid hk
        have HKL := Lib.hid hkl
        have HX := Lib.hid hx
        have HA := Lib.hid ha
        have HB := Lib.hid hb
        have HC := Lib.hid hc
        have HC' := Lib.hid hc'
        clear hk hkl hx ha hb hc hc' hr hR hA hAl hd hrl z0 z2 ht
        go_enter Try.func5, Try.ntmps5
        go_wp2_with fail
        refine (law_shown _).mono ?_
        rintro e w1 ⟨rfl, hb1⟩
        go_wp2_with fail
        refine (data_Write s n t _ (by omega) (by omega) (by omega) (by omega)).mono ?_
        rintro e w2 ⟨rfl, hb2⟩
        have hb2 := hb1.trans (hb2.mono hb1.size)
        clear hb1
        rw [HK.out]
        go_wp2_with fail
        refine (data_Read k n t.length _ (by have := HKL.out; omega) (by omega) (by omega) (by omega) (by omega)).mono ?_
        rintro e w3 ⟨rfl, rfl⟩
        rw [HX.out]
        go_wp2_with fail
        refine (data_Read k 0 n _ (by have := HKL.out; omega) (by omega) (by omega) (by omega) (by omega)).mono ?_
        rintro e w3 ⟨rfl, rfl⟩
        rw [HA.out]
        go_wp2_with fail
        refine (data_Read s 0 n _ (by omega) (by omega) (by omega) (by omega) (by omega)).mono ?_
        rintro e w3 ⟨rfl, rfl⟩
        rw [HB.out]
        go_wp2_with fail
        have hcall := data_Read k (n + (t.length : Int)) 5000 w2 (by have := HKL.out; omega) (by omega) (by omega) (by decide) (by decide)
        refine hcall.mono fun e w3 he => ?_
        clear hcall
        obtain ⟨rfl, rfl⟩ := he
        rw [HC.out]
        go_wp2_with fail
        have hcall := data_Read s (n + (t.length : Int)) 5000 w2 (by omega) (by omega) (by omega) (by decide) (by decide)
        refine hcall.mono fun e w3 he => ?_
        clear hcall
        obtain ⟨rfl, rfl⟩ := he
        rw [HC'.out]
        go_wp2_with fail
        go_big_region
        all_goals
          go_wp2_with fail
          go_ret
          exact ⟨rfl, (hb2.alloc hb2.size _).drew⟩
    · have hk : writeD s n t = (s, refusedD n t.length) := if_neg hr
      generalize refusedD n t.length = z at hr hk
      have hq : (z == 0) = false := by simpa using hr
      have hq2 : (z != 0) = true := by simpa using hr
      have HK := Lib.hid hk
      clear hk hr
      go_enter Try.func5, Try.ntmps5
      go_wp2_with fail
      refine (law_shown _).mono ?_
      rintro e w1 ⟨rfl, hb1⟩
      go_wp2_with fail
      refine (data_Write s n t _ (by omega) (by omega) (by omega) (by omega)).mono ?_
      rintro e w2 ⟨rfl, hb2⟩
      have hb2 := hb1.trans (hb2.mono hb1.size)
      clear hb1
      rw [HK.out]
      go_wp2_with fail
      go_ret
      exact ⟨rfl, hb2⟩
  all_goals
    go_enter Try.func5, Try.ntmps5
    go_wp2_with fail
    refine (law_shown _).mono ?_
    rintro e w1 ⟨rfl, hb1⟩
    go_wp2_with fail
    go_ret
    exact ⟨rfl, hb1⟩

theorem own : ownKnob Try.prog.godebug = none := by kernel_rfl
theorem laidOut : laidOutB Try.prog = true := by kernel_rfl

set_option maxRecDepth 100000 in
set_option maxHeartbeats 1000000 in
theorem lifted (os : Os) (started : os.Started) (H : Type) (enc : TypeId × Value → H) :
    ReturnsInHanded {} Try.checked os 5 .any (Rows.dataBackSpec.pre6 enc Try.prog Try.f5 Rows.dataBackRow.domain false) (Rows.dataBackSpec.post enc Try.prog Try.f5 false true false false) := by
  refine returnsInHanded_of_change_sized (C := Try.checked) own started (by kernel_rfl) Try.func5
    (ChangeSpec.witness6 (enc := enc) (C := Try.checked) false ⟨#[], #[.string ByteArray.empty, .int .i64 0, .string ByteArray.empty], []⟩ 8 (by kernel_rfl) (by kernel_rfl) (by kernel_rfl) (by kernel_rfl)) ?_
  intro W base args ds gs before hval0 hW hcnd hsz0 _
  have hsz : (DataW.weightsEach Try.prog (Try.f5.params.toList ++ []) (ds ++ gs)).all (· ≤ reachBytes) = true := hsz0
  clear hsz0
  have hval : ∀ (j : Nat) t v, Try.f5.params[j]? = some t → args[j]? = some v → Value.okWide Try.prog W .any base t v := hval0
  have hW' := hW
  have hlt := hW.lt
  obtain ⟨p, q, hA0, hV, rfl, hfz, hnd⟩ := hW
  have hA : DataW.TrodAll enc Try.prog W 0 (fun _ => true) true Try.f5.params.toList args.toList ds p := hA0
  rw [Try.params5] at hA hval
  obtain ⟨v0, vs0, d0, ds0, p0, q0, hargs, rfl, rfl, h0, r0⟩ := trodAll_cons hA
  obtain ⟨v1, vs1, d1, ds1, p1, q1, rfl, rfl, rfl, h1, r1⟩ := trodAll_cons r0
  obtain ⟨v2, vs2, d2, ds2, p2, q2, rfl, rfl, rfl, h2, r2⟩ := trodAll_cons r1
  obtain ⟨rfl, rfl, rfl⟩ := trodAll_nil r2
  obtain rfl : args = #[v0, v1, v2] := by cases args; simp_all
  obtain ⟨rfl, rfl⟩ := trodVars_none hV
  obtain ⟨s0, rfl, rfl, rfl, w0⟩ := open_string Try.underlying9 (hval 0 9 v0 rfl rfl) h0
  have z0 : s0.data.toList.length ≤ 140737488351232 := sized_string hsz (j := 0) (t := 9) (by rw [Try.params5]; rfl) rfl
  obtain ⟨a0, rfl⟩ : ∃ l : List UInt8, s0 = ⟨l.toArray⟩ := ⟨s0.data.toList, rfl⟩
  obtain ⟨a1, rfl, rfl, rfl, w1⟩ := open_int Try.underlying3 (hval 1 3 v1 rfl rfl) h1
  obtain ⟨s2, rfl, rfl, rfl, w2⟩ := open_string Try.underlying9 (hval 2 9 v2 rfl rfl) h2
  have z2 : s2.data.toList.length ≤ 140737488351232 := sized_string hsz (j := 2) (t := 9) (by rw [Try.params5]; rfl) rfl
  obtain ⟨a2, rfl⟩ : ∃ l : List UInt8, s2 = ⟨l.toArray⟩ := ⟨s2.data.toList, rfl⟩
  refine (walk W a0 z0 a1 w1 a2 z2).mono fun e W' ⟨he, hg⟩ => ?_
  subst he
  exact ⟨_, rfl, Copyhold.law_post laidOut (by kernel_rfl) (by kernel_rfl) Try.underlying4 rfl rfl rfl rfl hW' hg⟩

theorem over : Rows.dataBackRow.holds Try.pinned (OpenSpec.ofChange Rows.dataBackSpec) :=
  OpenClaim.holds_of_wide 5 Try.f5 rfl rfl rfl rfl rfl rfl rfl ⟨rfl, rfl, rfl, rfl, rfl⟩ rfl rfl rfl rfl rfl (by kernel_rfl) Try.func5 (by kernel_rfl)
    (of_decide_eq_true (by kernel_rfl)) (by unfold Func.isWrapper; first | (rw [if_pos (by decide +kernel)]; kernel_rfl) | (rw [if_neg (by decide +kernel)]; exact ⟨rfl, rfl⟩))
    (fun os started H enc _ => lifted os started H enc)

theorem proved : Rows.DataBackSaid :=
  over
end Go.Proofs.Ytgmpgmhbfkdalaa.dataBack
