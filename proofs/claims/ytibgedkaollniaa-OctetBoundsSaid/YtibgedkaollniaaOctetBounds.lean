/- Proved: copyholdlaw01.OctetBounds returns true for every text, number and row of texts, and leaves its arguments as they were: a text, or a list, that is greater than may be is refused as that, whatever stands behind. No condition beyond the form's own reach. -/
import Derived.Test.YtibgedkaollniaaOctShown
import Derived.Test.YtibgedkaollniaaOctTakeList
import Derived.Test.YtibgedkaollniaaPure01b
import Derived.Test.YtibgedkaollniaaLaw
namespace Go.Proofs.Ytibgedkaollniaa.octetBounds
open Go.ChangeShapes Go.WideShapes Go.ChangeAt Go.RowKit Copyhold
open Go.ChangeMaps (open_string shut_string)
set_option linter.unusedVariables false

theorem sum_take (ls : List (List UInt8)) (k : Nat) (h : k < ls.length) : ((ls.take (k + 1)).map List.length).sum = ((ls.take k).map List.length).sum + ls[k].length := by
  rw [List.take_succ_eq_append_getElem h, List.map_append, List.sum_append]; simp

set_option maxHeartbeats 4000000 in
theorem walk (w : World) (s : List UInt8) (z0 : s.length ≤ 140737488351232) (most : Int) (w1 : (Lit.int .i64 most).wf = true) (v : Value) (ls : List (List UInt8)) (hv : Row w v (ls.map strV)) (z2 : ∀ l ∈ ls, l.length ≤ 140737488351232) :
    Calls Try.prog 9 #[.string ⟨s.toArray⟩, .int .i64 most, v] w fun e w' => e = .returned (.bool true) ∧ Below w.heap.size w w' := by
  have b1 : -9223372036854775808 ≤ most ∧ most ≤ 9223372036854775807 := by simpa [Lit.wf, IntKind.min, IntKind.max, IntKind.signed, IntKind.bits] using w1
  obtain ⟨b10, b11⟩ := b1
  clear w1
  obtain ⟨a, c, rfl⟩ := hv.shape
  rw [List.length_map] at hv ⊢
  have HV := Lib.hid hv
  have HZ := Lib.hid z2
  clear hv z2
  rcases (show 3000 < s.length ∨ s.length ≤ 3000 ∧ 300 < ls.length ∨ s.length ≤ 3000 ∧ ls.length ≤ 300 from by omega) with h1 | ⟨h1, h2⟩ | ⟨h1, h2⟩
  · go_enter Try.func9, Try.ntmps9
    go_wp2_with fail
    refine (law_shown _).mono ?_
    rintro e w1 ⟨rfl, hb1⟩
    go_wp2_with fail
    go_ret
    exact ⟨rfl, hb1⟩
  · go_enter Try.func9, Try.ntmps9
    go_wp2_with fail
    refine (law_shown _).mono ?_
    rintro e w1 ⟨rfl, hb1⟩
    go_wp2_with fail
    go_ret
    exact ⟨rfl, hb1⟩
  · have htl := textB_len s (by omega)
    have ht : takeText (textB s) most = if most < 0 ∨ most < (s.length : Int) then ([], [], 5) else (s, [], 0) := by
      have := takeText_textB s most [] (by omega)
      rwa [List.append_nil] at this
    have HT := Lib.hid ht
    clear ht
    go_enter Try.func9, Try.ntmps9
    go_wp2_with fail
    refine (law_shown _).mono ?_
    rintro e w1 ⟨rfl, hb1⟩
    go_wp2_with fail
    refine (octet_Text s _ (by omega)).mono ?_
    rintro e w2 ⟨rfl, hb2⟩
    have hb12 := hb1.trans (hb2.mono hb1.size)
    clear hb1 hb2
    go_wp2_with fail
    refine (octet_TakeText _ _ _ (by omega) b10 b11).mono ?_
    rintro e w3 ⟨rfl, hb3⟩
    have hb13 := hb12.trans (hb3.mono hb12.size)
    clear hb12 hb3
    generalize takeText (textB s) most = x at *
    obtain ⟨x1, x2, x3⟩ := x
    simp only at HT ⊢
    go_wp2_with fail
    go_loop [11, 12] (fun n i => ∃ k m : Nat, k ≤ ls.length ∧ m = ((ls.take k).map List.length).sum ∧ m ≤ k * 140737488351232 ∧ i = .int .i64 k ∧ n = .int .i64 m) (fun _ i => ls.length - (intOf i).toNat)
    case atStart => exact ⟨0, 0, Nat.zero_le _, by simp, by simp, rfl, rfl⟩
    case round =>
      obtain ⟨k, m, hk, hm, hmb, rfl, rfl⟩ := hrel
      have HM := Lib.hid hm
      clear hm
      by_cases hlt : k < ls.length
      · obtain ⟨b, off, rfl, hbk, _, hcs⟩ := HV.out.at k (x := strV ls[k]) (by simp [hlt])
        have hc : w3.cell? ⟨b, off + k, none⟩ = some (.string ⟨(ls[k]).toArray⟩) := (hb13.cell (p := ⟨b, off + k, none⟩) hbk).trans (hcs k (strV ls[k]) (by simp [hlt]))
        have hyl := HZ.out ls[k] (List.getElem_mem hlt)
        have HS := Lib.hid (sum_take ls k hlt)
        clear hcs
        generalize ls[k] = y at *
        go_wp2_with fail
        go_round
        case rel => exact ⟨k + 1, m + y.length, by omega, by rw [HS.out, HM.out], by omega, by go_num, by go_num⟩
        case measure => simp [intOf]; omega
      · have hfin : m = (ls.map List.length).sum := by
          rw [HM.out, List.take_of_length_le (by omega)]
        have HF := Lib.hid hfin
        clear hfin
        by_cases h3 : 3000 < m
        · go_wp2_with fail
          go_ret
          exact ⟨rfl, hb13⟩
        · have hl : takeList (listB ls) most 3000 = if most < 0 ∨ most < (ls.length : Int) then ([], [], 5) else (ls, [], 0) := by
            have := takeList_listB ls most 3000 [] (by omega) (by omega) (fun t ht => by
              have h := len_le_sum ht
              rw [← HF.out] at h
              omega)
            rwa [List.append_nil] at this
          have HL := Lib.hid hl
          have hsum : (ls.map List.length).sum + ls.length ≤ 3300 := by rw [← HF.out]; omega
          have hfl := flat_len ls (by omega)
          have HS := Lib.hid hsum
          have hfl2 : (listB ls).length ≤ 7000 := by omega
          clear hl hsum hfl
          go_wp2_with fail
          refine (octet_List _ ls _ (HV.out.below hb13) (by have := HS.out; omega)).mono ?_
          rintro e w4 ⟨rfl, hb4⟩
          have hb14 := hb13.trans (hb4.mono hb13.size)
          clear hb13 hb4
          go_wp2_with fail
          refine (octet_TakeList _ _ _ _ (by omega) b10 b11 (by omega) (by omega)).mono ?_
          rintro e w5 ⟨v5, rfl, _, hb5⟩
          have hb15 := hb14.trans (hb5.mono hb14.size)
          clear hb14 hb5
          generalize takeList (listB ls) most 3000 = x at *
          obtain ⟨y1, y2, y3⟩ := x
          simp only at HL ⊢
          have hx : x3 = if most < 0 ∨ most < (s.length : Int) then 5 else 0 := by
            have h := congrArg (fun x => x.2.2) HT.out
            simp only at h
            rw [h]; split <;> rfl
          have hy : y3 = if most < 0 ∨ most < (ls.length : Int) then 5 else 0 := by
            have h := congrArg (fun x => x.2.2) HL.out
            simp only at h
            rw [h]; split <;> rfl
          rcases (show most < 0 ∧ x3 = 5 ∧ y3 = 5 ∨ 0 ≤ most ∧ most < (s.length : Int) ∧ x3 = 5 ∧ most < (ls.length : Int) ∧ y3 = 5 ∨ 0 ≤ most ∧ most < (s.length : Int) ∧ x3 = 5 ∧ (ls.length : Int) ≤ most ∧ y3 = 0
              ∨ 0 ≤ most ∧ (s.length : Int) ≤ most ∧ x3 = 0 ∧ most < (ls.length : Int) ∧ y3 = 5 ∨ 0 ≤ most ∧ (s.length : Int) ≤ most ∧ x3 = 0 ∧ (ls.length : Int) ≤ most ∧ y3 = 0 from by
            rw [hx, hy]
            split <;> split <;> omega) with ⟨q1, rfl, rfl⟩ | ⟨q1, q2, rfl, q3, rfl⟩ | ⟨q1, q2, rfl, q3, rfl⟩ | ⟨q1, q2, rfl, q3, rfl⟩ | ⟨q1, q2, rfl, q3, rfl⟩
          all_goals
            clear hx hy
            go_wp2_with fail
            go_ret
            exact ⟨by first | rfl | exact ret_bool (by simp only [Bool.and_eq_true, Bool.not_eq_true', decide_eq_false_iff_not, Int.not_lt]; omega), hb15⟩

theorem own : ownKnob Try.prog.godebug = none := by kernel_rfl
theorem laidOut : laidOutB Try.prog = true := by kernel_rfl

set_option maxRecDepth 100000 in
theorem lifted (os : Os) (started : os.Started) (H : Type) (enc : TypeId × Value → H) :
    ReturnsInHanded {} Try.checked os 9 .any (Rows.octetBoundsSpec.pre6 enc Try.prog Try.f9 Rows.octetBoundsRow.domain false) (Rows.octetBoundsSpec.post enc Try.prog Try.f9 false true false false) := by
  refine returnsInHanded_of_change_sized (C := Try.checked) own started (by kernel_rfl) Try.func9
    (ChangeSpec.witness6 (enc := enc) (C := Try.checked) false ⟨#[], #[.string ByteArray.empty, .int .i64 0, .slice none 0 0], []⟩ 8 (by kernel_rfl) (by kernel_rfl) (by kernel_rfl) (by kernel_rfl)) ?_
  intro W base args ds gs before hval0 hW hcnd hsz _
  have hval : ∀ (j : Nat) t v, Try.f9.params[j]? = some t → args[j]? = some v → Value.okWide Try.prog W .any base t v := hval0
  have hW' := hW
  have hlt := hW.lt
  obtain ⟨p, q, hA0, hV, rfl, hfz, hnd⟩ := hW
  have hA : DataW.TrodAll enc Try.prog W 0 (fun _ => true) true Try.f9.params.toList args.toList ds p := hA0
  rw [Try.params9] at hA hval
  obtain ⟨v0, vs0, d0, ds0, p0, q0, hargs, rfl, rfl, h0, r0⟩ := trodAll_cons hA
  obtain ⟨v1, vs1, d1, ds1, p1, q1, rfl, rfl, rfl, h1, r1⟩ := trodAll_cons r0
  obtain ⟨v2, vs2, d2, ds2, p2, q2, rfl, rfl, rfl, h2, r2⟩ := trodAll_cons r1
  obtain ⟨rfl, rfl, rfl⟩ := trodAll_nil r2
  obtain rfl : args = #[v0, v1, v2] := by cases args; simp_all
  obtain ⟨rfl, rfl⟩ := trodVars_none hV
  obtain ⟨s0, rfl, rfl, rfl, w0⟩ := open_string Try.underlying9 (hval 0 9 v0 rfl rfl) h0
  have z0 : s0.data.toList.length ≤ 140737488351232 := sized_string hsz (j := 0) (t := 9) (by rw [Try.params9]; rfl) rfl
  obtain ⟨a0, rfl⟩ : ∃ l : List UInt8, s0 = ⟨l.toArray⟩ := ⟨s0.data.toList, rfl⟩
  obtain ⟨a1, rfl, rfl, rfl, w1⟩ := open_int Try.underlying3 (hval 1 3 v1 rfl rfl) h1
  obtain ⟨a2, w2, e2⟩ := open_texts Try.underlying23 Try.underlying9 (by kernel_rfl) (hval 2 23 v2 rfl rfl) h2 (fun x hx => hlt x (by simp [hx]))
  have z2 := sized_texts hsz (j := 2) (t := 23) (by rw [Try.params9]; rfl) rfl Try.underlying23 e2
  refine (walk W a0 z0 a1 w1 v2 a2 w2 z2).mono fun e W' ⟨he, hg⟩ => ?_
  subst he
  exact ⟨_, rfl, Copyhold.law_post laidOut (by kernel_rfl) (by kernel_rfl) Try.underlying4 rfl rfl rfl rfl hW' hg⟩

theorem over : Rows.octetBoundsRow.holds Try.pinned (OpenSpec.ofChange Rows.octetBoundsSpec) :=
  OpenClaim.holds_of_wide 9 Try.f9 rfl rfl rfl rfl rfl rfl rfl ⟨rfl, rfl, rfl, rfl, rfl⟩ rfl rfl rfl rfl rfl (by kernel_rfl) Try.func9 (by kernel_rfl)
    (of_decide_eq_true (by kernel_rfl)) (by unfold Func.isWrapper; first | (rw [if_pos (by decide +kernel)]; kernel_rfl) | (rw [if_neg (by decide +kernel)]; exact ⟨rfl, rfl⟩))
    (fun os started H enc _ => lifted os started H enc)

theorem proved : Rows.OctetBoundsSaid :=
  over
end Go.Proofs.Ytibgedkaollniaa.octetBounds
