/- copyholdref03.Of, the statements' 'given' and 'shown': they answer as the document says; memory is as it was. -/
import Derived.Test.YtcckbiaigcideaaSpanBoth
import Derived.Test.YtcckbiaigcideaaFloatNeg
set_option linter.unusedVariables false
namespace Go.Proofs.Ytcckbiaigcideaa
open Go.RowKit Copyhold

theorem ref_Of_ok (a b : Nat) (w : World) (h : ofOk a b) :
    Calls Try.prog 12 #[.int .i64 a, .int .i64 b] w fun e w' => e = .returned (.tuple #[.complex .f64 (fl a) (fl b), .int .i64 0]) ∧ w = w' := by
  obtain ⟨_, _, h3, h4⟩ := h
  have h1 : (0 : Int) ≤ (a : Int) := by omega
  have h2 : (0 : Int) ≤ (b : Int) := by omega
  have ha := fl_conv a
  have hb := fl_conv b
  go_enter Try.func12, Try.ntmps12
  go_wp2_with fail
  go_ret2
  exact ⟨rfl, rfl⟩

theorem ref_Of_bad (a b : Int) (w : World) (ha1 : -9223372036854775808 ≤ a) (ha2 : a ≤ 9223372036854775807) (hb1 : -9223372036854775808 ≤ b) (hb2 : b ≤ 9223372036854775807) (h : ¬ ofOk a b) :
    Calls Try.prog 12 #[.int .i64 a, .int .i64 b] w fun e w' => e = .returned (.tuple #[.complex .f64 0 0, .int .i64 1]) ∧ w = w' := by
  unfold ofOk at h
  rcases (show a < 0 ∨ 0 ≤ a ∧ 1099511627776 < a ∨ 0 ≤ a ∧ a ≤ 1099511627776 ∧ b < 0 ∨ 0 ≤ a ∧ a ≤ 1099511627776 ∧ 0 ≤ b ∧ 1099511627776 - a < b from by omega) with h1 | ⟨h1, h2⟩ | ⟨h1, h2, h3⟩ | ⟨h1, h2, h3, h4⟩
  all_goals
    clear h
    go_enter Try.func12, Try.ntmps12
    go_wp2_with fail
    go_ret2
    exact ⟨rfl, rfl⟩

/-- a span of two whole numbers; an empty one, if they may not be -/
noncomputable def givenD (a b : Int) : Nat × Nat := open Classical in if ofOk a b then (a.toNat, b.toNat) else (0, 0)

theorem givenD_le (a b : Int) : (givenD a b).1 + (givenD a b).2 ≤ 1099511627776 := by
  unfold givenD
  split
  · rename_i h; obtain ⟨h1, h2, h3, h4⟩ := h; simp only; omega
  · simp

set_option maxHeartbeats 1000000 in
theorem law_given (a b : Int) (w : World) (ha1 : -9223372036854775808 ≤ a) (ha2 : a ≤ 9223372036854775807) (hb1 : -9223372036854775808 ≤ b) (hb2 : b ≤ 9223372036854775807) :
    Calls Try.prog 13 #[.int .i64 a, .int .i64 b] w fun e w' => e = .returned (.complex .f64 (fl (givenD a b).1) (fl (givenD a b).2)) ∧ w = w' := by
  by_cases h : ofOk a b
  · have hg : givenD a b = (a.toNat, b.toNat) := if_pos h
    rw [hg]
    obtain ⟨h1, h2, h3, h4⟩ := id h
    obtain ⟨a, rfl⟩ := Int.eq_ofNat_of_zero_le h1
    obtain ⟨b, rfl⟩ := Int.eq_ofNat_of_zero_le h2
    rw [Int.toNat_natCast, Int.toNat_natCast]
    have H := Lib.hid h
    clear h hg
    go_enter Try.func13, Try.ntmps13
    go_wp2_with fail
    refine (ref_Of_ok a b _ H.out).mono ?_
    rintro e w1 ⟨rfl, rfl⟩
    go_wp2_with fail
    go_ret
    exact ⟨rfl, rfl⟩
  · have hg : givenD a b = (0, 0) := if_neg h
    rw [hg]
    have H := Lib.hid h
    clear h hg
    go_enter Try.func13, Try.ntmps13
    go_wp2_with fail
    refine (ref_Of_bad a b _ ha1 ha2 hb1 hb2 H.out).mono ?_
    rintro e w1 ⟨rfl, rfl⟩
    go_wp2_with fail
    go_ret
    exact ⟨rfl, rfl⟩

set_option maxHeartbeats 1000000 in
theorem law_shown (w : World) : Calls Try.prog 10 #[] w fun e w' => e = .returned (.bool true) ∧ w = w' := by
  have f2 : fl 2 = 4611686018427387904 := by decide +kernel
  have f3 : fl 3 = 4613937818241073152 := by decide +kernel
  have f4 : fl 4 = 4616189618054758400 := by decide +kernel
  have f5 : fl 5 = 4617315517961601024 := by decide +kernel
  have o2 : FloatKind.f64.format.order 4611686018427387904 4611686018427387904 = some .eq := by decide +kernel
  have o3 : FloatKind.f64.format.order 4613937818241073152 4613937818241073152 = some .eq := by decide +kernel
  have o4 : FloatKind.f64.format.order 4616189618054758400 4616189618054758400 = some .eq := by decide +kernel
  have o5 : FloatKind.f64.format.order 4617315517961601024 4617315517961601024 = some .eq := by decide +kernel
  have F2 := Lib.hid f2
  have F3 := Lib.hid f3
  have F4 := Lib.hid f4
  have F5 := Lib.hid f5
  have hb : bothD 3 4 5 9 = some (5, 2) := by decide
  have HB := Lib.hid hb
  clear f2 f3 f4 f5 hb
  go_enter Try.func10, Try.ntmps10
  go_wp2_with fail
  refine (span_Of_ok 3 4 _ (by unfold ofOk; omega)).mono ?_
  rintro e w1 ⟨rfl, rfl⟩
  go_wp2_with fail
  refine (span_Of_ok 5 9 _ (by unfold ofOk; omega)).mono ?_
  rintro e w1 ⟨rfl, rfl⟩
  go_wp2_with fail
  refine (span_Both 3 4 5 9 _ (by omega) (by omega)).mono ?_
  rw [HB.out]
  rintro e w1 ⟨rfl, he⟩
  simp only at he
  subst he
  rw [F2.out, F3.out, F4.out, F5.out]
  go_wp2_with fail
  go_ret
  exact ⟨rfl, rfl⟩
end Go.Proofs.Ytcckbiaigcideaa
