/- data.Read, data.refused, data.filled: they answer as the document says; old memory is as it was. -/
import Derived.Test.YtgmpgmhbfkdalaaSpanOf
namespace Go.Proofs.Ytgmpgmhbfkdalaa
open Go.RowKit Copyhold
attribute [local go_sem] piece

/-- a part of a text -/
def readD (l : List UInt8) (a b : Int) : List UInt8 × Int :=
  if 0 ≤ a ∧ 0 ≤ b ∧ a ≤ 1099511627776 ∧ b ≤ 1099511627776 - a then ((l.drop a.toNat).take b.toNat, 0) else ([], 1)

set_option maxHeartbeats 1000000 in
theorem data_Read (l : List UInt8) (a b : Int) (w : World) (hl : l.length ≤ 140737488355328) (ha1 : -9223372036854775808 ≤ a) (ha2 : a ≤ 9223372036854775807) (hb1 : -9223372036854775808 ≤ b) (hb2 : b ≤ 9223372036854775807) :
    Calls Try.prog 11 #[.string ⟨l.toArray⟩, .int .i64 a, .int .i64 b] w fun e w' => e = .returned (.tuple #[.string ⟨(readD l a b).1.toArray⟩, .int .i64 (readD l a b).2]) ∧ w = w' := by
  by_cases h : ofOk a b
  · have hr : readD l a b = ((l.drop a.toNat).take b.toNat, 0) := if_pos h
    obtain ⟨h1, h2, h3, h4⟩ := id h
    obtain ⟨a, rfl⟩ := Int.eq_ofNat_of_zero_le h1
    obtain ⟨b, rfl⟩ := Int.eq_ofNat_of_zero_le h2
    rw [Int.toNat_natCast, Int.toNat_natCast] at hr
    have HR := Lib.hid hr
    have HO := Lib.hid h
    clear hr h ha1 hb1
    go_enter Try.func11, Try.ntmps11
    go_wp2_with fail
    refine (span_Of_ok a b _ HO.out).mono ?_
    rintro e w' ⟨rfl, rfl⟩
    rcases (show l.length < a ∨ a ≤ l.length ∧ l.length < a + b ∨ a + b ≤ l.length from by omega) with q | ⟨q, q'⟩ | q
    · go_wp2_with fail
      go_ret2
      refine ⟨?_, rfl⟩
      rw [HR.out]
      exact ret2 (congrArg (fun x : List UInt8 => Value.string ⟨x.toArray⟩) (by rw [List.drop_eq_nil_of_le (by omega), List.take_nil])) rfl
    · go_wp2_with fail
      go_ret2
      refine ⟨?_, rfl⟩
      rw [HR.out]
      exact ret2 (congrArg (fun x : List UInt8 => Value.string ⟨x.toArray⟩) (by rw [List.take_of_length_le (by rw [List.length_drop]; omega)])) rfl
    · go_wp2_with fail
      go_ret2
      refine ⟨?_, rfl⟩
      rw [HR.out]
      exact ret2 (congrArg (fun x : List UInt8 => Value.string ⟨x.toArray⟩) (by rw [List.drop_take, Nat.add_sub_cancel_left])) rfl
  · have hr : readD l a b = ([], 1) := if_neg h
    have HR := Lib.hid hr
    go_enter Try.func11, Try.ntmps11
    go_wp2_with fail
    refine (span_Of_bad a b _ ha1 ha2 hb1 hb2 h).mono ?_
    rintro e w' ⟨rfl, rfl⟩
    go_wp2_with fail
    go_ret2
    exact ⟨by rw [HR.out]; rfl, rfl⟩

/-- why a text can't reach so far -/
def refusedD (a b : Int) : Int := if 0 ≤ a ∧ 0 ≤ b ∧ a ≤ 1099511627776 ∧ b ≤ 1099511627776 - a then (if a + b > 4096 then 5 else 0) else 1

theorem fl_4096 : fl 4096 = 4661225614328463360 := by decide +kernel

set_option maxHeartbeats 1000000 in
theorem data_refused (a b : Int) (w : World) (ha1 : -9223372036854775808 ≤ a) (ha2 : a ≤ 9223372036854775807) (hb1 : -9223372036854775808 ≤ b) (hb2 : b ≤ 9223372036854775807) :
    Calls Try.prog 28 #[.int .i64 a, .int .i64 b] w fun e w' => e = .returned (.int .i64 (refusedD a b)) ∧ w = w' := by
  by_cases h : ofOk a b
  · have hr : refusedD a b = if a + b > 4096 then 5 else 0 := if_pos h
    obtain ⟨h1, h2, h3, h4⟩ := id h
    obtain ⟨a, rfl⟩ := Int.eq_ofNat_of_zero_le h1
    obtain ⟨b, rfl⟩ := Int.eq_ofNat_of_zero_le h2
    have hadd := run_float_arith (P := Try.prog) w .add 56 .f64 (fl a) (fl b) (fl (a + b)) (fl_add a b (by omega))
    have hord := fl_order (a + b) 4096 (by omega) (by decide)
    rw [fl_4096] at hord
    have HR := Lib.hid hr
    have HO := Lib.hid h
    clear hr h ha1 hb1
    by_cases h5 : 4096 < a + b
    · have hf : refusedD a b = 5 := by rw [HR.out, if_pos (by omega)]
      rw [Nat.compare_eq_gt.2 h5] at hord
      have HF := Lib.hid hf
      clear hf HR
      go_enter Try.func28, Try.ntmps28
      go_wp2_with fail
      refine (span_Of_ok a b _ HO.out).mono ?_
      rintro e w' ⟨rfl, rfl⟩
      go_wp2_with fail
      go_ret
      exact ⟨by rw [HF.out]; rfl, rfl⟩
    · have hf : refusedD a b = 0 := by rw [HR.out, if_neg (by omega)]
      have HF := Lib.hid hf
      clear hf HR
      rcases Nat.lt_or_eq_of_le (Nat.not_lt.1 h5) with h6 | h6
      · rw [Nat.compare_eq_lt.2 h6] at hord
        clear h6
        go_enter Try.func28, Try.ntmps28
        go_wp2_with fail
        refine (span_Of_ok a b _ HO.out).mono ?_
        rintro e w' ⟨rfl, rfl⟩
        go_wp2_with fail
        go_ret
        exact ⟨by rw [HF.out]; rfl, rfl⟩
      · rw [Nat.compare_eq_eq.2 h6] at hord
        clear h6
        go_enter Try.func28, Try.ntmps28
        go_wp2_with fail
        refine (span_Of_ok a b _ HO.out).mono ?_
        rintro e w' ⟨rfl, rfl⟩
        go_wp2_with fail
        go_ret
        exact ⟨by rw [HF.out]; rfl, rfl⟩
  · have hr : refusedD a b = 1 := if_neg h
    have HR := Lib.hid hr
    go_enter Try.func28, Try.ntmps28
    go_wp2_with fail
    refine (span_Of_bad a b _ ha1 ha2 hb1 hb2 h).mono ?_
    rintro e w' ⟨rfl, rfl⟩
    go_wp2_with fail
    go_ret
    exact ⟨by rw [HR.out]; rfl, rfl⟩
end Go.Proofs.Ytgmpgmhbfkdalaa
