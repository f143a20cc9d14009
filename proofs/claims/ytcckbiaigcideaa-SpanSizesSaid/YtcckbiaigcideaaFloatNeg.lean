/- Whole numbers below 0 as floats of 64 bits: added to others they give the difference. Numbers alone: nothing of the program. -/
import Derived.Test.YtcckbiaigcideaaFloat
namespace Copyhold
open Go Ieee

theorem nearest_neg (m : Nat) (p : Int) (h : m ≠ 0) : double.nearest true m p = double.signWeight + double.nearest false m p := by
  unfold Format.nearest
  rw [if_neg h, if_neg h]
  simp only [Format.word, if_true, Bool.false_eq_true, if_false]
  rfl

theorem fl_lt (n : Nat) (hn : n < 2 ^ 53) : fl n < double.signWeight := by
  by_cases h0 : n = 0
  · subst h0
    decide +kernel
  · rw [fl_eq n hn h0]
    have hk : n.log2 ≤ 52 := by
      have := (Nat.log2_lt h0).2 hn
      omega
    have hhi : n * 2 ^ (52 - n.log2) < 2 * 2 ^ 52 := by
      have := (Nat.log2_eq_iff h0).1 rfl
      have h3 : n * 2 ^ (52 - n.log2) < 2 ^ (n.log2 + 1) * 2 ^ (52 - n.log2) := Nat.mul_lt_mul_of_pos_right this.2 (Nat.pow_pos (by decide))
      rw [← Nat.pow_add, show n.log2 + 1 + (52 - n.log2) = 53 from by omega] at h3
      rwa [show (2 : Nat) ^ 53 = 2 * 2 ^ 52 from by rw [Nat.pow_succ, Nat.mul_comm]] at h3
    have hb2 : (n.log2 + 1022) * 2 ^ 52 ≤ 1074 * 2 ^ 52 := Nat.mul_le_mul_right _ (by omega)
    have hsw : double.signWeight = 2048 * 2 ^ 52 := rfl
    rw [hsw]
    generalize (2 : Nat) ^ 52 = M at *
    generalize (n.log2 + 1022) * M = A at *
    generalize n * 2 ^ (52 - n.log2) = B at *
    omega

theorem read_sign {x m : Nat} {p : Int} (hx : x < double.signWeight) (h : double.read x = .number false m p) : double.read (double.signWeight + x) = .number true m p := by
  have hs : 0 < double.signWeight := by decide +kernel
  generalize hsw : double.signWeight = S at *
  unfold Format.read at h ⊢
  rw [hsw] at h ⊢
  have e1 : (S + x) / S = 1 := by rw [Nat.add_div_left _ hs, Nat.div_eq_of_lt hx]
  have e2 : (S + x) % S = x := by rw [Nat.add_mod_left, Nat.mod_eq_of_lt hx]
  rw [Nat.div_eq_of_lt hx, Nat.mod_eq_of_lt hx] at h
  rw [e1, e2]
  by_cases h1 : x < double.binade
  · simp only [h1, if_true] at h ⊢
    injection h with _ h2 h3
    rw [h2, h3]
    rfl
  · by_cases h2 : x < double.infRung
    · simp only [h1, h2, if_true, if_false] at h ⊢
      injection h with _ h3 h4
      rw [h3, h4]
      rfl
    · by_cases h3 : x = double.infRung
      · rw [if_neg h1, if_neg h2, if_pos h3] at h
        cases h
      · rw [if_neg h1, if_neg h2, if_neg h3] at h
        cases h

theorem sum_mixed {d e : Datum} {a b : Nat} (ha : IsN d a) (hb : ∃ t : Nat, e = .number true (b * 2 ^ t) (-(t : Int)) ∧ t ≤ 1074) (h : b ≤ a) : ∃ r, d.sum e = some r ∧ IsN r (a - b) := by
  obtain ⟨s, rfl, hs⟩ := ha
  obtain ⟨t, rfl, ht⟩ := hb
  simp only [Datum.sum]
  refine ⟨_, rfl, max s t, ?_, by omega⟩
  have hneg : ∀ m u, signed true m u = - signed false m u := fun m u => by simp [signed]
  have e3 : signed false (a * 2 ^ s) (-(s : Int) - min (-(s : Int)) (-(t : Int))).toNat + signed true (b * 2 ^ t) (-(t : Int) - min (-(s : Int)) (-(t : Int))).toNat = (((a - b) * 2 ^ max s t : Nat) : Int) := by
    rw [hneg, low1, low2, signed_up a s _ (by omega), signed_up b t _ (by omega), Nat.sub_mul]
    have : b * 2 ^ max s t ≤ a * 2 ^ max s t := Nat.mul_le_mul_right _ h
    omega
  simp only [e3]
  congr 1
  · split
    · rfl
    · exact decide_eq_false (Int.not_lt.2 (Int.natCast_nonneg _))
  · omega

/-- a float less a whole number -/
theorem fl_sub (a b : Nat) (ha : a < 2 ^ 53) (h : b ≤ a) : FloatKind.f64.format.add (fl a) (double.signWeight + fl b) = some (fl (a - b)) := by
  obtain ⟨t, hr, ht⟩ := read_fl b (Nat.lt_of_le_of_lt h ha)
  have hrb := read_sign (fl_lt b (Nat.lt_of_le_of_lt h ha)) hr
  obtain ⟨r, hsum, s, rfl, hs⟩ := sum_mixed (read_fl a ha) ⟨t, hrb, ht⟩ h
  show ((double.read (fl a)).sum (double.read (double.signWeight + fl b))).map double.write = _
  rw [hsum, Option.map_some]
  congr 1
  show double.nearest false ((a - b) * 2 ^ s) (-(s : Int)) = _
  by_cases h0 : a - b = 0
  · rw [h0, Nat.zero_mul, fl_zero]
    simp [Format.nearest, Format.word]
  · have hlt : a - b < 2 ^ 53 := Nat.lt_of_le_of_lt (Nat.sub_le a b) ha
    rw [nearest_up _ _ hlt h0 hs, fl_eq _ hlt h0]

theorem float_neg (b : Nat) (h : b ≠ 0) : floatOfInt .f64 (-(b : Int)) = double.signWeight + fl b := by
  have h1 : floatOfInt .f64 (-(b : Int)) = double.nearest (decide (-(b : Int) < 0)) (-(b : Int)).natAbs 0 := rfl
  have h2 : fl b = double.nearest (decide ((b : Int) < 0)) (b : Int).natAbs 0 := rfl
  rw [h1, h2, decide_eq_true (by omega), decide_eq_false (by omega), Int.natAbs_neg, Int.natAbs_natCast]
  exact nearest_neg b 0 h

/-- a float and a whole number, below 0 or not -/
theorem fl_move (a : Nat) (z : Int) (r : Nat) (ha : a < 2 ^ 52) (h : (a : Int) + z = r) (hr : r < 2 ^ 52) : FloatKind.f64.format.add (fl a) (floatOfInt .f64 z) = some (fl r) := by
  by_cases hz : 0 ≤ z
  · obtain ⟨n, rfl⟩ := Int.eq_ofNat_of_zero_le hz
    have e : r = a + n := by omega
    rw [e]
    exact fl_add a n (by rw [← e]; exact Nat.lt_trans hr (by decide))
  · obtain ⟨n, hn⟩ := Int.eq_ofNat_of_zero_le (show 0 ≤ -z by omega)
    have e : z = -(n : Int) := by omega
    rw [e, float_neg n (by omega), fl_sub a n (Nat.lt_trans ha (by decide)) (by omega), show a - n = r from by omega]
end Copyhold
