/- Whole numbers as floats of 64 bits, below 2^53: they are told apart, added and cut to themselves. Numbers alone: nothing of the program. -/
import Derived.Laws.FloatArith
import Derived.Laws.ComplexArith
namespace Copyhold
open Go Ieee

/-- a datum that is the whole number n -/
def IsN (d : Datum) (n : Nat) : Prop := ∃ (s : Nat), d = .number false (n * 2 ^ s) (-(s : Int)) ∧ s ≤ 1074

theorem signed_up (a s m : Nat) (h : s ≤ m) : signed false (a * 2 ^ s) (m - s) = ((a * 2 ^ m : Nat) : Int) := by
  unfold signed
  rw [if_neg (by decide), Nat.shiftLeft_eq, Nat.mul_assoc, ← Nat.pow_add, show s + (m - s) = m from by omega]
theorem low1 (u v : Nat) : (-(u : Int) - min (-(u : Int)) (-(v : Int))).toNat = max u v - u := by omega
theorem low2 (u v : Nat) : (-(v : Int) - min (-(u : Int)) (-(v : Int))).toNat = max u v - v := by omega

theorem order_isN {d e : Datum} {a b : Nat} (ha : IsN d a) (hb : IsN e b) : d.order e = some (compare a b) := by
  obtain ⟨s, rfl, _⟩ := ha
  obtain ⟨t, rfl, _⟩ := hb
  simp only [Datum.order]
  rw [low1, low2, signed_up a s _ (by omega), signed_up b t _ (by omega)]
  have hp : 0 < 2 ^ max s t := Nat.pow_pos (by decide)
  generalize 2 ^ max s t = p at hp
  congr 1
  rcases Nat.lt_trichotomy a b with h | h | h
  · have h2 : a * p < b * p := Nat.mul_lt_mul_of_pos_right h hp
    rw [Nat.compare_eq_lt.2 h]
    exact Int.compare_eq_lt.2 (by omega)
  · subst h
    rw [Nat.compare_eq_eq.2 rfl]
    exact Int.compare_eq_eq.2 rfl
  · have h2 : b * p < a * p := Nat.mul_lt_mul_of_pos_right h hp
    rw [Nat.compare_eq_gt.2 h]
    exact Int.compare_eq_gt.2 (by omega)

theorem sum_isN {d e : Datum} {a b : Nat} (ha : IsN d a) (hb : IsN e b) : ∃ r, d.sum e = some r ∧ IsN r (a + b) := by
  obtain ⟨s, rfl, hs⟩ := ha
  obtain ⟨t, rfl, ht⟩ := hb
  simp only [Datum.sum]
  refine ⟨_, rfl, max s t, ?_, by omega⟩
  have e3 : signed false (a * 2 ^ s) (-(s : Int) - min (-(s : Int)) (-(t : Int))).toNat + signed false (b * 2 ^ t) (-(t : Int) - min (-(s : Int)) (-(t : Int))).toNat = (((a + b) * 2 ^ max s t : Nat) : Int) := by
    rw [low1, low2, signed_up a s _ (by omega), signed_up b t _ (by omega), Nat.add_mul]; omega
  simp only [e3]
  congr 1
  · split
    · rfl
    · exact decide_eq_false (Int.not_lt.2 (Int.natCast_nonneg _))
  · omega

theorem log2_mul_pow (n s : Nat) (h : n ≠ 0) : (n * 2 ^ s).log2 = n.log2 + s := by
  have hp : 0 < 2 ^ s := Nat.pow_pos (by decide)
  have hn : n * 2 ^ s ≠ 0 := by have := Nat.mul_pos (Nat.pos_of_ne_zero h) hp; omega
  rw [Nat.log2_eq_iff hn]
  have h1 := (Nat.log2_eq_iff h).1 rfl
  constructor
  · rw [Nat.pow_add]; exact Nat.mul_le_mul_right _ h1.1
  · rw [show n.log2 + s + 1 = (n.log2 + 1) + s from by omega, Nat.pow_add]; exact Nat.mul_lt_mul_of_pos_right h1.2 hp

/-- cutting off digits that are 0 -/
theorem cut_exact (way : Toward) (neg : Bool) (n s : Nat) : way.cut neg (n * 2 ^ s) s = n := by
  have hp : 0 < 2 ^ s := Nat.pow_pos (by decide)
  by_cases h0 : n = 0
  · subst h0
    simp only [Toward.cut, Nat.zero_mul, Nat.zero_div, Nat.zero_mod]
    cases way <;> simp
    all_goals (try omega)
  · have hl := log2_mul_pow n s h0
    have hm : min s ((n * 2 ^ s).log2 + 2) = s := by rw [hl]; omega
    simp only [Toward.cut, hm, Nat.one_shiftLeft, Nat.mul_div_cancel _ hp, Nat.mul_mod_left]
    cases way <;> simp
    all_goals (try omega)

theorem toInt_isN {d : Datum} {n : Nat} (h : IsN d n) : d.toInt .zero = some (n : Int) := by
  obtain ⟨s, rfl, _⟩ := h
  simp only [Datum.toInt, Datum.integral]
  rw [show (-(s : Int)).toNat = 0 from by omega, show (- -(s : Int)).toNat = s from by omega, Nat.shiftLeft_zero, cut_exact]
  simp [signed]

/-- a whole number's word does not hang on how it is written -/
theorem nearest_up (n s : Nat) (hn : n < 2 ^ 53) (h0 : n ≠ 0) (hs : s ≤ 1074) : double.nearest false (n * 2 ^ s) (-(s : Int)) = (n.log2 + 1022) * 2 ^ 52 + n * 2 ^ (52 - n.log2) := by
  have hp : 0 < 2 ^ s := Nat.pow_pos (by decide)
  have hne : n * 2 ^ s ≠ 0 := by have := Nat.mul_pos (Nat.pos_of_ne_zero h0) hp; omega
  have hl := log2_mul_pow n s h0
  have hk : n.log2 ≤ 52 := by
    have := (Nat.log2_lt h0).2 hn
    omega
  have hlast : max (-(s : Int) + ((n * 2 ^ s).log2 : Int) - (double.fractionBits : Int)) double.leastPlace = (n.log2 : Int) - 52 := by
    rw [hl]
    simp only [double, Format.leastPlace]
    have : (2 : Int) ^ (11 - 1) = 1024 := by decide
    omega
  unfold Format.nearest
  rw [if_neg hne]
  simp only [hlast]
  have hfin : ∀ kept, kept = n * 2 ^ (52 - n.log2) → double.word false (min (((n.log2 : Int) - 52 - double.leastPlace).toNat * double.binade + kept) double.infRung) = (n.log2 + 1022) * 2 ^ 52 + n * 2 ^ (52 - n.log2) := by
    rintro kept rfl
    have e1 : ((n.log2 : Int) - 52 - double.leastPlace).toNat = n.log2 + 1022 := by
      simp only [double, Format.leastPlace]
      have : (2 : Int) ^ (11 - 1) = 1024 := by decide
      omega
    have e2 : double.binade = 2 ^ 52 := rfl
    have e3 : double.infRung = 2047 * 2 ^ 52 := rfl
    rw [e1, e2, e3]
    have hb : n * 2 ^ (52 - n.log2) < 2 ^ 53 := by
      have := (Nat.log2_eq_iff h0).1 rfl
      have h3 : n * 2 ^ (52 - n.log2) < 2 ^ (n.log2 + 1) * 2 ^ (52 - n.log2) := Nat.mul_lt_mul_of_pos_right this.2 (Nat.pow_pos (by decide))
      rw [← Nat.pow_add, show n.log2 + 1 + (52 - n.log2) = 53 from by omega] at h3
      exact h3
    have hb2 : (n.log2 + 1022) * 2 ^ 52 ≤ 1074 * 2 ^ 52 := Nat.mul_le_mul_right _ (by omega)
    have hle : (n.log2 + 1022) * 2 ^ 52 + n * 2 ^ (52 - n.log2) ≤ 2047 * 2 ^ 52 := by
      rw [show (2 : Nat) ^ 53 = 2 * 2 ^ 52 from by rw [Nat.pow_succ, Nat.mul_comm]] at hb
      generalize (2 : Nat) ^ 52 = M at *
      generalize (n.log2 + 1022) * M = A at *
      generalize n * 2 ^ (52 - n.log2) = B at *
      omega
    simp only [Format.word]
    rw [if_neg (by decide), Nat.min_eq_left hle]
  apply hfin
  by_cases h : s ≤ 52 - n.log2
  · rw [show ((n.log2 : Int) - 52 - -(s : Int)).toNat = 0 from by omega, show (-(s : Int) - ((n.log2 : Int) - 52)).toNat = 52 - n.log2 - s from by omega, Nat.shiftLeft_eq, Nat.mul_assoc, ← Nat.pow_add, show s + (52 - n.log2 - s) = 52 - n.log2 from by omega]
    have := cut_exact .even false (n * 2 ^ (52 - n.log2)) 0
    simpa using this
  · rw [show ((n.log2 : Int) - 52 - -(s : Int)).toNat = s - (52 - n.log2) from by omega, show (-(s : Int) - ((n.log2 : Int) - 52)).toNat = 0 from by omega, Nat.shiftLeft_zero]
    have := cut_exact .even false (n * 2 ^ (52 - n.log2)) (s - (52 - n.log2))
    rw [Nat.mul_assoc, ← Nat.pow_add, show 52 - n.log2 + (s - (52 - n.log2)) = s from by omega] at this
    exact this

/-- a whole number as a float -/
def fl (n : Nat) : Nat := floatOfInt .f64 (n : Int)

theorem fl_eq (n : Nat) (hn : n < 2 ^ 53) (h0 : n ≠ 0) : fl n = (n.log2 + 1022) * 2 ^ 52 + n * 2 ^ (52 - n.log2) := by
  have h := nearest_up n 0 hn h0 (by decide)
  rw [Nat.pow_zero, Nat.mul_one] at h
  exact h
theorem fl_zero : fl 0 = 0 := rfl

theorem read_fl (n : Nat) (hn : n < 2 ^ 53) : IsN (double.read (fl n)) n := by
  by_cases h0 : n = 0
  · subst h0
    obtain ⟨s, hs⟩ : ∃ s : Nat, s = 1074 := ⟨_, rfl⟩
    refine ⟨s, ?_, by omega⟩
    rw [Nat.zero_mul, show (-(s : Int)) = -1074 from by omega]
    rfl
  · have hk : n.log2 ≤ 52 := by
      have := (Nat.log2_lt h0).2 hn
      omega
    have hlo : 2 ^ 52 ≤ n * 2 ^ (52 - n.log2) := by
      have := (Nat.log2_eq_iff h0).1 rfl
      have h3 : 2 ^ n.log2 * 2 ^ (52 - n.log2) ≤ n * 2 ^ (52 - n.log2) := Nat.mul_le_mul_right _ this.1
      rwa [← Nat.pow_add, show n.log2 + (52 - n.log2) = 52 from by omega] at h3
    have hhi : n * 2 ^ (52 - n.log2) < 2 * 2 ^ 52 := by
      have := (Nat.log2_eq_iff h0).1 rfl
      have h3 : n * 2 ^ (52 - n.log2) < 2 ^ (n.log2 + 1) * 2 ^ (52 - n.log2) := Nat.mul_lt_mul_of_pos_right this.2 (Nat.pow_pos (by decide))
      rw [← Nat.pow_add, show n.log2 + 1 + (52 - n.log2) = 53 from by omega] at h3
      rwa [show (2 : Nat) ^ 53 = 2 * 2 ^ 52 from by rw [Nat.pow_succ, Nat.mul_comm]] at h3
    refine ⟨52 - n.log2, ?_, by omega⟩
    rw [fl_eq n hn h0]
    have hsw : double.signWeight = 2048 * 2 ^ 52 := rfl
    have hbi : double.binade = 2 ^ 52 := rfl
    have hin : double.infRung = 2047 * 2 ^ 52 := rfl
    have hlp : double.leastPlace = -1074 := rfl
    unfold Format.read
    simp only [hsw, hbi, hin, hlp]
    have hM : 0 < (2 : Nat) ^ 52 := Nat.pow_pos (by decide)
    generalize hB : n * 2 ^ (52 - n.log2) = B at *
    obtain ⟨c, rfl⟩ : ∃ c, B = 2 ^ 52 + c := ⟨B - 2 ^ 52, by omega⟩
    generalize (2 : Nat) ^ 52 = M at *
    have hc : c < M := by omega
    have e0 : (n.log2 + 1022) * M + (M + c) = c + (n.log2 + 1023) * M := by
      rw [show n.log2 + 1023 = n.log2 + 1022 + 1 from by omega, Nat.add_mul (n.log2 + 1022) 1 M]; omega
    have hlt : c + (n.log2 + 1023) * M < 2047 * M := by
      have : (n.log2 + 1023) * M ≤ 1075 * M := Nat.mul_le_mul_right _ (by omega)
      omega
    rw [e0]
    have hdiv : (c + (n.log2 + 1023) * M) / M = n.log2 + 1023 := by rw [Nat.add_mul_div_right _ _ hM, Nat.div_eq_of_lt hc, Nat.zero_add]
    have hmod : (c + (n.log2 + 1023) * M) % M = c := by rw [Nat.add_mul_mod_self_right, Nat.mod_eq_of_lt hc]
    have hge : ¬ (c + (n.log2 + 1023) * M) < M := by
      have : 1 * M ≤ (n.log2 + 1023) * M := Nat.mul_le_mul_right _ (by omega)
      omega
    rw [Nat.mod_eq_of_lt (by omega), Nat.div_eq_of_lt (by omega), if_neg hge, if_pos hlt, hdiv, hmod]
    have e9 : (-1074 + ((n.log2 + 1023 - 1 : Nat) : Int)) = -((52 - n.log2 : Nat) : Int) := by
      clear hlt hge hdiv hmod e0 hhi hn hB hlo
      omega
    rw [e9]
    rfl

theorem fl_order (a b : Nat) (ha : a < 2 ^ 53) (hb : b < 2 ^ 53) : FloatKind.f64.format.order (fl a) (fl b) = some (compare a b) :=
  order_isN (read_fl a ha) (read_fl b hb)
theorem fl_add (a b : Nat) (h : a + b < 2 ^ 53) : FloatKind.f64.format.add (fl a) (fl b) = some (fl (a + b)) := by
  obtain ⟨r, hr, s, rfl, hs⟩ := sum_isN (read_fl a (Nat.lt_of_le_of_lt (Nat.le_add_right a b) h)) (read_fl b (Nat.lt_of_le_of_lt (Nat.le_add_left b a) h))
  show ((double.read (fl a)).sum (double.read (fl b))).map double.write = _
  rw [hr, Option.map_some]
  congr 1
  show double.nearest false ((a + b) * 2 ^ s) (-(s : Int)) = _
  by_cases h0 : a + b = 0
  · rw [h0, Nat.zero_mul, fl_zero]
    simp [Format.nearest, Format.word]
  · rw [nearest_up _ _ h h0 hs, fl_eq _ h h0]
theorem fl_int (n : Nat) (hn : n < 2 ^ 53) : floatToIntVal .f64 (fl n) .i64 = some (n : Int) := by
  unfold floatToIntVal
  show (match (double.read (fl n)).toInt .zero with | some n => if IntKind.i64.min ≤ n ∧ n ≤ IntKind.i64.max then some n else none | none => none) = _
  rw [toInt_isN (read_fl n hn)]
  simp only
  rw [if_pos]
  have h1 : IntKind.i64.min = -9223372036854775808 := by decide
  have h2 : IntKind.i64.max = 9223372036854775807 := by decide
  rw [h1, h2]
  omega
end Copyhold
