/- Any words of 64 bits as floats: which are whole numbers; what is above 2^40 stays above it, whatever is added. Numbers alone: nothing of the program. -/
import Derived.Test.YtcckbiaigcideaaFloat
set_option linter.unusedVariables false
namespace Copyhold
open Go Ieee

theorem dbl_sw : double.signWeight = 9223372036854775808 := rfl
theorem dbl_bi : double.binade = 4503599627370496 := rfl
theorem dbl_in : double.infRung = 9218868437227405312 := rfl
theorem dbl_lp : double.leastPlace = -1074 := rfl

theorem dread (x : Nat) : double.read x = if x % 9223372036854775808 < 4503599627370496 then .number (x / 9223372036854775808 % 2 == 1) (x % 9223372036854775808) (-1074) else if x % 9223372036854775808 < 9218868437227405312 then .number (x / 9223372036854775808 % 2 == 1) (4503599627370496 + x % 9223372036854775808 % 4503599627370496) (-1074 + ((x % 9223372036854775808 / 4503599627370496 - 1 : Nat) : Int)) else if x % 9223372036854775808 = 9218868437227405312 then .infinity (x / 9223372036854775808 % 2 == 1) else .nan (x / 9223372036854775808 % 2 == 1) (x % 9223372036854775808 - 9218868437227405312) := rfl

/-- what a word may stand for -/
theorem read_cases (x : Nat) (hx : x < 18446744073709551616) :
    (∃ s f, double.read x = .nan s f) ∨ (∃ s, double.read x = .infinity s ∧ (s = false → x < 9223372036854775808)) ∨
    (∃ s m i, double.read x = .number s m i ∧ -1074 ≤ i ∧ m < 9007199254740992 ∧ (s = false → x < 9223372036854775808) ∧ (s = true → 9223372036854775808 ≤ x) ∧ (-1074 < i → 4503599627370496 ≤ m) ∧ (m = 0 → x % 9223372036854775808 = 0)) := by
  have hs : ∀ s : Bool, s = (x / 9223372036854775808 % 2 == 1) → (s = false → x < 9223372036854775808) ∧ (s = true → 9223372036854775808 ≤ x) := by
    rintro s rfl
    constructor
    · intro h
      have : ¬ x / 9223372036854775808 % 2 = 1 := by simpa using h
      omega
    · intro h
      have : x / 9223372036854775808 % 2 = 1 := by simpa using h
      omega
  have hr := dread x
  generalize (x / 9223372036854775808 % 2 == 1) = s at *
  obtain ⟨h1, h2⟩ := hs s rfl
  by_cases c1 : x % 9223372036854775808 < 4503599627370496
  · rw [if_pos c1] at hr
    exact .inr (.inr ⟨s, _, _, hr, by omega, by omega, h1, h2, fun h => absurd h (by omega), fun h => h⟩)
  · rw [if_neg c1] at hr
    by_cases c2 : x % 9223372036854775808 < 9218868437227405312
    · rw [if_pos c2] at hr
      exact .inr (.inr ⟨s, _, _, hr, by omega, by omega, h1, h2, fun h => by omega, fun h => by omega⟩)
    · rw [if_neg c2] at hr
      by_cases c3 : x % 9223372036854775808 = 9218868437227405312
      · rw [if_pos c3] at hr
        exact .inr (.inl ⟨s, hr, h1⟩)
      · rw [if_neg c3] at hr
        exact .inl ⟨s, _, hr⟩

/-- the powers of 2, by their rules alone -/
structure Pw (pw : Nat → Nat) : Prop where
  pos : ∀ n, 0 < pw n
  add : ∀ a b, pw (a + b) = pw a * pw b
  succ : ∀ a, pw (a + 1) = pw a * 2
  zero : pw 0 = 1
  le : ∀ {a b : Nat}, a ≤ b → pw a ≤ pw b
  shl : ∀ m k : Nat, m <<< k = m * pw k
  one : ∀ k : Nat, 1 <<< k = pw k
  log : ∀ T : Nat, T ≠ 0 → pw T.log2 ≤ T ∧ T < pw (T.log2 + 1)
  v52 : pw 52 = 4503599627370496
theorem pw_two : Pw (fun n => 2 ^ n) := ⟨fun n => Nat.pow_pos (by decide : 0 < 2), fun a b => Nat.pow_add 2 a b, fun a => Nat.pow_succ 2 a, rfl, fun h => Nat.pow_le_pow_right (by decide) h, fun m k => Nat.shiftLeft_eq m k, fun k => Nat.one_shiftLeft k, fun T hT => (Nat.log2_eq_iff hT).1 rfl, by decide⟩

theorem cmp_scale (u v p : Nat) (hp : 0 < p) : compare ((u : Nat) : Int) ((v : Nat) : Int) = compare (u * p) (v * p) := by
  rcases Nat.lt_trichotomy u v with h | h | h
  · rw [Nat.compare_eq_lt.2 (Nat.mul_lt_mul_of_pos_right h hp)]
    exact Int.compare_eq_lt.2 (by omega)
  · subst h
    rw [Nat.compare_eq_eq.2 rfl]
    exact Int.compare_eq_eq.2 rfl
  · rw [Nat.compare_eq_gt.2 (Nat.mul_lt_mul_of_pos_right h hp)]
    exact Int.compare_eq_gt.2 (by omega)

/-- numbers that are not below 0 stand to each other as their multiples of the least place do -/
theorem ord_val {pw : Nat → Nat} (H : Pw pw) (m n : Nat) (i j : Int) (hi : -1074 ≤ i) (hj : -1074 ≤ j) : (Datum.number false m i).order (.number false n j) = some (compare (m * pw (i + 1074).toNat) (n * pw (j + 1074).toNat)) := by
  simp only [Datum.order]
  obtain ⟨b, hb⟩ : ∃ b, b = min i j := ⟨_, rfl⟩
  rw [← hb]
  have e1 : (i + 1074).toNat = (i - b).toNat + (b + 1074).toNat := by omega
  have e2 : (j + 1074).toNat = (j - b).toNat + (b + 1074).toNat := by omega
  rw [e1, e2, H.add, H.add, ← Nat.mul_assoc, ← Nat.mul_assoc]
  unfold signed
  rw [if_neg (by decide), if_neg (by decide), H.shl, H.shl, cmp_scale _ _ _ (H.pos _)]

theorem read_zero : double.read 0 = .number false 0 (-1074) := rfl
/-- where a number stands to 0 -/
theorem ord_zero {pw : Nat → Nat} (H : Pw pw) (s : Bool) (m : Nat) (i : Int) : (Datum.number s m i).order (.number false 0 (-1074)) = some (if m = 0 then .eq else if s then .lt else .gt) := by
  simp only [Datum.order]
  generalize (i - min i (-1074)).toNat = k
  generalize (-1074 - min i (-1074)).toNat = l
  unfold signed
  rw [if_neg (by decide : ¬ false = true), H.shl, H.shl, Nat.zero_mul]
  have hp : 0 < pw k := H.pos _
  by_cases h : m = 0
  · subst h
    rw [Nat.zero_mul, if_pos rfl]
    cases s <;> rfl
  · have hm : 0 < m * pw k := Nat.mul_pos (by omega) hp
    generalize m * pw k = u at hm
    rw [if_neg h]
    congr 1
    cases s
    · rw [if_neg (by decide), if_neg (by decide)]
      exact Int.compare_eq_gt.2 (by omega)
    · rw [if_pos rfl, if_pos rfl]
      exact Int.compare_eq_lt.2 (by omega)

theorem fl_lim : fl 1099511627776 = 4787326403894837248 := by decide +kernel
/-- the limit, read -/
theorem read_lim : double.read 4787326403894837248 = .number false 4503599627370496 (-12) := by decide +kernel
/-- a word above the limit's stands above the limit -/
theorem word_gt {pw : Nat → Nat} (H : Pw pw) (r : Nat) (h1 : 4787326403894837248 < r) (h2 : r ≤ 9218868437227405312) : double.order r 4787326403894837248 = some .gt := by
  unfold Format.order
  have hm : r % 9223372036854775808 = r := Nat.mod_eq_of_lt (by omega)
  have hz : r / 9223372036854775808 = 0 := Nat.div_eq_of_lt (by omega)
  rw [read_lim, dread, hm, hz, if_neg (by omega)]
  by_cases h : r < 9218868437227405312
  · rw [if_pos h]
    have e : ((0 % 2 == 1 : Bool)) = false := rfl
    rw [e, ord_val H _ _ _ _ (by omega) (by omega)]
    congr 1
    apply Nat.compare_eq_gt.2
    have hd : 1063 ≤ r / 4503599627370496 := by omega
    obtain ⟨q, hq⟩ : ∃ q, r / 4503599627370496 = 1063 + q := ⟨r / 4503599627370496 - 1063, by omega⟩
    have e1 : ((-1074 : Int) + ((r / 4503599627370496 - 1 : Nat) : Int) + 1074).toNat = q + 1062 := by omega
    have e2 : ((-12 : Int) + 1074).toNat = 1062 := by decide
    rw [e1, e2, H.add, ← Nat.mul_assoc]
    have hP := H.pos 1062
    generalize pw 1062 = P at hP ⊢
    refine Nat.mul_lt_mul_of_pos_right ?_ hP
    by_cases hz : q = 0
    · subst hz
      rw [H.zero, Nat.mul_one]
      omega
    · obtain ⟨t, rfl⟩ : ∃ t, q = t + 1 := ⟨q - 1, by omega⟩
      rw [H.succ]
      have hp : 1 ≤ pw t := H.pos _
      generalize pw t = p at hp
      have : (4503599627370496 + r % 4503599627370496) * 1 ≤ (4503599627370496 + r % 4503599627370496) * p := Nat.mul_le_mul_left _ hp
      rw [← Nat.mul_assoc]
      generalize (4503599627370496 + r % 4503599627370496) * p = z at *
      omega
  · rw [if_neg h, if_pos (by omega)]
    rfl

/-- cut numbers are no smaller than what is whole of them -/
theorem cut_ge {pw : Nat → Nat} (H : Pw pw) (way : Toward) (neg : Bool) (n drop q : Nat) (h : q * pw drop ≤ n) : q ≤ way.cut neg n drop := by
  unfold Toward.cut
  simp only [H.one]
  have hg : pw (min drop (n.log2 + 2)) ≤ pw drop := H.le (Nat.min_le_left _ _)
  have hp : 0 < pw (min drop (n.log2 + 2)) := H.pos _
  have : q ≤ n / pw (min drop (n.log2 + 2)) := (Nat.le_div_iff_mul_le hp).2 (Nat.le_trans (Nat.mul_le_mul_left _ hg) h)
  omega

/-- a number above the limit by a step at least: its word is above the limit's -/
theorem nearest_gt {pw : Nat → Nat} (H : Pw pw) (T : Nat) (base : Int) (hb : -1074 ≤ base) (h : 4503599627370497 * pw 1062 ≤ T * pw (base + 1074).toNat) :
    4787326403894837248 < double.nearest false T base ∧ double.nearest false T base ≤ 9218868437227405312 := by
  have hT : T ≠ 0 := by
    rintro rfl
    rw [Nat.zero_mul] at h
    have := H.pos 1062
    generalize pw 1062 = P at *
    omega
  obtain ⟨lo, hi⟩ : pw T.log2 ≤ T ∧ T < pw (T.log2 + 1) := H.log T hT
  have he : 40 ≤ base + (T.log2 : Int) := by
    refine Classical.byContradiction fun hn => ?_
    have h1 : T * pw (base + 1074).toNat < pw (T.log2 + 1) * pw (base + 1074).toNat := Nat.mul_lt_mul_of_pos_right hi (H.pos _)
    rw [← H.add] at h1
    have h2 : pw (T.log2 + 1 + (base + 1074).toNat) ≤ pw (52 + 1062) := H.le (by omega)
    rw [H.add 52 1062, H.v52] at h2
    have := H.pos 1062
    generalize pw 1062 = P at *
    generalize T * pw (base + 1074).toNat = u at *
    generalize pw (T.log2 + 1 + (base + 1074).toNat) = v at *
    omega
  unfold Format.nearest
  rw [if_neg hT]
  have hl : max (base + (T.log2 : Int) - (double.fractionBits : Int)) double.leastPlace = base + (T.log2 : Int) - 52 := by
    rw [dbl_lp]
    show max (base + (T.log2 : Int) - ((52 : Nat) : Int)) (-1074) = _
    omega
  simp only [hl]
  simp only [dbl_bi, dbl_in, dbl_lp, Format.word]
  rw [if_neg (by decide)]
  refine ⟨?_, Nat.min_le_right _ _⟩
  obtain ⟨e, hee⟩ : ∃ e : Nat, base + (T.log2 : Int) - 52 = (e : Int) - 12 := ⟨(base + (T.log2 : Int) - 40).toNat, by omega⟩
  rw [hee]
  have e1 : ((e : Int) - 12 - -1074).toNat = e + 1062 := by omega
  rw [e1]
  have hkeep : 4503599627370496 ≤ Toward.even.cut false (T <<< (base - ((e : Int) - 12)).toNat) ((e : Int) - 12 - base).toNat := by
    apply cut_ge H
    rw [H.shl]
    have hpow : pw (52 + ((e : Int) - 12 - base).toNat) ≤ pw (T.log2 + (base - ((e : Int) - 12)).toNat) := H.le (by omega)
    rw [H.add, H.add T.log2, H.v52] at hpow
    exact Nat.le_trans hpow (Nat.mul_le_mul_right _ lo)
  by_cases h0 : e = 0
  · subst h0
    have hk2 : 4503599627370497 ≤ Toward.even.cut false (T <<< (base - (((0 : Nat) : Int) - 12)).toNat) (((0 : Nat) : Int) - 12 - base).toNat := by
      apply cut_ge H
      rw [H.shl]
      have hp := H.pos (1062 - (((0 : Nat) : Int) - 12 - base).toNat)
      refine Nat.le_of_mul_le_mul_right ?_ hp
      rw [Nat.mul_assoc, ← H.add, Nat.mul_assoc, ← H.add]
      rw [show (((0 : Nat) : Int) - 12 - base).toNat + (1062 - (((0 : Nat) : Int) - 12 - base).toNat) = 1062 from by omega, show (base - (((0 : Nat) : Int) - 12)).toNat + (1062 - (((0 : Nat) : Int) - 12 - base).toNat) = (base + 1074).toNat from by omega]
      exact h
    generalize Toward.even.cut false (T <<< (base - (((0 : Nat) : Int) - 12)).toNat) (((0 : Nat) : Int) - 12 - base).toNat = kept at *
    omega
  · generalize Toward.even.cut false (T <<< (base - ((e : Int) - 12)).toNat) ((e : Int) - 12 - base).toNat = kept at *
    clear h
    omega

/-- a number above the limit, by a step -/
theorem above_step {pw : Nat → Nat} (H : Pw pw) (m : Nat) (i : Int) (hm : m < 9007199254740992) (h : 4503599627370496 * pw 1062 < m * pw (i + 1074).toNat) : 4503599627370497 * pw 1062 ≤ m * pw (i + 1074).toNat := by
  have hi : -12 ≤ i := by
    refine Classical.byContradiction fun hn => ?_
    have h1 : pw (i + 1074).toNat ≤ pw 1061 := H.le (by omega)
    have h2 : m * pw (i + 1074).toNat ≤ m * pw 1061 := Nat.mul_le_mul_left _ h1
    rw [H.succ 1061] at h
    generalize pw (i + 1074).toNat = Q at *
    have h3 : m * pw 1061 ≤ 9007199254740991 * pw 1061 := Nat.mul_le_mul_right _ (by omega)
    have := H.pos 1061
    generalize pw 1061 = P at *
    generalize m * Q = u at *
    generalize m * P = v at *
    omega
  rw [show (i + 1074).toNat = (i + 12).toNat + 1062 from by omega, H.add, ← Nat.mul_assoc] at h ⊢
  have := Nat.lt_of_mul_lt_mul_right h
  exact Nat.mul_le_mul_right _ this

/-- not below 0, and no NaN -/
def PosD (d : Datum) : Prop := d = .infinity false ∨ ∃ m i, d = .number false m i ∧ -1074 ≤ i ∧ m < 9007199254740992
/-- above the limit -/
def BigD (pw : Nat → Nat) (d : Datum) : Prop := d = .infinity false ∨ ∃ m i, d = .number false m i ∧ -1074 ≤ i ∧ m < 9007199254740992 ∧ 4503599627370496 * pw 1062 < m * pw (i + 1074).toNat
theorem BigD.pos {pw : Nat → Nat} {d : Datum} (h : BigD pw d) : PosD d := by
  rcases h with h | ⟨m, i, h, h1, h2, _⟩
  · exact .inl h
  · exact .inr ⟨m, i, h, h1, h2⟩

theorem sum_num {pw : Nat → Nat} (H : Pw pw) (m n : Nat) (i j : Int) (hi : -1074 ≤ i) (hj : -1074 ≤ j) : ∃ T base, -1074 ≤ base ∧ (Datum.number false m i).sum (.number false n j) = some (.number false T base) ∧ T * pw (base + 1074).toNat = m * pw (i + 1074).toNat + n * pw (j + 1074).toNat := by
  refine ⟨m * pw (i - min i j).toNat + n * pw (j - min i j).toNat, min i j, by omega, ?_, ?_⟩
  · simp only [Datum.sum]
    have e : signed false m (i - min i j).toNat + signed false n (j - min i j).toNat = ((m * pw (i - min i j).toNat + n * pw (j - min i j).toNat : Nat) : Int) := by
      unfold signed
      rw [if_neg (by decide), if_neg (by decide), H.shl, H.shl]
      exact (Int.natCast_add _ _).symm
    simp only [e]
    generalize m * pw (i - min i j).toNat + n * pw (j - min i j).toNat = u
    congr 2
    split
    · rfl
    · exact decide_eq_false (by omega)
  · rw [Nat.add_mul, Nat.mul_assoc, Nat.mul_assoc, ← H.add, ← H.add, show (i - min i j).toNat + (min i j + 1074).toNat = (i + 1074).toNat from by omega, show (j - min i j).toNat + (min i j + 1074).toNat = (j + 1074).toNat from by omega]

/-- a sum of two that are not below 0, one of them above the limit, is above the limit -/
theorem sum_big {pw : Nat → Nat} (H : Pw pw) (x y : Nat) (hx : PosD (double.read x)) (hy : PosD (double.read y)) (h : BigD pw (double.read x) ∨ BigD pw (double.read y)) :
    ∃ r, double.add x y = some r ∧ double.order r 4787326403894837248 = some .gt := by
  have hinf : ∀ d : Datum, d = .infinity false → double.write d = 9218868437227405312 := by
    rintro d rfl
    rfl
  have hg := word_gt H 9218868437227405312 (by decide) (by decide)
  unfold Format.add
  generalize double.read x = d at *
  generalize double.read y = e at *
  rcases hx with rfl | ⟨m, i, rfl, hi, hm⟩
  · rcases hy with rfl | ⟨n, j, rfl, hj, hn⟩
    · exact ⟨_, rfl, by rw [hinf _ rfl]; exact hg⟩
    · exact ⟨_, rfl, by rw [hinf _ rfl]; exact hg⟩
  · rcases hy with rfl | ⟨n, j, rfl, hj, hn⟩
    · exact ⟨_, rfl, by rw [hinf _ rfl]; exact hg⟩
    · obtain ⟨T, base, hb, hs, hT⟩ := sum_num H m n i j hi hj
      rw [hs, Option.map_some]
      have hge : 4503599627370497 * pw 1062 ≤ T * pw (base + 1074).toNat := by
        rw [hT]
        rcases h with h | h
        · rcases h with h | ⟨m', i', h, _, _, hlt⟩
          · cases h
          · cases h
            exact Nat.le_trans (above_step H m i hm hlt) (Nat.le_add_right _ _)
        · rcases h with h | ⟨m', i', h, _, _, hlt⟩
          · cases h
          · cases h
            exact Nat.le_trans (above_step H n j hn hlt) (Nat.le_add_left _ _)
      obtain ⟨h1, h2⟩ := nearest_gt H T base hb hge
      exact ⟨_, rfl, word_gt H _ h1 h2⟩

/-- two whole numbers are added as such, whatever their words -/
theorem add_isN (x y a b : Nat) (ha : IsN (double.read x) a) (hb : IsN (double.read y) b) (h : a + b < 2 ^ 53) : double.add x y = some (fl (a + b)) := by
  obtain ⟨r, hs, s, rfl, hle⟩ := sum_isN ha hb
  unfold Format.add
  rw [hs, Option.map_some]
  congr 1
  show double.nearest false ((a + b) * 2 ^ s) (-(s : Int)) = _
  by_cases h0 : a + b = 0
  · rw [h0, Nat.zero_mul, fl_zero]
    rfl
  · rw [nearest_up _ _ h h0 hle, fl_eq _ h h0]

theorem cut_le (m k : Nat) : Toward.down.cut false m k ≤ m ∧ Toward.zero.cut false m k = Toward.down.cut false m k := by
  unfold Toward.cut
  constructor
  · show m / (1 <<< min k (m.log2 + 2)) + (false && _ : Bool).toNat ≤ m
    rw [Bool.false_and]
    exact Nat.div_le_self _ _
  · show m / (1 <<< min k (m.log2 + 2)) + (false : Bool).toNat = m / (1 <<< min k (m.log2 + 2)) + (false && _ : Bool).toNat
    rw [Bool.false_and]

theorem isN_of_order {pw : Nat → Nat} (H : Pw pw) (hp : ∀ n, pw n = 2 ^ n) (N m : Nat) (i : Int) (hN : N < 2 ^ 53) (hi : -1074 ≤ i) (hi0 : i ≤ 0) (h : (double.read (fl N)).order (.number false m i) = some .eq) : IsN (.number false m i) N := by
  obtain ⟨t, ht, hle⟩ := read_fl N hN
  rw [ht, ord_val H _ _ _ _ (by omega) hi] at h
  have h := Nat.compare_eq_eq.1 (Option.some.inj h)
  refine ⟨(-i).toNat, ?_, by omega⟩
  rw [← hp t, Nat.mul_assoc, ← H.add, show t + (-(t : Int) + 1074).toNat = (-i).toNat + (i + 1074).toNat from by omega, H.add, ← Nat.mul_assoc] at h
  have h2 := Nat.eq_of_mul_eq_mul_right (H.pos _) h
  rw [← hp, h2]
  congr 1
  omega

/-- what the words of 64 bits are -/
def Whole (x m : Nat) (i : Int) (N : Nat) : Prop := double.order (fl N) x = some .eq ∧ IsN (double.read x) N ∧ N ≤ 1099511627776 ∧ (N = 0 → x = 0)
structure Low (x m : Nat) (i : Int) (N : Nat) : Prop where
  lt : x < 9223372036854775808
  zero : double.order x 0 = some .gt ∨ double.order x 0 = some .eq
  lim : double.order x 4787326403894837248 = some .lt ∨ double.order x 4787326403894837248 = some .eq
  self : double.order x x = some .eq
  read : double.read x = .number false m i
  cut : (Datum.number false m i).integral .down = .number false N 0
  int : floatToIntVal .f64 x .i64 = some (N : Int)
  n : N < 2 ^ 53
  pos : PosD (double.read x)
  whole : Whole x m i N ∨ double.order (fl N) x = some .lt ∨ double.order (fl N) x = some .gt
structure Above (pw : Nat → Nat) (x : Nat) : Prop where
  lt : x < 9223372036854775808
  zero : double.order x 0 = some .gt
  lim : double.order x 4787326403894837248 = some .gt
  big : BigD pw (double.read x)

theorem low_of {pw : Nat → Nat} (H : Pw pw) (hp : ∀ n, pw n = 2 ^ n) (x m : Nat) (i : Int) (hr : double.read x = .number false m i) (hi : -1074 ≤ i) (hm : m < 9007199254740992) (hlt : x < 9223372036854775808) (h52 : -1074 < i → 4503599627370496 ≤ m) (h0 : m = 0 → x % 9223372036854775808 = 0) (hl : m * pw (i + 1074).toNat ≤ 4503599627370496 * pw 1062) : ∃ N, Low x m i N := by
  have hi0 : i ≤ -12 := by
    refine Classical.byContradiction fun hn => ?_
    have h1 := h52 (by omega)
    have h2 : pw 1063 ≤ pw (i + 1074).toNat := H.le (by omega)
    have h3 : 4503599627370496 * pw 1063 ≤ m * pw (i + 1074).toNat := Nat.mul_le_mul h1 h2
    rw [H.succ 1062] at h3
    have := H.pos 1062
    generalize m * pw (i + 1074).toNat = u at *
    generalize pw 1062 = P at *
    omega
  obtain ⟨N, hN⟩ : ∃ N, Toward.down.cut false m (-i).toNat = N := ⟨_, rfl⟩
  have hc := cut_le m (-i).toNat
  rw [hN] at hc
  have hcut : ∀ way : Toward, (Datum.number false m i).integral way = .number false (way.cut false m (-i).toNat) 0 := by
    intro way
    simp only [Datum.integral]
    rw [show i.toNat = 0 from by omega, Nat.shiftLeft_zero]
  have hN53 : N < 2 ^ 53 := by
    have : (2 : Nat) ^ 53 = 9007199254740992 := by decide
    omega
  have hlim : double.order x 4787326403894837248 = some .lt ∨ double.order x 4787326403894837248 = some .eq := by
    unfold Format.order
    rw [hr, read_lim, ord_val H _ _ _ _ hi (by decide), show ((-12 : Int) + 1074).toNat = 1062 from by decide]
    rcases Nat.lt_or_eq_of_le hl with h | h
    · exact .inl (congrArg some (Nat.compare_eq_lt.2 h))
    · exact .inr (congrArg some (Nat.compare_eq_eq.2 h))
  refine ⟨N, hlt, ?_, hlim, ?_, hr, ?_, ?_, hN53, .inr ⟨m, i, hr, hi, hm⟩, ?_⟩
  · unfold Format.order
    rw [hr, read_zero, ord_zero H]
    by_cases h : m = 0
    · rw [if_pos h]
      exact .inr rfl
    · rw [if_neg h]
      exact .inl rfl
  · unfold Format.order
    rw [hr, ord_val H _ _ _ _ hi hi, Nat.compare_eq_eq.2 rfl]
  · rw [hcut, hN]
  · unfold floatToIntVal
    show (match (double.read x).toInt .zero with | some n => if IntKind.i64.min ≤ n ∧ n ≤ IntKind.i64.max then some n else none | none => none) = _
    have : (double.read x).toInt .zero = some (N : Int) := by
      rw [hr]
      unfold Datum.toInt
      rw [hcut, hc.2]
      rfl
    rw [this]
    have hb : IntKind.i64.min ≤ (N : Int) ∧ (N : Int) ≤ IntKind.i64.max := by
      have e1 : IntKind.i64.min = -9223372036854775808 := by decide
      have e2 : IntKind.i64.max = 9223372036854775807 := by decide
      rw [e1, e2]
      omega
    exact if_pos hb
  · have ho : ∃ o, double.order (fl N) x = some o := by
      obtain ⟨t, ht, _⟩ := read_fl N hN53
      unfold Format.order
      rw [hr, ht]
      exact ⟨_, rfl⟩
    obtain ⟨o, ho⟩ := ho
    cases o
    · exact .inr (.inl ho)
    · left
      have hn : IsN (double.read x) N := by
        rw [hr]
        refine isN_of_order H hp N m i hN53 hi (by omega) ?_
        rw [← hr]
        exact ho
      refine ⟨ho, hn, ?_, ?_⟩
      · have hl2 := order_isN hn (read_fl 1099511627776 (by decide))
        rw [fl_lim] at hl2
        rcases hlim with h | h
        · rw [show double.order x 4787326403894837248 = (double.read x).order (double.read 4787326403894837248) from rfl, hl2] at h
          have := Nat.compare_eq_lt.1 (Option.some.inj h)
          omega
        · rw [show double.order x 4787326403894837248 = (double.read x).order (double.read 4787326403894837248) from rfl, hl2] at h
          have := Nat.compare_eq_eq.1 (Option.some.inj h)
          omega
      · intro hN0
        obtain ⟨s, hs, _⟩ := hn
        rw [hr] at hs
        injection hs with _ hs _
        have := h0 (by rw [hs, hN0, Nat.zero_mul])
        omega
    · exact .inr (.inr ho)

theorem word_class {pw : Nat → Nat} (H : Pw pw) (hp : ∀ n, pw n = 2 ^ n) (x : Nat) (hx : x < 18446744073709551616) :
    (double.order x 0 = none ∧ double.order x 4787326403894837248 = none ∧ double.order x x = none) ∨ double.order x 0 = some .lt ∨ x = 9223372036854775808 ∨ Above pw x ∨ ∃ m i N, Low x m i N := by
  rcases read_cases x hx with ⟨s, f, hr⟩ | ⟨s, hr, h1⟩ | ⟨s, m, i, hr, hi, hm, h1, h2, h52, h0⟩
  · left
    unfold Format.order
    rw [hr]
    exact ⟨rfl, rfl, rfl⟩
  · cases s
    · right; right; right; left
      refine ⟨h1 rfl, ?_, ?_, .inl hr⟩
      · unfold Format.order
        rw [hr, read_zero]
        rfl
      · unfold Format.order
        rw [hr, read_lim]
        rfl
    · right; left
      unfold Format.order
      rw [hr, read_zero]
      rfl
  · cases s
    · right; right; right
      rcases Nat.lt_or_ge (4503599627370496 * pw 1062) (m * pw (i + 1074).toNat) with hl | hl
      · left
        refine ⟨h1 rfl, ?_, ?_, .inr ⟨m, i, hr, hi, hm, hl⟩⟩
        · unfold Format.order
          rw [hr, read_zero, ord_zero H, if_neg ?_]
          · rfl
          · rintro rfl
            rw [Nat.zero_mul] at hl
            exact absurd hl (Nat.not_lt_zero _)
        · unfold Format.order
          rw [hr, read_lim, ord_val H _ _ _ _ hi (by decide), show ((-12 : Int) + 1074).toNat = 1062 from by decide, Nat.compare_eq_gt.2 hl]
      · right
        obtain ⟨N, h⟩ := low_of H hp x m i hr hi hm (h1 rfl) h52 h0 hl
        exact ⟨m, i, N, h⟩
    · by_cases hm0 : m = 0
      · right; right; left
        have := h0 hm0
        have := h2 rfl
        omega
      · right; left
        unfold Format.order
        rw [hr, read_zero, ord_zero H, if_neg hm0]
        rfl
end Copyhold
