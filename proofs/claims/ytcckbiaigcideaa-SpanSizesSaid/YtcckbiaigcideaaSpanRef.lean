/- The document's own answers of layer 3 over whole numbers: part, Parts, made, Both, Around, Shift; memory is as it was. -/
import Derived.Test.YtcckbiaigcideaaSpanRight
import Derived.Test.YtcckbiaigcideaaSpanShifts
set_option linter.unusedVariables false
namespace Go.Proofs.Ytcckbiaigcideaa
open Go.RowKit Copyhold

set_option maxHeartbeats 1000000 in
theorem ref_part0 (w : World) : Calls Try.prog 30 #[.float .f64 0] w fun e w' => e = .returned (.int .i64 0) ∧ w = w' := by
  have hz := order_zz
  have hlim : FloatKind.f64.format.order 0 4787326403894837248 = some .lt := by decide +kernel
  have hcv := fun W : World => run_convert_float_int (P := Try.prog) W 42 3 .f64 .i64 0 0 rfl rfl (by decide +kernel)
  have hfo : floatOfInt .f64 0 = 0 := by decide +kernel
  have hq := fun W : World => run_float_arith (P := Try.prog) W .quo 42 .f64 4607182418800017408 0 9218868437227405312 (by decide +kernel)
  have hinf : FloatKind.f64.format.order 9218868437227405312 0 = some .gt := by decide +kernel
  go_enter Try.func30, Try.ntmps30
  go_wp2_with fail
  go_ret
  exact ⟨rfl, rfl⟩

set_option maxHeartbeats 1000000 in
theorem ref_part (n : Nat) (h : n ≤ 1099511627776) (w : World) : Calls Try.prog 30 #[.float .f64 (fl n)] w fun e w' => e = .returned (.int .i64 n) ∧ w = w' := by
  by_cases h0 : n = 0
  · subst h0
    exact ref_part0 w
  · have hz := order_zero n (by omega) h0
    have hself := spanShifts.fl_self n (by omega)
    have hlim : FloatKind.f64.format.order (fl n) 4787326403894837248 = some .lt ∨ FloatKind.f64.format.order (fl n) 4787326403894837248 = some .eq := by
      have := fl_order n 1099511627776 (by omega) (by omega)
      rw [fl_limit] at this
      rcases Nat.lt_or_eq_of_le h with h1 | h1
      · rw [Nat.compare_eq_lt.2 h1] at this; exact .inl this
      · rw [Nat.compare_eq_eq.2 h1] at this; exact .inr this
    have hcv := fun W : World => run_convert_float_int (P := Try.prog) W 42 3 .f64 .i64 (fl n) n rfl rfl (fl_int n (by omega))
    have hfo := fl_conv n
    have hn0 : ((n : Int) == 0) = false := by rw [beq_eq_false_iff_ne]; omega
    rcases hlim with hlim | hlim
    all_goals
      go_enter Try.func30, Try.ntmps30
      go_wp2_with fail
      go_ret
      exact ⟨rfl, rfl⟩

theorem ref_Parts (a b : Nat) (h : a + b ≤ 1099511627776) (w : World) : Calls Try.prog 15 #[.complex .f64 (fl a) (fl b)] w fun e w' => e = .returned (.tuple #[.int .i64 a, .int .i64 b]) ∧ w = w' := by
  go_enter Try.func15, Try.ntmps15
  go_wp2_with fail
  refine (ref_part a (by omega) _).mono ?_
  rintro e w1 ⟨rfl, rfl⟩
  go_wp2_with fail
  refine (ref_part b (by omega) _).mono ?_
  rintro e w1 ⟨rfl, rfl⟩
  go_wp2_with fail
  go_ret2
  exact ⟨rfl, rfl⟩

theorem ref_made (x y : Int) (m n : Nat) (w : World) (hx : x = m) (hy : y = n) :
    Calls Try.prog 32 #[.int .i64 x, .int .i64 y] w fun e w' => e = .returned (.complex .f64 (fl m) (fl n)) ∧ w = w' := by
  subst hx hy
  have ha := fl_conv m
  have hb := fl_conv n
  go_enter Try.func32, Try.ntmps32
  go_wp2
  go_ret
  exact ⟨rfl, rfl⟩

set_option maxHeartbeats 1000000 in
theorem rboth_1 (a b c d : Nat) (w : World) (h : a + b ≤ 1099511627776) (h' : c + d ≤ 1099511627776) (p : (c : Int) ≤ a) (q : (a : Int) + b ≤ (c : Int) + d) (r : (a : Int) < (a : Int) + b) :
    Calls Try.prog 17 #[.complex .f64 (fl a) (fl b), .complex .f64 (fl c) (fl d)] w (BothIs w (some (a, b))) := by
  go_enter Try.func17, Try.ntmps17
  go_wp2_with fail
  refine (ref_Parts a b h _).mono ?_
  rintro e w1 ⟨rfl, rfl⟩
  go_wp2_with fail
  refine (ref_Parts c d h' _).mono ?_
  rintro e w1 ⟨rfl, rfl⟩
  go_wp2_with fail
  refine (ref_made _ _ a b _ rfl (by omega)).mono ?_
  rintro e w1 ⟨rfl, rfl⟩
  go_wp2_with fail
  go_ret2
  exact ⟨rfl, rfl⟩

set_option maxHeartbeats 1000000 in
theorem rboth_2 (a b c d : Nat) (w : World) (h : a + b ≤ 1099511627776) (h' : c + d ≤ 1099511627776) (p : (c : Int) ≤ a) (q : (a : Int) + b ≤ (c : Int) + d) (r : (a : Int) + b ≤ (a : Int)) :
    Calls Try.prog 17 #[.complex .f64 (fl a) (fl b), .complex .f64 (fl c) (fl d)] w (BothIs w none) := by
  go_enter Try.func17, Try.ntmps17
  go_wp2_with fail
  refine (ref_Parts a b h _).mono ?_
  rintro e w1 ⟨rfl, rfl⟩
  go_wp2_with fail
  refine (ref_Parts c d h' _).mono ?_
  rintro e w1 ⟨rfl, rfl⟩
  go_wp2_with fail
  go_ret2
  exact ⟨rfl, rfl⟩

set_option maxHeartbeats 1000000 in
theorem rboth_3 (a b c d : Nat) (w : World) (h : a + b ≤ 1099511627776) (h' : c + d ≤ 1099511627776) (p : (c : Int) ≤ a) (q : (c : Int) + d < (a : Int) + b) (r : (a : Int) < (c : Int) + d) :
    Calls Try.prog 17 #[.complex .f64 (fl a) (fl b), .complex .f64 (fl c) (fl d)] w (BothIs w (some (a, c + d - a))) := by
  go_enter Try.func17, Try.ntmps17
  go_wp2_with fail
  refine (ref_Parts a b h _).mono ?_
  rintro e w1 ⟨rfl, rfl⟩
  go_wp2_with fail
  refine (ref_Parts c d h' _).mono ?_
  rintro e w1 ⟨rfl, rfl⟩
  go_wp2_with fail
  refine (ref_made _ _ a (c + d - a) _ rfl (by omega)).mono ?_
  rintro e w1 ⟨rfl, rfl⟩
  go_wp2_with fail
  go_ret2
  exact ⟨rfl, rfl⟩

set_option maxHeartbeats 1000000 in
theorem rboth_4 (a b c d : Nat) (w : World) (h : a + b ≤ 1099511627776) (h' : c + d ≤ 1099511627776) (p : (c : Int) ≤ a) (q : (c : Int) + d < (a : Int) + b) (r : (c : Int) + d ≤ (a : Int)) :
    Calls Try.prog 17 #[.complex .f64 (fl a) (fl b), .complex .f64 (fl c) (fl d)] w (BothIs w none) := by
  go_enter Try.func17, Try.ntmps17
  go_wp2_with fail
  refine (ref_Parts a b h _).mono ?_
  rintro e w1 ⟨rfl, rfl⟩
  go_wp2_with fail
  refine (ref_Parts c d h' _).mono ?_
  rintro e w1 ⟨rfl, rfl⟩
  go_wp2_with fail
  go_ret2
  exact ⟨rfl, rfl⟩

set_option maxHeartbeats 1000000 in
theorem rboth_5 (a b c d : Nat) (w : World) (h : a + b ≤ 1099511627776) (h' : c + d ≤ 1099511627776) (p : (a : Int) < c) (q : (a : Int) + b ≤ (c : Int) + d) (r : (c : Int) < (a : Int) + b) :
    Calls Try.prog 17 #[.complex .f64 (fl a) (fl b), .complex .f64 (fl c) (fl d)] w (BothIs w (some (c, a + b - c))) := by
  go_enter Try.func17, Try.ntmps17
  go_wp2_with fail
  refine (ref_Parts a b h _).mono ?_
  rintro e w1 ⟨rfl, rfl⟩
  go_wp2_with fail
  refine (ref_Parts c d h' _).mono ?_
  rintro e w1 ⟨rfl, rfl⟩
  go_wp2_with fail
  refine (ref_made _ _ c (a + b - c) _ rfl (by omega)).mono ?_
  rintro e w1 ⟨rfl, rfl⟩
  go_wp2_with fail
  go_ret2
  exact ⟨rfl, rfl⟩

set_option maxHeartbeats 1000000 in
theorem rboth_6 (a b c d : Nat) (w : World) (h : a + b ≤ 1099511627776) (h' : c + d ≤ 1099511627776) (p : (a : Int) < c) (q : (a : Int) + b ≤ (c : Int) + d) (r : (a : Int) + b ≤ (c : Int)) :
    Calls Try.prog 17 #[.complex .f64 (fl a) (fl b), .complex .f64 (fl c) (fl d)] w (BothIs w none) := by
  go_enter Try.func17, Try.ntmps17
  go_wp2_with fail
  refine (ref_Parts a b h _).mono ?_
  rintro e w1 ⟨rfl, rfl⟩
  go_wp2_with fail
  refine (ref_Parts c d h' _).mono ?_
  rintro e w1 ⟨rfl, rfl⟩
  go_wp2_with fail
  go_ret2
  exact ⟨rfl, rfl⟩

set_option maxHeartbeats 1000000 in
theorem rboth_7 (a b c d : Nat) (w : World) (h : a + b ≤ 1099511627776) (h' : c + d ≤ 1099511627776) (p : (a : Int) < c) (q : (c : Int) + d < (a : Int) + b) (r : (c : Int) < (c : Int) + d) :
    Calls Try.prog 17 #[.complex .f64 (fl a) (fl b), .complex .f64 (fl c) (fl d)] w (BothIs w (some (c, d))) := by
  go_enter Try.func17, Try.ntmps17
  go_wp2_with fail
  refine (ref_Parts a b h _).mono ?_
  rintro e w1 ⟨rfl, rfl⟩
  go_wp2_with fail
  refine (ref_Parts c d h' _).mono ?_
  rintro e w1 ⟨rfl, rfl⟩
  go_wp2_with fail
  refine (ref_made _ _ c d _ rfl (by omega)).mono ?_
  rintro e w1 ⟨rfl, rfl⟩
  go_wp2_with fail
  go_ret2
  exact ⟨rfl, rfl⟩

set_option maxHeartbeats 1000000 in
theorem rboth_8 (a b c d : Nat) (w : World) (h : a + b ≤ 1099511627776) (h' : c + d ≤ 1099511627776) (p : (a : Int) < c) (q : (c : Int) + d < (a : Int) + b) (r : (c : Int) + d ≤ (c : Int)) :
    Calls Try.prog 17 #[.complex .f64 (fl a) (fl b), .complex .f64 (fl c) (fl d)] w (BothIs w none) := by
  go_enter Try.func17, Try.ntmps17
  go_wp2_with fail
  refine (ref_Parts a b h _).mono ?_
  rintro e w1 ⟨rfl, rfl⟩
  go_wp2_with fail
  refine (ref_Parts c d h' _).mono ?_
  rintro e w1 ⟨rfl, rfl⟩
  go_wp2_with fail
  go_ret2
  exact ⟨rfl, rfl⟩

theorem ref_Both (a b c d : Nat) (w : World) (h : a + b ≤ 1099511627776) (h' : c + d ≤ 1099511627776) :
    Calls Try.prog 17 #[.complex .f64 (fl a) (fl b), .complex .f64 (fl c) (fl d)] w (BothIs w (bothD a b c d)) := by
  rcases Nat.lt_or_ge a c with p | p <;> rcases Nat.lt_or_ge (c + d) (a + b) with q | q
  · by_cases r : c < c + d
    · have e : bothD a b c d = some (c, d) := by unfold bothD; rw [show max a c = c from by omega, show min (a + b) (c + d) = c + d from by omega, if_pos r, Nat.add_sub_cancel_left]
      rw [e]
      exact rboth_7 a b c d w h h' (by omega) (by omega) (by omega)
    · have e : bothD a b c d = none := by unfold bothD; rw [if_neg (by omega)]
      rw [e]
      exact rboth_8 a b c d w h h' (by omega) (by omega) (by omega)
  · by_cases r : c < a + b
    · have e : bothD a b c d = some (c, a + b - c) := by unfold bothD; rw [show max a c = c from by omega, show min (a + b) (c + d) = a + b from by omega, if_pos r]
      rw [e]
      exact rboth_5 a b c d w h h' (by omega) (by omega) (by omega)
    · have e : bothD a b c d = none := by unfold bothD; rw [if_neg (by omega)]
      rw [e]
      exact rboth_6 a b c d w h h' (by omega) (by omega) (by omega)
  · by_cases r : a < c + d
    · have e : bothD a b c d = some (a, c + d - a) := by unfold bothD; rw [show max a c = a from by omega, show min (a + b) (c + d) = c + d from by omega, if_pos r]
      rw [e]
      exact rboth_3 a b c d w h h' (by omega) (by omega) (by omega)
    · have e : bothD a b c d = none := by unfold bothD; rw [if_neg (by omega)]
      rw [e]
      exact rboth_4 a b c d w h h' (by omega) (by omega) (by omega)
  · by_cases r : a < a + b
    · have e : bothD a b c d = some (a, b) := by unfold bothD; rw [show max a c = a from by omega, show min (a + b) (c + d) = a + b from by omega, if_pos r, Nat.add_sub_cancel_left]
      rw [e]
      exact rboth_1 a b c d w h h' (by omega) (by omega) (by omega)
    · have e : bothD a b c d = none := by unfold bothD; rw [if_neg (by omega)]
      rw [e]
      exact rboth_2 a b c d w h h' (by omega) (by omega) (by omega)
set_option maxHeartbeats 1000000 in
theorem raround_1 (a b c : Nat) (w : World) (h : a + b ≤ 1099511627776) (h' : c + 0 ≤ 1099511627776) :
    Calls Try.prog 21 #[.complex .f64 (fl a) (fl b), .complex .f64 (fl c) (fl 0)] w (AroundIs w (a, b)) := by
  have H1 := Lib.hid (fun W => ref_Parts a b h W)
  have H2 := Lib.hid (fun W => ref_Parts c 0 h' W)
  have hfin : AroundIs w (a, b) (.returned (.complex .f64 (fl a) (fl b))) w := ⟨rfl, rfl⟩
  have HF := Lib.hid hfin
  clear hfin
  generalize fl 0 = zz at *
  go_enter Try.func21, Try.ntmps21
  go_wp2_with fail
  refine (H1.out _).mono ?_
  rintro e w1 ⟨rfl, rfl⟩
  go_wp2_with fail
  refine (H2.out _).mono ?_
  rintro e w1 ⟨rfl, rfl⟩
  go_wp2_with fail
  go_ret
  exact HF.out

set_option maxHeartbeats 1000000 in
theorem raround_2 (a c d : Nat) (w : World) (h : a + 0 ≤ 1099511627776) (h' : c + d ≤ 1099511627776) (hd : d ≠ 0) :
    Calls Try.prog 21 #[.complex .f64 (fl a) (fl 0), .complex .f64 (fl c) (fl d)] w (AroundIs w (c, d)) := by
  have H1 := Lib.hid (fun W => ref_Parts a 0 h W)
  have H2 := Lib.hid (fun W => ref_Parts c d h' W)
  have hfin : AroundIs w (c, d) (.returned (.complex .f64 (fl c) (fl d))) w := ⟨rfl, rfl⟩
  have HF := Lib.hid hfin
  have hd0 : ((d : Int) == 0) = false := by rw [beq_eq_false_iff_ne]; omega
  clear hfin
  generalize fl 0 = zz at *
  go_enter Try.func21, Try.ntmps21
  go_wp2_with fail
  refine (H1.out _).mono ?_
  rintro e w1 ⟨rfl, rfl⟩
  go_wp2_with fail
  refine (H2.out _).mono ?_
  rintro e w1 ⟨rfl, rfl⟩
  go_wp2_with fail
  go_ret
  exact HF.out

set_option maxHeartbeats 1000000 in
theorem raround_3 (a b c d : Nat) (w : World) (h : a + b ≤ 1099511627776) (h' : c + d ≤ 1099511627776) (hb : b ≠ 0) (hd : d ≠ 0) (p : (a : Int) ≤ c) (q : (c : Int) + d ≤ (a : Int) + b) :
    Calls Try.prog 21 #[.complex .f64 (fl a) (fl b), .complex .f64 (fl c) (fl d)] w (AroundIs w (a, b)) := by
  have hz : ((b : Int) == 0) = false := by rw [beq_eq_false_iff_ne]; omega
  have hz2 : ((d : Int) == 0) = false := by rw [beq_eq_false_iff_ne]; omega
  go_enter Try.func21, Try.ntmps21
  go_wp2_with fail
  refine (ref_Parts a b h _).mono ?_
  rintro e w1 ⟨rfl, rfl⟩
  go_wp2_with fail
  refine (ref_Parts c d h' _).mono ?_
  rintro e w1 ⟨rfl, rfl⟩
  go_wp2_with fail
  refine (ref_made _ _ a b _ rfl (by omega)).mono ?_
  rintro e w1 ⟨rfl, rfl⟩
  go_wp2_with fail
  go_ret
  exact ⟨rfl, rfl⟩

set_option maxHeartbeats 1000000 in
theorem raround_4 (a b c d : Nat) (w : World) (h : a + b ≤ 1099511627776) (h' : c + d ≤ 1099511627776) (hb : b ≠ 0) (hd : d ≠ 0) (p : (a : Int) ≤ c) (q : (a : Int) + b < (c : Int) + d) :
    Calls Try.prog 21 #[.complex .f64 (fl a) (fl b), .complex .f64 (fl c) (fl d)] w (AroundIs w (a, (c + d - a))) := by
  have hz : ((b : Int) == 0) = false := by rw [beq_eq_false_iff_ne]; omega
  have hz2 : ((d : Int) == 0) = false := by rw [beq_eq_false_iff_ne]; omega
  go_enter Try.func21, Try.ntmps21
  go_wp2_with fail
  refine (ref_Parts a b h _).mono ?_
  rintro e w1 ⟨rfl, rfl⟩
  go_wp2_with fail
  refine (ref_Parts c d h' _).mono ?_
  rintro e w1 ⟨rfl, rfl⟩
  go_wp2_with fail
  refine (ref_made _ _ a (c + d - a) _ rfl (by omega)).mono ?_
  rintro e w1 ⟨rfl, rfl⟩
  go_wp2_with fail
  go_ret
  exact ⟨rfl, rfl⟩

set_option maxHeartbeats 1000000 in
theorem raround_5 (a b c d : Nat) (w : World) (h : a + b ≤ 1099511627776) (h' : c + d ≤ 1099511627776) (hb : b ≠ 0) (hd : d ≠ 0) (p : (c : Int) < a) (q : (c : Int) + d ≤ (a : Int) + b) :
    Calls Try.prog 21 #[.complex .f64 (fl a) (fl b), .complex .f64 (fl c) (fl d)] w (AroundIs w (c, (a + b - c))) := by
  have hz : ((b : Int) == 0) = false := by rw [beq_eq_false_iff_ne]; omega
  have hz2 : ((d : Int) == 0) = false := by rw [beq_eq_false_iff_ne]; omega
  go_enter Try.func21, Try.ntmps21
  go_wp2_with fail
  refine (ref_Parts a b h _).mono ?_
  rintro e w1 ⟨rfl, rfl⟩
  go_wp2_with fail
  refine (ref_Parts c d h' _).mono ?_
  rintro e w1 ⟨rfl, rfl⟩
  go_wp2_with fail
  refine (ref_made _ _ c (a + b - c) _ rfl (by omega)).mono ?_
  rintro e w1 ⟨rfl, rfl⟩
  go_wp2_with fail
  go_ret
  exact ⟨rfl, rfl⟩

set_option maxHeartbeats 1000000 in
theorem raround_6 (a b c d : Nat) (w : World) (h : a + b ≤ 1099511627776) (h' : c + d ≤ 1099511627776) (hb : b ≠ 0) (hd : d ≠ 0) (p : (c : Int) < a) (q : (a : Int) + b < (c : Int) + d) :
    Calls Try.prog 21 #[.complex .f64 (fl a) (fl b), .complex .f64 (fl c) (fl d)] w (AroundIs w (c, d)) := by
  have hz : ((b : Int) == 0) = false := by rw [beq_eq_false_iff_ne]; omega
  have hz2 : ((d : Int) == 0) = false := by rw [beq_eq_false_iff_ne]; omega
  go_enter Try.func21, Try.ntmps21
  go_wp2_with fail
  refine (ref_Parts a b h _).mono ?_
  rintro e w1 ⟨rfl, rfl⟩
  go_wp2_with fail
  refine (ref_Parts c d h' _).mono ?_
  rintro e w1 ⟨rfl, rfl⟩
  go_wp2_with fail
  refine (ref_made _ _ c d _ rfl (by omega)).mono ?_
  rintro e w1 ⟨rfl, rfl⟩
  go_wp2_with fail
  go_ret
  exact ⟨rfl, rfl⟩

theorem ref_Around (a b c d : Nat) (w : World) (h : a + b ≤ 1099511627776) (h' : c + d ≤ 1099511627776) :
    Calls Try.prog 21 #[.complex .f64 (fl a) (fl b), .complex .f64 (fl c) (fl d)] w (AroundIs w (aroundD a b c d)) := by
  by_cases hd : d = 0
  · subst hd
    have e : aroundD a b c 0 = (a, b) := if_pos rfl
    rw [e]
    exact raround_1 a b c w h h'
  · by_cases hb : b = 0
    · subst hb
      have e : aroundD a 0 c d = (c, d) := by unfold aroundD; rw [if_neg hd, if_pos rfl]
      rw [e]
      exact raround_2 a c d w h h' hd
    · have e : aroundD a b c d = (min a c, max (a + b) (c + d) - min a c) := by unfold aroundD; rw [if_neg hd, if_neg hb]
      rw [e]
      rcases Nat.lt_or_ge c a with p | p <;> rcases Nat.lt_or_ge (a + b) (c + d) with q | q
      · rw [show min a c = c from by omega, show max (a + b) (c + d) = c + d from by omega, show c + d - c = d from by omega]
        exact raround_6 a b c d w h h' hb hd (by omega) (by omega)
      · rw [show min a c = c from by omega, show max (a + b) (c + d) = a + b from by omega]
        exact raround_5 a b c d w h h' hb hd (by omega) (by omega)
      · rw [show min a c = a from by omega, show max (a + b) (c + d) = c + d from by omega]
        exact raround_4 a b c d w h h' hb hd (by omega) (by omega)
      · rw [show min a c = a from by omega, show max (a + b) (c + d) = a + b from by omega, show a + b - a = b from by omega]
        exact raround_3 a b c d w h h' hb hd (by omega) (by omega)

set_option maxHeartbeats 1000000 in
theorem ref_Shift (a b : Nat) (z : Int) (w : World) (h : a + b ≤ 1099511627776) (h1 : -9223372036854775808 ≤ z) (h2 : z ≤ 9223372036854775807) :
    Calls Try.prog 19 #[.complex .f64 (fl a) (fl b), .int .i64 z] w fun e w' => e = .returned (match shiftD a b z with
      | some (x, y) => .tuple #[.complex .f64 (fl x) (fl y), .int .i64 0]
      | none => .tuple #[.complex .f64 0 0, .int .i64 1]) ∧ w = w' := by
  rcases (show z < -1099511627776 ∨ -1099511627776 ≤ z ∧ 1099511627776 < z ∨ -1099511627776 ≤ z ∧ z ≤ 1099511627776 ∧ (a : Int) + z < 0 ∨ -1099511627776 ≤ z ∧ z ≤ 1099511627776 ∧ 0 ≤ (a : Int) + z ∧ (1099511627776 : Int) - b < (a : Int) + z ∨ -1099511627776 ≤ z ∧ z ≤ 1099511627776 ∧ 0 ≤ (a : Int) + z ∧ (a : Int) + z ≤ 1099511627776 - (b : Int) from by omega) with q | ⟨q, q'⟩ | ⟨q, q', q2⟩ | ⟨q, q', q2, q3⟩ | ⟨q, q', q2, q3⟩
  case inr.inr.inr.inr =>
    obtain ⟨x, hx⟩ := Int.eq_ofNat_of_zero_le q2
    have hs : shiftD a b z = some (x, b) := by unfold shiftD; rw [if_pos (by omega), hx]; rfl
    rw [hs]
    have HX := Lib.hid hx
    clear hx hs
    go_enter Try.func19, Try.ntmps19
    go_wp2_with fail
    refine (ref_Parts a b h _).mono ?_
    rintro e w1 ⟨rfl, rfl⟩
    go_wp2_with fail
    refine (ref_made _ _ x b _ HX.out rfl).mono ?_
    rintro e w1 ⟨rfl, rfl⟩
    go_wp2_with fail
    go_ret2
    exact ⟨rfl, rfl⟩
  all_goals
    have hs : shiftD a b z = none := by unfold shiftD; rw [if_neg (by omega)]
    rw [hs]
    clear hs
    go_enter Try.func19, Try.ntmps19
    go_wp2_with fail
    refine (ref_Parts a b h _).mono ?_
    rintro e w1 ⟨rfl, rfl⟩
    go_wp2_with fail
    go_ret2
    exact ⟨rfl, rfl⟩
end Go.Proofs.Ytcckbiaigcideaa
