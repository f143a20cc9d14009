/- span.whole, span.Right and the document's own part and Right over whatever words of 64 bits; memory is as it was. -/
import Derived.Test.YtcckbiaigcideaaSpanRef
import Derived.Test.YtcckbiaigcideaaFloatAny
set_option linter.unusedVariables false
namespace Go.Proofs.Ytcckbiaigcideaa
open Go.RowKit Copyhold

theorem sign_lo (x : Nat) (hl : x < 9223372036854775808) (w : World) : Calls Try.prog 42 #[.float .f64 x] w fun e w' => e = .returned (.bool false) ∧ w = w' := by
  have hb := run_bits x
  go_enter Try.func42, Try.ntmps42
  go_wp2_with fail
  go_ret
  exact ⟨rfl, rfl⟩
theorem sign_hi (w : World) : Calls Try.prog 42 #[.float .f64 9223372036854775808] w fun e w' => e = .returned (.bool true) ∧ w = w' := by
  have hb := run_bits 9223372036854775808
  go_enter Try.func42, Try.ntmps42
  go_wp2_with fail
  go_ret
  exact ⟨congrArg (fun b => Ending.returned (Value.bool b)) (by decide +kernel : decide (wrap64 9223372036854775808 < 0) = true), rfl⟩
theorem floor_any (x f : Nat) (hb : ∀ W : World, (callFunc 48 #[.float .f64 x]).run Try.prog W = .ok (.value (.float .f64 f)) W) (w : World) : Calls Try.prog 43 #[.float .f64 x] w fun e w' => e = .returned (.float .f64 f) ∧ w = w' := by
  go_enter Try.func43, Try.ntmps43
  go_wp2_with fail
  go_ret
  exact ⟨rfl, rfl⟩

theorem floor_run_inf (x : Nat) (s : Bool) (W : World) (h : FloatKind.f64.decode x = .infinity s) :
    (Extern.MathFloor.toIntegral "math.archFloor" .down #[.float .f64 x]).run Try.prog W = .ok (.float .f64 (FloatKind.f64.encode (.infinity s))) W := by
  show (Extern.MathFloor.toIntegral.match_1 (fun _ => Sem Value) (FloatKind.f64.decode x) _ _ : Sem Value).run Try.prog W = _
  rw [h]
  rfl
theorem arch_num (x m : Nat) (i : Int) (hr : Ieee.double.read x = .number false m i) (W : World) : (callFunc 48 #[.float .f64 x]).run Try.prog W = .ok (.value (.float .f64 (FloatKind.f64.encode ((Ieee.Datum.number false m i).integral .down)))) W := by
  rw [run_callFunc_extern (e := Extern.MathFloor.toIntegral "math.archFloor" .down) Try.func48 (by kernel_rfl) (by kernel_rfl) (by kernel_rfl) (by kernel_rfl)]
  rw [floor_run x _ _ W hr]
  rfl
theorem arch_inf (x : Nat) (hr : Ieee.double.read x = .infinity false) (W : World) : (callFunc 48 #[.float .f64 x]).run Try.prog W = .ok (.value (.float .f64 (FloatKind.f64.encode (.infinity false)))) W := by
  rw [run_callFunc_extern (e := Extern.MathFloor.toIntegral "math.archFloor" .down) Try.func48 (by kernel_rfl) (by kernel_rfl) (by kernel_rfl) (by kernel_rfl)]
  rw [floor_run_inf x _ W hr]
  rfl

/-- no number, or below 0 -/
theorem whole_no (x : Nat) (h : FloatKind.f64.format.order x 0 = none ∨ FloatKind.f64.format.order x 0 = some .lt) (w : World) : Calls Try.prog 33 #[.float .f64 x] w fun e w' => e = .returned (.bool false) ∧ w = w' := by
  rcases h with h | h
  all_goals
    go_enter Try.func33, Try.ntmps33
    go_wp2_with fail
    go_ret
    exact ⟨rfl, rfl⟩
theorem whole_neg0 (w : World) : Calls Try.prog 33 #[.float .f64 9223372036854775808] w fun e w' => e = .returned (.bool false) ∧ w = w' := by
  have h : FloatKind.f64.format.order 9223372036854775808 0 = some .eq := by decide +kernel
  go_enter Try.func33, Try.ntmps33
  go_wp2_with fail
  refine (sign_hi _).mono ?_
  rintro e w1 ⟨rfl, rfl⟩
  go_wp2_with fail
  go_ret
  exact ⟨rfl, rfl⟩
theorem whole_one (x f : Nat) (b : Bool) (hl : x < 9223372036854775808) (hz : FloatKind.f64.format.order x 0 = some .gt ∨ FloatKind.f64.format.order x 0 = some .eq)
    (hb : ∀ W : World, (callFunc 48 #[.float .f64 x]).run Try.prog W = .ok (.value (.float .f64 f)) W)
    (ho : Op.floatEq .f64 f x = b) (w : World) : Calls Try.prog 33 #[.float .f64 x] w fun e w' => e = .returned (.bool b) ∧ w = w' := by
  have HF := Lib.hid (fun W => floor_any x f hb W)
  have HS := Lib.hid (fun W => sign_lo x hl W)
  clear hb
  subst ho
  rcases hz with hz | hz
  all_goals
    go_enter Try.func33, Try.ntmps33
    go_wp2_with fail
    refine (HS.out _).mono ?_
    rintro e w1 ⟨rfl, rfl⟩
    go_wp2_with fail
    refine (HF.out _).mono ?_
    rintro e w1 ⟨rfl, rfl⟩
    go_wp2_with fail
    go_ret
    exact ⟨rfl, rfl⟩

/-- the document's own part: none -/
theorem part_nan (x : Nat) (h : FloatKind.f64.format.order x 0 = none) (h2 : FloatKind.f64.format.order x 4787326403894837248 = none) (h3 : FloatKind.f64.format.order x x = none) (w : World) : Calls Try.prog 30 #[.float .f64 x] w fun e w' => e = .returned (.int .i64 (-1)) ∧ w = w' := by
  go_enter Try.func30, Try.ntmps30
  go_wp2_with fail
  go_ret
  exact ⟨rfl, rfl⟩
theorem part_below (x : Nat) (h : FloatKind.f64.format.order x 0 = some .lt) (w : World) : Calls Try.prog 30 #[.float .f64 x] w fun e w' => e = .returned (.int .i64 (-1)) ∧ w = w' := by
  go_enter Try.func30, Try.ntmps30
  go_wp2_with fail
  go_ret
  exact ⟨rfl, rfl⟩
theorem part_above (x : Nat) (h : FloatKind.f64.format.order x 0 = some .gt) (h2 : FloatKind.f64.format.order x 4787326403894837248 = some .gt) (w : World) : Calls Try.prog 30 #[.float .f64 x] w fun e w' => e = .returned (.int .i64 (-1)) ∧ w = w' := by
  go_enter Try.func30, Try.ntmps30
  go_wp2_with fail
  go_ret
  exact ⟨rfl, rfl⟩
set_option maxHeartbeats 1000000 in
theorem part_neg0 (w : World) : Calls Try.prog 30 #[.float .f64 9223372036854775808] w fun e w' => e = .returned (.int .i64 (-1)) ∧ w = w' := by
  have hz : FloatKind.f64.format.order 9223372036854775808 0 = some .eq := by decide +kernel
  have hlim : FloatKind.f64.format.order 9223372036854775808 4787326403894837248 = some .lt := by decide +kernel
  have hself : FloatKind.f64.format.order 9223372036854775808 9223372036854775808 = some .eq := by decide +kernel
  have hcv := fun W : World => run_convert_float_int (P := Try.prog) W 42 3 .f64 .i64 9223372036854775808 0 rfl rfl (by decide +kernel)
  have hfo : floatOfInt .f64 0 = 0 := by decide +kernel
  have hzo : FloatKind.f64.format.order 0 9223372036854775808 = some .eq := by decide +kernel
  have hq := fun W : World => run_float_arith (P := Try.prog) W .quo 42 .f64 4607182418800017408 9223372036854775808 18442240474082181120 (by decide +kernel)
  have hinf : FloatKind.f64.format.order 18442240474082181120 0 = some .lt := by decide +kernel
  go_enter Try.func30, Try.ntmps30
  go_wp2_with fail
  go_ret
  exact ⟨rfl, rfl⟩
set_option maxHeartbeats 1000000 in
theorem part_not (x m : Nat) (i : Int) (N : Nat) (h : Low x m i N) (ho : Ieee.double.order (fl N) x = some .lt ∨ Ieee.double.order (fl N) x = some .gt) (w : World) : Calls Try.prog 30 #[.float .f64 x] w fun e w' => e = .returned (.int .i64 (-1)) ∧ w = w' := by
  have hz : FloatKind.f64.format.order x 0 = some .gt ∨ FloatKind.f64.format.order x 0 = some .eq := h.zero
  have hlim : FloatKind.f64.format.order x 4787326403894837248 = some .lt ∨ FloatKind.f64.format.order x 4787326403894837248 = some .eq := h.lim
  have hself : FloatKind.f64.format.order x x = some .eq := h.self
  have hcv := fun W : World => run_convert_float_int (P := Try.prog) W 42 3 .f64 .i64 x N rfl rfl h.int
  have hfo := fl_conv N
  have ho : FloatKind.f64.format.order (fl N) x = some .lt ∨ FloatKind.f64.format.order (fl N) x = some .gt := ho
  clear h
  rcases hz with hz | hz <;> rcases hlim with hlim | hlim <;> rcases ho with ho | ho
  all_goals
    go_enter Try.func30, Try.ntmps30
    go_wp2_with fail
    go_ret
    exact ⟨rfl, rfl⟩
set_option maxHeartbeats 1000000 in
theorem part_is (x m : Nat) (i : Int) (N : Nat) (h : Low x m i N) (ho : Ieee.double.order (fl N) x = some .eq) (h0 : N = 0 → x = 0) (w : World) : Calls Try.prog 30 #[.float .f64 x] w fun e w' => e = .returned (.int .i64 N) ∧ w = w' := by
  by_cases hn : N = 0
  · obtain rfl := h0 hn
    subst hn
    exact ref_part0 w
  · have hz : FloatKind.f64.format.order x 0 = some .gt ∨ FloatKind.f64.format.order x 0 = some .eq := h.zero
    have hlim : FloatKind.f64.format.order x 4787326403894837248 = some .lt ∨ FloatKind.f64.format.order x 4787326403894837248 = some .eq := h.lim
    have hself : FloatKind.f64.format.order x x = some .eq := h.self
    have hcv := fun W : World => run_convert_float_int (P := Try.prog) W 42 3 .f64 .i64 x N rfl rfl h.int
    have hfo := fl_conv N
    have ho : FloatKind.f64.format.order (fl N) x = some .eq := ho
    have hn0 : ((N : Int) == 0) = false := by rw [beq_eq_false_iff_ne]; omega
    clear h h0
    rcases hz with hz | hz <;> rcases hlim with hlim | hlim
    all_goals
      go_enter Try.func30, Try.ntmps30
      go_wp2_with fail
      go_ret
      exact ⟨rfl, rfl⟩

/-- what whole and part tell of a word: b, p -/
inductive Cls (x : Nat) : Bool → Int → Prop
  | no : Cls x false (-1)
  | is (N : Nat) (hN : N ≤ 1099511627776) (hr : IsN (Ieee.double.read x) N) (hp : PosD (Ieee.double.read x)) : Cls x true N
  | big (hb : BigD (fun n => 2 ^ n) (Ieee.double.read x)) : Cls x true (-1)

theorem word_told (x : Nat) (hx : x < 18446744073709551616) : ∃ b p, Cls x b p ∧ (∀ w, Calls Try.prog 33 #[.float .f64 x] w fun e w' => e = .returned (.bool b) ∧ w = w') ∧ ∀ w, Calls Try.prog 30 #[.float .f64 x] w fun e w' => e = .returned (.int .i64 p) ∧ w = w' := by
  rcases word_class pw_two (fun _ => rfl) x hx with ⟨h1, h2, h3⟩ | h1 | rfl | h1 | ⟨m, i, N, h⟩
  · exact ⟨_, _, .no, whole_no x (.inl h1), part_nan x h1 h2 h3⟩
  · exact ⟨_, _, .no, whole_no x (.inr h1), part_below x h1⟩
  · exact ⟨_, _, .no, whole_neg0, part_neg0⟩
  · have hf : ∃ f, ∀ W : World, (callFunc 48 #[.float .f64 x]).run Try.prog W = .ok (.value (.float .f64 f)) W := by
      rcases h1.big with hr | ⟨m, i, hr, _⟩
      · exact ⟨_, arch_inf x hr⟩
      · exact ⟨_, arch_num x m i hr⟩
    obtain ⟨f, hf⟩ := hf
    cases ho : Op.floatEq .f64 f x
    · exact ⟨_, _, .no, whole_one x f _ h1.lt (.inl h1.zero) hf ho, part_above x h1.zero h1.lim⟩
    · exact ⟨_, _, .big h1.big, whole_one x f _ h1.lt (.inl h1.zero) hf ho, part_above x h1.zero h1.lim⟩
  · have hf := arch_num x m i h.read
    rw [h.cut] at hf
    rcases h.whole with ⟨ho, hn, hl, h0⟩ | ho
    · exact ⟨_, _, .is N hl hn h.pos, whole_one x (fl N) true h.lt h.zero hf (by show (Ieee.double.order (fl N) x == some .eq) = true; rw [ho]; rfl), part_is x m i N h ho h0⟩
    · exact ⟨_, _, .no, whole_one x (fl N) false h.lt h.zero hf (by show (Ieee.double.order (fl N) x == some .eq) = false; rcases ho with ho | ho <;> (rw [ho]; rfl)), part_not x m i N h ho⟩

/-- span.Right, part by part -/
theorem right_f1 (x y : Nat) (w : World) (hx : ∀ w, Calls Try.prog 33 #[.float .f64 x] w fun e w' => e = .returned (.bool false) ∧ w = w') : Calls Try.prog 22 #[.complex .f64 x y] w fun e w' => e = .returned (.bool false) ∧ w = w' := by
  have HA := Lib.hid hx
  clear hx
  go_enter Try.func22, Try.ntmps22
  go_wp2_with fail
  refine (HA.out _).mono ?_
  rintro e w1 ⟨rfl, rfl⟩
  go_wp2_with fail
  go_ret
  exact ⟨rfl, rfl⟩
theorem right_f2 (x y : Nat) (w : World) (hx : ∀ w, Calls Try.prog 33 #[.float .f64 x] w fun e w' => e = .returned (.bool true) ∧ w = w') (hy : ∀ w, Calls Try.prog 33 #[.float .f64 y] w fun e w' => e = .returned (.bool false) ∧ w = w') : Calls Try.prog 22 #[.complex .f64 x y] w fun e w' => e = .returned (.bool false) ∧ w = w' := by
  have HA := Lib.hid hx
  have HB := Lib.hid hy
  clear hx hy
  go_enter Try.func22, Try.ntmps22
  go_wp2_with fail
  refine (HA.out _).mono ?_
  rintro e w1 ⟨rfl, rfl⟩
  go_wp2_with fail
  refine (HB.out _).mono ?_
  rintro e w1 ⟨rfl, rfl⟩
  go_wp2_with fail
  go_ret
  exact ⟨rfl, rfl⟩
theorem right_sum (x y r : Nat) (b : Bool) (w : World) (hx : ∀ w, Calls Try.prog 33 #[.float .f64 x] w fun e w' => e = .returned (.bool true) ∧ w = w') (hy : ∀ w, Calls Try.prog 33 #[.float .f64 y] w fun e w' => e = .returned (.bool true) ∧ w = w')
    (hr : Ieee.double.add x y = some r) (ho : (b = true ∧ (FloatKind.f64.format.order r 4787326403894837248 = some .lt ∨ FloatKind.f64.format.order r 4787326403894837248 = some .eq)) ∨ (b = false ∧ FloatKind.f64.format.order r 4787326403894837248 = some .gt)) :
    Calls Try.prog 22 #[.complex .f64 x y] w fun e w' => e = .returned (.bool b) ∧ w = w' := by
  have hadd := fun W : World => run_float_arith (P := Try.prog) W .add 42 .f64 x y r hr
  have HA := Lib.hid hx
  have HB := Lib.hid hy
  clear hx hy hr
  rcases ho with ⟨rfl, ho | ho⟩ | ⟨rfl, ho⟩
  all_goals
    go_enter Try.func22, Try.ntmps22
    go_wp2_with fail
    refine (HA.out _).mono ?_
    rintro e w1 ⟨rfl, rfl⟩
    go_wp2_with fail
    refine (HB.out _).mono ?_
    rintro e w1 ⟨rfl, rfl⟩
    go_wp2_with fail
    go_ret
    exact ⟨rfl, rfl⟩
theorem ref_right (x y : Nat) (p q : Int) (b : Bool) (w : World) (hx : ∀ w, Calls Try.prog 30 #[.float .f64 x] w fun e w' => e = .returned (.int .i64 p) ∧ w = w') (hy : ∀ w, Calls Try.prog 30 #[.float .f64 y] w fun e w' => e = .returned (.int .i64 q) ∧ w = w')
    (hp : -1 ≤ p) (hp2 : p ≤ 1099511627776) (hq : -1 ≤ q) (hq2 : q ≤ 1099511627776) (hb : b = (decide (0 ≤ p) && decide (0 ≤ q) && decide (p + q ≤ 1099511627776))) :
    Calls Try.prog 23 #[.complex .f64 x y] w fun e w' => e = .returned (.bool b) ∧ w = w' := by
  have HA := Lib.hid hx
  have HB := Lib.hid hy
  clear hx hy
  have hc : (p < 0 ∧ b = false) ∨ (0 ≤ p ∧ q < 0 ∧ b = false) ∨ (0 ≤ p ∧ 0 ≤ q ∧ p + q ≤ 1099511627776 ∧ b = true) ∨ (0 ≤ p ∧ 0 ≤ q ∧ 1099511627776 < p + q ∧ b = false) := by
    by_cases h1 : 0 ≤ p
    · by_cases h2 : 0 ≤ q
      · by_cases h3 : p + q ≤ 1099511627776
        · rw [decide_eq_true h1, decide_eq_true h2, decide_eq_true h3] at hb
          exact .inr (.inr (.inl ⟨h1, h2, h3, hb⟩))
        · rw [decide_eq_true h1, decide_eq_true h2, decide_eq_false h3] at hb
          exact .inr (.inr (.inr ⟨h1, h2, by omega, hb⟩))
      · rw [decide_eq_true h1, decide_eq_false h2] at hb
        exact .inr (.inl ⟨h1, by omega, hb⟩)
    · rw [decide_eq_false h1] at hb
      exact .inl ⟨by omega, hb⟩
  clear hb
  rcases hc with ⟨h1, rfl⟩ | ⟨h1, h2, rfl⟩ | ⟨h1, h2, h3, rfl⟩ | ⟨h1, h2, h3, rfl⟩
  all_goals
    go_enter Try.func23, Try.ntmps23
    go_wp2_with fail
    refine (HA.out _).mono ?_
    rintro e w1 ⟨rfl, rfl⟩
    go_wp2_with fail
    refine (HB.out _).mono ?_
    rintro e w1 ⟨rfl, rfl⟩
    go_wp2_with fail
    go_ret
    first | exact ⟨rfl, rfl⟩ | exact ⟨congrArg (fun b => Ending.returned (Value.bool b)) (decide_eq_true h3), rfl⟩ | exact ⟨congrArg (fun b => Ending.returned (Value.bool b)) (decide_eq_false (by omega : ¬ p + q ≤ 1099511627776)), rfl⟩

theorem right_told (x y : Nat) (hx : x < 18446744073709551616) (hy : y < 18446744073709551616) : ∃ b : Bool,
    (∀ w, Calls Try.prog 22 #[.complex .f64 x y] w fun e w' => e = .returned (.bool b) ∧ w = w') ∧
    ∀ w, Calls Try.prog 23 #[.complex .f64 x y] w fun e w' => e = .returned (.bool b) ∧ w = w' := by
  obtain ⟨b1, p1, c1, hw1, hp1⟩ := word_told x hx
  obtain ⟨b2, p2, c2, hw2, hp2⟩ := word_told y hy
  have rng : ∀ {z b p}, Cls z b p → -1 ≤ p ∧ p ≤ 1099511627776 := by
    rintro z b p (_ | ⟨N, hN, _, _⟩ | _) <;> omega
  obtain ⟨r1, r2⟩ := rng c1
  obtain ⟨r3, r4⟩ := rng c2
  cases c1 with
  | no => exact ⟨false, fun w => right_f1 x y w hw1, fun w => ref_right x y _ _ _ w hp1 hp2 r1 r2 r3 r4 rfl⟩
  | big g1 =>
    cases c2 with
    | no => exact ⟨false, fun w => right_f2 x y w hw1 hw2, fun w => ref_right x y _ _ _ w hp1 hp2 r1 r2 r3 r4 rfl⟩
    | big g2 =>
      obtain ⟨r, h1, h2⟩ := sum_big pw_two x y g1.pos g2.pos (.inl g1)
      exact ⟨false, fun w => right_sum x y r false w hw1 hw2 h1 (.inr ⟨rfl, h2⟩), fun w => ref_right x y _ _ _ w hp1 hp2 r1 r2 r3 r4 rfl⟩
    | is M hM hrM g2 =>
      obtain ⟨r, h1, h2⟩ := sum_big pw_two x y g1.pos g2 (.inl g1)
      exact ⟨false, fun w => right_sum x y r false w hw1 hw2 h1 (.inr ⟨rfl, h2⟩), fun w => ref_right x y _ _ _ w hp1 hp2 r1 r2 r3 r4 rfl⟩
  | is N hN hrN g1 =>
    cases c2 with
    | no => exact ⟨false, fun w => right_f2 x y w hw1 hw2, fun w => ref_right x y _ _ _ w hp1 hp2 r1 r2 r3 r4 (by rw [decide_eq_false (by omega : ¬ (0 : Int) ≤ -1), Bool.and_false]; rfl)⟩
    | big g2 =>
      obtain ⟨r, h1, h2⟩ := sum_big pw_two x y g1 g2.pos (.inr g2)
      exact ⟨false, fun w => right_sum x y r false w hw1 hw2 h1 (.inr ⟨rfl, h2⟩), fun w => ref_right x y _ _ _ w hp1 hp2 r1 r2 r3 r4 (by rw [decide_eq_false (by omega : ¬ (0 : Int) ≤ -1), Bool.and_false]; rfl)⟩
    | is M hM hrM g2 =>
      have h1 := add_isN x y N M hrN hrM (by have : (2 : Nat) ^ 53 = 9007199254740992 := by decide
                                             omega)
      have ho := fl_order (N + M) 1099511627776 (by omega) (by omega)
      rw [fl_limit] at ho
      rcases Nat.lt_trichotomy (N + M) 1099511627776 with h | h | h
      · refine ⟨true, fun w => right_sum x y _ true w hw1 hw2 h1 (.inl ⟨rfl, .inl (by rw [ho, Nat.compare_eq_lt.2 h])⟩), fun w => ref_right x y _ _ _ w hp1 hp2 r1 r2 r3 r4 ?_⟩
        rw [decide_eq_true (by omega : (0 : Int) ≤ N), decide_eq_true (by omega : (0 : Int) ≤ M), decide_eq_true (by omega)]
        rfl
      · refine ⟨true, fun w => right_sum x y _ true w hw1 hw2 h1 (.inl ⟨rfl, .inr (by rw [ho, Nat.compare_eq_eq.2 h])⟩), fun w => ref_right x y _ _ _ w hp1 hp2 r1 r2 r3 r4 ?_⟩
        rw [decide_eq_true (by omega : (0 : Int) ≤ N), decide_eq_true (by omega : (0 : Int) ≤ M), decide_eq_true (by omega)]
        rfl
      · refine ⟨false, fun w => right_sum x y _ false w hw1 hw2 h1 (.inr ⟨rfl, by rw [ho, Nat.compare_eq_gt.2 h]⟩), fun w => ref_right x y _ _ _ w hp1 hp2 r1 r2 r3 r4 ?_⟩
        rw [decide_eq_true (by omega : (0 : Int) ≤ N), decide_eq_true (by omega : (0 : Int) ≤ M), decide_eq_false (by omega)]
        rfl

/-- a quotient of floats: some word; where it is no number, the world is asked once -/
theorem quo_any (x y : Nat) (W : World) : ∃ r W', r < 18446744073709551616 ∧ (W' = W ∨ W' = W.drew) ∧ ∀ t, (binOp .quo t (.float .f64 x) (.float .f64 y)).run Try.prog W = .ok (.float .f64 r) W' := by
  cases h : FloatKind.f64.format.div x y with
  | some r => exact ⟨r, W, FloatKind.f64.format.div_lt h, .inl rfl, fun t => run_float_arith W .quo t .f64 x y r h⟩
  | none =>
    refine ⟨Question.cut (.nanBits .f64 x y) (W.tape W.drawn (.nanBits .f64 x y)), W.drew, ?_, .inr rfl, fun t => ?_⟩
    · generalize W.tape W.drawn (.nanBits .f64 x y) = t
      show (t % 2) * 2 ^ 63 + 0x7ff0000000000000 + 1 + (t / 2) % (2 ^ 52 - 1) < _
      have h1 : (t / 2) % (2 ^ 52 - 1) < 2 ^ 52 - 1 := Nat.mod_lt _ (by decide)
      have h2 : t % 2 < 2 := Nat.mod_lt _ (by decide)
      generalize (t / 2) % (2 ^ 52 - 1) = u at *
      generalize t % 2 = v at *
      omega
    · simp [binOp, Op.floatArith, h, Question.forced]
end Go.Proofs.Ytcckbiaigcideaa
