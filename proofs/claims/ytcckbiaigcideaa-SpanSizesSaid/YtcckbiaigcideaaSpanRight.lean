/- math.Signbit, math.Floor, span.whole, span.Right: over whole numbers they answer as the document says; memory is as it was. -/
import Derived.Test.YtcckbiaigcideaaSpanAround0
import Derived.Laws.Externs
set_option linter.unusedVariables false
namespace Go.Proofs.Ytcckbiaigcideaa
open Go.RowKit Copyhold

theorem run_bits (x : Nat) (W : World) : (callFunc 47 #[.float .f64 x]).run Try.prog W = .ok (.value (.int .u64 x)) W := by
  rw [run_callFunc_extern (e := Extern.MathFloatBits.float64bits) Try.func47 (by kernel_rfl) (by kernel_rfl) (by kernel_rfl) (by kernel_rfl)]
  rfl

theorem integral_isN {d : Ieee.Datum} {n : Nat} (h : IsN d n) : d.integral .down = .number false n 0 := by
  obtain ⟨s, rfl, _⟩ := h
  simp only [Ieee.Datum.integral]
  rw [show (-(s : Int)).toNat = 0 from by omega, show (- -(s : Int)).toNat = s from by omega, Nat.shiftLeft_zero, cut_exact]

theorem floor_run (x m : Nat) (i : Int) (W : World) (h : FloatKind.f64.decode x = .number false m i) :
    (Extern.MathFloor.toIntegral "math.archFloor" .down #[.float .f64 x]).run Try.prog W = .ok (.float .f64 (FloatKind.f64.encode ((Ieee.Datum.number false m i).integral .down))) W := by
  show (Extern.MathFloor.toIntegral.match_1 (fun _ => Sem Value) (FloatKind.f64.decode x) _ _ : Sem Value).run Try.prog W = _
  rw [h]
  rfl

theorem run_floor (n : Nat) (h : n < 2 ^ 53) (W : World) : (callFunc 48 #[.float .f64 (fl n)]).run Try.prog W = .ok (.value (.float .f64 (fl n))) W := by
  rw [run_callFunc_extern (e := Extern.MathFloor.toIntegral "math.archFloor" .down) Try.func48 (by kernel_rfl) (by kernel_rfl) (by kernel_rfl) (by kernel_rfl)]
  obtain ⟨s, hs, hle⟩ := read_fl n h
  have hi := integral_isN (n := n) ⟨s, rfl, hle⟩
  rw [floor_run (fl n) _ _ W hs, hi]
  rfl

theorem sign_fl (n : Nat) (h : n < 2 ^ 53) (w : World) : Calls Try.prog 42 #[.float .f64 (fl n)] w fun e w' => e = .returned (.bool false) ∧ w = w' := by
  have hl : fl n < 9223372036854775808 := fl_lt n h
  have hb := run_bits (fl n)
  generalize fl n = x at *
  go_enter Try.func42, Try.ntmps42
  go_wp2_with fail
  go_ret
  exact ⟨rfl, rfl⟩

theorem floor_fl (n : Nat) (h : n < 2 ^ 53) (w : World) : Calls Try.prog 43 #[.float .f64 (fl n)] w fun e w' => e = .returned (.float .f64 (fl n)) ∧ w = w' := by
  have hb := run_floor n h
  generalize fl n = x at *
  go_enter Try.func43, Try.ntmps43
  go_wp2_with fail
  go_ret
  exact ⟨rfl, rfl⟩

theorem whole_fl (n : Nat) (h : n < 2 ^ 53) (w : World) : Calls Try.prog 33 #[.float .f64 (fl n)] w fun e w' => e = .returned (.bool true) ∧ w = w' := by
  have hself : FloatKind.f64.format.order (fl n) (fl n) = some .eq := by rw [fl_order n n h h, Nat.compare_eq_eq.2 rfl]
  have hz : FloatKind.f64.format.order (fl n) 0 = some .gt ∨ FloatKind.f64.format.order (fl n) 0 = some .eq := by
    by_cases h0 : n = 0
    · subst h0; exact .inr order_zz
    · exact .inl (order_zero n h h0)
  have HS := Lib.hid (fun W => sign_fl n h W)
  have HF := Lib.hid (fun W => floor_fl n h W)
  generalize fl n = x at *
  rcases hz with hz | hz
  all_goals
    go_enter Try.func33, Try.ntmps33
    go_wp2_with fail
    refine (HS.out _).mono ?_
    rintro e w1 ⟨rfl, rfl⟩
    go_wp2_with fail
    refine (HF.out _).mono ?_
    rintro e w1 ⟨rfl, rfl⟩
    go_wp2_with fail
    go_ret
    exact ⟨rfl, rfl⟩

theorem fl_limit : fl 1099511627776 = 4787326403894837248 := by decide +kernel

theorem right_fl (a b : Nat) (h : a + b ≤ 1099511627776) (w : World) : Calls Try.prog 22 #[.complex .f64 (fl a) (fl b)] w fun e w' => e = .returned (.bool true) ∧ w = w' := by
  have hadd := fun W : World => run_float_arith (P := Try.prog) W .add 42 .f64 (fl a) (fl b) (fl (a + b)) (fl_add a b (by omega))
  have hord : FloatKind.f64.format.order (fl (a + b)) 4787326403894837248 = some .lt ∨ FloatKind.f64.format.order (fl (a + b)) 4787326403894837248 = some .eq := by
    have := fl_order (a + b) 1099511627776 (by omega) (by omega)
    rw [fl_limit] at this
    rcases Nat.lt_or_eq_of_le h with h1 | h1
    · rw [Nat.compare_eq_lt.2 h1] at this; exact .inl this
    · rw [Nat.compare_eq_eq.2 h1] at this; exact .inr this
  have HA := Lib.hid (fun W => whole_fl a (by omega) W)
  have HB := Lib.hid (fun W => whole_fl b (by omega) W)
  generalize fl (a + b) = z at *
  generalize fl a = x at *
  generalize fl b = y at *
  rcases hord with ho | ho
  all_goals
    go_enter Try.func22, Try.ntmps22
    go_wp2_with fail
    refine (HA.out _).mono ?_
    rintro e w1 ⟨rfl, rfl⟩
    go_wp2_with fail
    refine (HB.out _).mono ?_
    rintro e w1 ⟨rfl, rfl⟩
    go_wp2_with fail
    go_ret
    exact ⟨rfl, rfl⟩
end Go.Proofs.Ytcckbiaigcideaa
