/- The plain mathematics of layer 1 (octet): short numbers, texts and lists as rows of bytes, and what is taken of such rows. Lists and numbers alone: nothing of the program. -/
import Derived.Laws.BytesArg
namespace Copyhold

/-- a short number's bytes -/
def numB (n : Nat) : List UInt8 := if n < 128 then [UInt8.ofNat n] else UInt8.ofNat (n % 128 + 128) :: numB (n / 128)
termination_by n
decreasing_by omega

theorem numB_small {n : Nat} (h : n < 128) : numB n = [UInt8.ofNat n] := by rw [numB, if_pos h]
theorem numB_big {n : Nat} (h : ¬ n < 128) : numB n = UInt8.ofNat (n % 128 + 128) :: numB (n / 128) := by rw [numB, if_neg h]

theorem numB_pos (n : Nat) : 1 ≤ (numB n).length := by rw [numB]; split <;> simp
theorem numB_len (n : Nat) (k : Nat) (h : n < 2 ^ (7 * (k + 1))) : (numB n).length ≤ k + 1 := by
  induction k generalizing n with
  | zero => rw [numB_small (by simpa using h)]; simp
  | succ k ih =>
    by_cases hs : n < 128
    · rw [numB_small hs]; simp
    · rw [numB_big hs]
      simp only [List.length_cons]
      have := ih (n / 128) (by
        rw [Nat.div_lt_iff_lt_mul (by omega)]
        have e : 2 ^ (7 * (k + 1)) * 128 = 2 ^ (7 * (k + 1 + 1)) := by
          rw [show 7 * (k + 1 + 1) = 7 * (k + 1) + 7 from by omega, Nat.pow_add]
        omega)
      omega
theorem numB_len10 (n : Nat) (h : n < 18446744073709551616) : (numB n).length ≤ 10 := numB_len n 9 (by omega)

/-- a text's bytes -/
def textB (l : List UInt8) : List UInt8 := numB l.length ++ l
/-- texts' bytes -/
def listB (ls : List (List UInt8)) : List UInt8 := numB ls.length ++ (ls.map textB).flatten

theorem textB_len (l : List UInt8) (h : l.length < 18446744073709551616) : (textB l).length ≤ l.length + 10 := by
  have := numB_len10 l.length h
  simp only [textB, List.length_append]; omega

theorem intercalate_nil : ∀ xs : List (List UInt8), List.intercalate [] xs = xs.flatten
  | [] => rfl
  | [x] => by simp [List.intercalate]
  | x :: y :: r => by
    have h := intercalate_nil (y :: r)
    simp only [List.intercalate, List.intersperse_cons_cons, List.flatten_cons, List.nil_append] at h ⊢
    rw [h]

end Copyhold
