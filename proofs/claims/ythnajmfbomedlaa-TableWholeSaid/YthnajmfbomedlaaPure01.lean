/- The plain mathematics of layer 1 (octet): short numbers, texts and lists as rows of bytes, and what is taken of such rows. Lists and numbers alone: nothing of the program. -/
import Derived.Laws.BytesArg
namespace Copyhold

/-- a short number's bytes -/
def numB (n : Nat) : List UInt8 := if n < 128 then [UInt8.ofNat n] else UInt8.ofNat (n % 128 + 128) :: numB (n / 128)
termination_by n
decreasing_by omega

theorem numB_small {n : Nat} (h : n < 128) : numB n = [UInt8.ofNat n] := by rw [numB, if_pos h]
theorem numB_big {n : Nat} (h : ¬ n < 128) : numB n = UInt8.ofNat (n % 128 + 128) :: numB (n / 128) := by rw [numB, if_neg h]

theorem numB_pos (n : Nat) : 1 ≤ (numB n).length := by rw [numB]; split <;> simp
theorem numB_len (n : Nat) (k : Nat) (h : n < 2 ^ (7 * (k + 1))) : (numB n).length ≤ k + 1 := by
  induction k generalizing n with
  | zero => rw [numB_small (by simpa using h)]; simp
  | succ k ih =>
    by_cases hs : n < 128
    · rw [numB_small hs]; simp
    · rw [numB_big hs]
      simp only [List.length_cons]
      have := ih (n / 128) (by
        rw [Nat.div_lt_iff_lt_mul (by omega)]
        have e : 2 ^ (7 * (k + 1)) * 128 = 2 ^ (7 * (k + 1 + 1)) := by
          rw [show 7 * (k + 1 + 1) = 7 * (k + 1) + 7 from by omega, Nat.pow_add]
        omega)
      omega
theorem numB_len10 (n : Nat) (h : n < 18446744073709551616) : (numB n).length ≤ 10 := numB_len n 9 (by omega)

/-- a text's bytes -/
def textB (l : List UInt8) : List UInt8 := numB l.length ++ l
/-- texts' bytes -/
def listB (ls : List (List UInt8)) : List UInt8 := numB ls.length ++ (ls.map textB).flatten

theorem textB_len (l : List UInt8) (h : l.length < 18446744073709551616) : (textB l).length ≤ l.length + 10 := by
  have := numB_len10 l.length h
  simp only [textB, List.length_append]; omega

theorem intercalate_nil : ∀ xs : List (List UInt8), List.intercalate [] xs = xs.flatten
  | [] => rfl
  | [x] => by simp [List.intercalate]
  | x :: y :: r => by
    have h := intercalate_nil (y :: r)
    simp only [List.intercalate, List.intersperse_cons_cons, List.flatten_cons, List.nil_append] at h ⊢
    rw [h]

/-- what is taken of a short number, from its figure k on, those ahead of it told together: the number, the rest, the error -/
def tnGo (k acc : Nat) : List UInt8 → Nat × List UInt8 × Int
  | [] => if k < 10 then (0, [], 2) else (0, [], 3)
  | b :: r => if k < 10 then
      (if b.toNat < 128 then (if k = 9 ∧ 1 < b.toNat ∨ 0 < k ∧ b.toNat = 0 then (0, [], 3) else (acc + b.toNat * 128 ^ k, r, 0))
       else tnGo (k + 1) (acc + (b.toNat % 128) * 128 ^ k) r)
    else (0, [], 3)
/-- TakeNum -/
def takeNum (l : List UInt8) : Nat × List UInt8 × Int := tnGo 0 0 l

/-- a number that is at most most -/
def takeCount (l : List UInt8) (most : Int) : Nat × List UInt8 × Int :=
  if (takeNum l).2.2 ≠ 0 then (0, [], (takeNum l).2.2) else if most < 0 ∨ most < ((takeNum l).1 : Int) then (0, [], 5) else takeNum l
/-- TakeText -/
def takeText (l : List UInt8) (most : Int) : List UInt8 × List UInt8 × Int :=
  if (takeCount l most).2.2 ≠ 0 then ([], [], (takeCount l most).2.2)
  else if (takeCount l most).2.1.length < (takeCount l most).1 then ([], [], 2)
  else ((takeCount l most).2.1.take (takeCount l most).1, (takeCount l most).2.1.drop (takeCount l most).1, 0)

theorem tnGo_bd : ∀ (l : List UInt8) (k acc : Nat), acc < 128 ^ k → k ≤ 10 → (tnGo k acc l).1 < 18446744073709551616 ∧ (tnGo k acc l).2.1.length ≤ l.length ∧ 0 ≤ (tnGo k acc l).2.2 ∧ (tnGo k acc l).2.2 ≤ 3
  | [], k, acc, _, _ => by rw [tnGo]; split <;> simp
  | b :: r, k, acc, h, hk => by
    rw [tnGo]
    have hb := b.toNat_lt
    split
    · split
      · split
        · simp
        · rename_i h1 h2 h3
          refine ⟨?_, by simp, by simp, by simp⟩
          show acc + b.toNat * 128 ^ k < _
          by_cases h9 : k = 9
          · subst h9
            have : b.toNat ≤ 1 := by omega
            have e : (128 : Nat) ^ 9 = 9223372036854775808 := by decide
            rw [e] at h ⊢
            have := Nat.mul_le_mul_right 9223372036854775808 this
            omega
          · have e : (128 : Nat) ^ k ≤ 128 ^ 8 := Nat.pow_le_pow_right (by decide) (by omega)
            have e8 : (128 : Nat) ^ 8 = 72057594037927936 := by decide
            rw [e8] at e
            have : b.toNat * 128 ^ k ≤ 127 * 72057594037927936 := Nat.mul_le_mul (by omega) e
            omega
      · rename_i h1 h2
        have := tnGo_bd r (k + 1) (acc + b.toNat % 128 * 128 ^ k) (by
          have e : (128 : Nat) ^ (k + 1) = 128 ^ k * 128 := Nat.pow_succ ..
          have hm : b.toNat % 128 ≤ 127 := by omega
          have := Nat.mul_le_mul_right (128 ^ k) hm
          omega) (by omega)
        simp only [List.length_cons]
        omega
    · simp
theorem takeNum_bd (l : List UInt8) : (takeNum l).1 < 18446744073709551616 ∧ (takeNum l).2.1.length ≤ l.length ∧ 0 ≤ (takeNum l).2.2 ∧ (takeNum l).2.2 ≤ 3 := tnGo_bd l 0 0 (by decide) (by decide)
theorem takeCount_bd (l : List UInt8) (most : Int) : (takeCount l most).1 < 18446744073709551616 ∧ (takeCount l most).2.1.length ≤ l.length ∧ 0 ≤ (takeCount l most).2.2 ∧ (takeCount l most).2.2 ≤ 5 := by
  have := takeNum_bd l
  unfold takeCount
  split
  · simp; omega
  · split
    · simp
    · omega
theorem takeText_bd (l : List UInt8) (most : Int) : (takeText l most).1.length ≤ l.length ∧ (takeText l most).2.1.length ≤ l.length ∧ 0 ≤ (takeText l most).2.2 ∧ (takeText l most).2.2 ≤ 5 := by
  have := takeCount_bd l most
  unfold takeText
  split
  · simp; omega
  · split
    · simp
    · simp only [List.length_take, List.length_drop]
      omega

/-- so many texts, behind those that were taken -/
def takeTexts (long : Int) : Nat → List (List UInt8) → List UInt8 → List (List UInt8) × List UInt8 × Int
  | 0, acc, l => (acc, l, 0)
  | n + 1, acc, l => if (takeText l long).2.2 ≠ 0 then ([], [], (takeText l long).2.2) else takeTexts long n (acc ++ [(takeText l long).1]) (takeText l long).2.1
/-- TakeList -/
def takeList (l : List UInt8) (most long : Int) : List (List UInt8) × List UInt8 × Int :=
  if (takeCount l most).2.2 ≠ 0 then ([], [], (takeCount l most).2.2) else takeTexts long (takeCount l most).1 [] (takeCount l most).2.1

theorem tnGo_rest : ∀ (l : List UInt8) (k acc : Nat), (tnGo k acc l).2.2 = 0 → (tnGo k acc l).2.1.length + 1 ≤ l.length
  | [], k, acc, h => by rw [tnGo] at h; split at h <;> simp at h
  | b :: r, k, acc, h => by
    rw [tnGo] at h ⊢
    split at h
    · rename_i h1
      rw [if_pos h1]
      split at h
      · rename_i h2
        rw [if_pos h2]
        split at h
        · simp at h
        · rename_i h3
          rw [if_neg h3]; simp
      · rename_i h2
        rw [if_neg h2]
        have := tnGo_rest r _ _ h
        simp only [List.length_cons]
        omega
    · simp at h
theorem takeCount_rest (l : List UInt8) (most : Int) (h : (takeCount l most).2.2 = 0) : (takeCount l most).2.1.length + 1 ≤ l.length := by
  unfold takeCount at h ⊢
  split at h
  · rename_i h1; exact absurd h h1
  · rename_i h1
    rw [if_neg h1]
    split at h
    · simp at h
    · rename_i h2
      rw [if_neg h2]
      exact tnGo_rest l 0 0 h
theorem takeText_rest (l : List UInt8) (most : Int) (h : (takeText l most).2.2 = 0) : (takeText l most).2.1.length + 1 ≤ l.length := by
  unfold takeText at h ⊢
  split at h
  · rename_i h1; exact absurd h h1
  · rename_i h1
    rw [if_neg h1]
    have h1' : (takeCount l most).2.2 = 0 := by simpa using h1
    have := takeCount_rest l most h1'
    split at h
    · simp at h
    · rename_i h2
      rw [if_neg h2]
      simp only [List.length_drop]
      omega

end Copyhold
