/- Layer 1's plain mathematics, more: a number read from its highest figure on, and laid again, is what was taken. -/
import Derived.Test.YthnajmfbomedlaaPure01b
namespace Copyhold

/-- the value of figures, the lowest first -/
def valB : List UInt8 → Nat
  | [] => 0
  | b :: r => b.toNat % 128 + 128 * valB r

theorem valB_snoc (x : List UInt8) (b : UInt8) : valB (x ++ [b]) = valB x + (b.toNat % 128) * 128 ^ x.length := by
  induction x with
  | nil => simp [valB]
  | cons y r ih =>
    simp only [List.cons_append, valB, ih, List.length_cons, Nat.pow_succ, Nat.mul_add]
    rw [Nat.mul_comm (128 ^ r.length) 128, Nat.mul_left_comm]
    omega

/-- at figure i: all ahead have 128 more -/
def TnHead (l : List UInt8) (i : Nat) : Prop := i ≤ l.length ∧ takeNum l = tnGo i (valB (l.take i)) (l.drop i)

theorem tnHead_zero (l : List UInt8) : TnHead l 0 := ⟨Nat.zero_le _, rfl⟩

theorem tnHead_succ {l : List UInt8} {i : Nat} (h : TnHead l i) (hi : i < l.length) (h10 : i < 10) (hb : ¬ l[i].toNat < 128) : TnHead l (i + 1) := by
  refine ⟨hi, ?_⟩
  rw [h.2, List.drop_eq_getElem_cons hi, tnGo, if_pos h10, if_neg hb]
  rw [List.take_succ_eq_append_getElem hi, valB_snoc, List.length_take, Nat.min_eq_left (by omega)]

theorem tnHead_ten {l : List UInt8} (h : TnHead l 10) : takeNum l = (0, [], 3) := by
  rw [h.2]; cases l.drop 10 <;> simp [tnGo]

theorem tnHead_end {l : List UInt8} {i : Nat} (h : TnHead l i) (hi : l.length ≤ i) (h10 : i < 10) : takeNum l = (0, [], 2) := by
  rw [h.2, List.drop_eq_nil_of_le hi, tnGo, if_pos h10]

/-- the figure without 128 more -/
theorem tnHead_last {l : List UInt8} {i : Nat} (h : TnHead l i) (hi : i < l.length) (h10 : i < 10) (hb : l[i].toNat < 128) :
    (takeNum l = (0, [], 3) ∧ numB (valB (l.take (i + 1)) % 18446744073709551616) ≠ l.take (i + 1)) ∨
    (takeNum l = (valB (l.take (i + 1)), l.drop (i + 1), 0) ∧ numB (valB (l.take (i + 1)) % 18446744073709551616) = l.take (i + 1) ∧ valB (l.take (i + 1)) < 18446744073709551616) := by
  have hv : valB (l.take (i + 1)) = valB (l.take i) + l[i].toNat * 128 ^ i := by
    rw [List.take_succ_eq_append_getElem hi, valB_snoc, List.length_take, Nat.min_eq_left (by omega), Nat.mod_eq_of_lt hb]
  have ht := h.2
  rw [List.drop_eq_getElem_cons hi, tnGo, if_pos h10, if_pos hb] at ht
  by_cases hc : i = 9 ∧ 1 < l[i].toNat ∨ 0 < i ∧ l[i].toNat = 0
  · rw [if_pos hc] at ht
    refine .inl ⟨ht, fun he => ?_⟩
    have := takeNum_numB (valB (l.take (i + 1)) % 18446744073709551616) (l.drop (i + 1)) (Nat.mod_lt _ (by decide))
    rw [he, List.take_append_drop, ht] at this
    simp at this
  · rw [if_neg hc, ← hv] at ht
    have hbd := (takeNum_bd l).1
    have hl := takeNum_laid l (by rw [ht])
    rw [ht] at hbd hl
    simp only at hbd hl
    refine .inr ⟨ht, ?_, hbd⟩
    rw [Nat.mod_eq_of_lt hbd]
    have h2 : l.take (i + 1) ++ l.drop (i + 1) = numB (valB (l.take (i + 1))) ++ l.drop (i + 1) := by rw [List.take_append_drop]; exact hl
    exact (List.append_cancel_right h2).symm

/-- from the highest figure on -/
theorem valB_seg (l : List UInt8) (i k : Nat) (hk : k ≤ i) (hi : i < l.length) : valB ((l.take (i + 1)).drop k) = l[k].toNat % 128 + 128 * valB ((l.take (i + 1)).drop (k + 1)) := by
  have hlt : k < (l.take (i + 1)).length := by rw [List.length_take]; omega
  rw [List.drop_eq_getElem_cons hlt, valB]
  simp
end Copyhold
