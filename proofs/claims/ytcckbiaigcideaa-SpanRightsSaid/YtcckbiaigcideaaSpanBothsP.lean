/- The plain part of SpanBoths, and Has over rows that were just made. -/
import Derived.Test.YtcckbiaigcideaaSpanHas
import Derived.Test.YtcckbiaigcideaaSpanAround0
set_option linter.unusedVariables false
namespace Go.Proofs.Ytcckbiaigcideaa
open Go.RowKit Copyhold

theorem row_new (w : World) (cs : List Value) (t : TypeId) (h : cs.length ≤ 1000) : Row (w.alloc (.cells cs.toArray t)) (.slice (some ⟨w.heap.size, 0, none⟩) cs.length cs.length) cs := by
  have := Row.of_owns (owns_built (w := w) (base := 0) (e := t) cs.toArray (Nat.zero_le _) (by unfold maxLen; simp; omega))
  simpa using this

theorem has1 (a b : Nat) (t : Int) (w : World) (h : a + b ≤ 1099511627776) :
    Calls Try.prog 26 #[.slice (some ⟨w.heap.size, 0, none⟩) 1 1, .int .i64 t] (w.alloc (.cells #[.complex .f64 (fl a) (fl b)] 24)) fun e w' => e = .returned (.bool (hasOne (a, b) t)) ∧ Below w.heap.size w w' := by
  have hb : Below w.heap.size w (w.alloc (.cells #[.complex .f64 (fl a) (fl b)] 24)) := (Below.refl _ _).alloc (Nat.le_refl _) _
  have hc := span_Has [(a, b)] (some ⟨w.heap.size, 0, none⟩) 1 t (w.alloc (.cells #[.complex .f64 (fl a) (fl b)] 24)) (row_new w [spV (a, b)] _ (by simp)) (by simp) (fun p hp => by simp at hp; subst hp; exact h)
  have e : hasD [(a, b)] t = hasOne (a, b) t := by simp [hasD]
  rw [e] at hc
  exact hc.mono fun _ _ ⟨he, hb'⟩ => ⟨he, below_trans hb hb' (by simp)⟩

theorem has2 (a b c d : Nat) (t : Int) (w : World) (h : a + b ≤ 1099511627776) (h' : c + d ≤ 1099511627776) :
    Calls Try.prog 26 #[.slice (some ⟨w.heap.size, 0, none⟩) 2 2, .int .i64 t] (w.alloc (.cells #[.complex .f64 (fl a) (fl b), .complex .f64 (fl c) (fl d)] 24)) fun e w' => e = .returned (.bool (hasOne (a, b) t || hasOne (c, d) t)) ∧ Below w.heap.size w w' := by
  have hb : Below w.heap.size w (w.alloc (.cells #[.complex .f64 (fl a) (fl b), .complex .f64 (fl c) (fl d)] 24)) := (Below.refl _ _).alloc (Nat.le_refl _) _
  have hc := span_Has [(a, b), (c, d)] (some ⟨w.heap.size, 0, none⟩) 2 t (w.alloc (.cells #[.complex .f64 (fl a) (fl b), .complex .f64 (fl c) (fl d)] 24)) (row_new w [spV (a, b), spV (c, d)] _ (by simp)) (by simp) (fun p hp => by simp at hp; rcases hp with rfl | rfl; exact h; exact h')
  have e : hasD [(a, b), (c, d)] t = (hasOne (a, b) t || hasOne (c, d) t) := by simp [hasD]
  rw [e] at hc
  exact hc.mono fun _ _ ⟨he, hb'⟩ => ⟨he, below_trans hb hb' (by simp)⟩

theorem both_comm (a b c d : Nat) : bothD c d a b = bothD a b c d := by
  unfold bothD
  rw [Nat.max_comm c a, Nat.min_comm (c + d) (a + b)]

theorem both_none (a b c d : Nat) (t : Int) (h : bothD a b c d = none) : (hasOne (a, b) t && hasOne (c, d) t) = false := by
  unfold bothD at h
  split at h
  · cases h
  · rw [Bool.eq_false_iff]
    intro e
    simp [hasOne] at e
    omega

theorem both_some (a b c d u v : Nat) (t : Int) (h : bothD a b c d = some (u, v)) : hasOne (u, v) t = (hasOne (a, b) t && hasOne (c, d) t) ∧ u + v ≤ a + b := by
  unfold bothD at h
  split at h
  · injection h with h
    injection h with h1 h2
    subst h1 h2
    refine ⟨?_, by omega⟩
    rw [Bool.eq_iff_iff]
    simp [hasOne]
    omega
  · cases h

theorem around_has (a b c d : Nat) (t : Int) : (!(hasOne (a, b) t || hasOne (c, d) t) || hasOne (aroundD a b c d) t) = true := by
  unfold aroundD
  by_cases hd : d = 0
  · subst hd
    rw [if_pos rfl]
    have : hasOne (c, 0) t = false := by simp [hasOne]
    rw [this]
    cases hasOne (a, b) t <;> rfl
  · rw [if_neg hd]
    by_cases hb : b = 0
    · subst hb
      rw [if_pos rfl]
      have : hasOne (a, 0) t = false := by simp [hasOne]
      rw [this]
      cases hasOne (c, d) t <;> rfl
    · rw [if_neg hb]
      have h : (hasOne (a, b) t || hasOne (c, d) t) = true → hasOne (min a c, max (a + b) (c + d) - min a c) t = true := by
        simp [hasOne]
        omega
      cases he : (hasOne (a, b) t || hasOne (c, d) t)
      · rfl
      · rw [h he]; rfl

theorem around_le (a b c d : Nat) (h : a + b ≤ 1099511627776) (h' : c + d ≤ 1099511627776) : (aroundD a b c d).1 + (aroundD a b c d).2 ≤ 1099511627776 := by
  unfold aroundD
  split
  · exact h
  · split
    · exact h'
    · simp only; omega
end Go.Proofs.Ytcckbiaigcideaa
