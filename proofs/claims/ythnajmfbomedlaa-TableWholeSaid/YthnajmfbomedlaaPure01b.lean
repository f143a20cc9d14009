/- Layer 1's plain mathematics, more: what was laid is taken as it was; what is taken was laid. -/
import Derived.Test.YthnajmfbomedlaaPure01
namespace Copyhold

theorem pow9 : (128 : Nat) ^ 9 = 9223372036854775808 := by decide
theorem pow_ge9 (k : Nat) (h : 9 ≤ k) : 9223372036854775808 ≤ 128 ^ k := by rw [← pow9]; exact Nat.pow_le_pow_right (by decide) h

theorem tnGo_numB : ∀ (n k acc : Nat) (more : List UInt8), n * 128 ^ k < 18446744073709551616 → (k = 0 ∨ 0 < n) → tnGo k acc (numB n ++ more) = (acc + n * 128 ^ k, more, 0) := by
  intro n
  induction n using Nat.strongRecOn with
  | _ n ih =>
    intro k acc more hn h0
    have hk : k ≤ 9 := by
      rcases h0 with rfl | h0
      · omega
      · by_cases hk : k ≤ 9
        · exact hk
        · have h1 : (128 : Nat) ^ 10 ≤ 128 ^ k := Nat.pow_le_pow_right (by decide) (by omega)
          have h2 : 1 * 128 ^ k ≤ n * 128 ^ k := Nat.mul_le_mul_right _ h0
          have h3 : (128 : Nat) ^ 10 = 1180591620717411303424 := by decide
          omega
    have hk9 : k = 9 → n ≤ 1 := by
      rintro rfl
      rw [pow9] at hn
      omega
    by_cases hs : n < 128
    · rw [numB_small hs]
      have e : (UInt8.ofNat n).toNat = n := by simp; omega
      rw [List.cons_append, List.nil_append, tnGo, if_pos (by omega), e, if_pos hs, if_neg (by omega)]
    · rw [numB_big hs]
      have e : (UInt8.ofNat (n % 128 + 128)).toNat = n % 128 + 128 := by simp; omega
      rw [List.cons_append, tnGo, if_pos (by omega), e, if_neg (by omega)]
      have hd : n / 128 * 128 ^ (k + 1) + n % 128 * 128 ^ k = n * 128 ^ k := by
        rw [Nat.pow_succ, Nat.mul_comm (128 ^ k) 128, ← Nat.mul_assoc, ← Nat.add_mul]
        congr 1
        omega
      rw [ih (n / 128) (by omega) (k + 1) _ more (by omega) (.inr (by omega))]
      have : (n % 128 + 128) % 128 = n % 128 := by omega
      rw [this]
      congr 1
      omega

theorem takeNum_numB (n : Nat) (more : List UInt8) (h : n < 18446744073709551616) : takeNum (numB n ++ more) = (n, more, 0) := by
  unfold takeNum
  rw [tnGo_numB n 0 0 more (by simpa using h) (.inl rfl)]
  simp

/-- what is taken was laid -/
theorem tnGo_laid : ∀ (l : List UInt8) (k acc : Nat), (tnGo k acc l).2.2 = 0 → ∃ n, (k = 0 ∨ 0 < n) ∧ (tnGo k acc l).1 = acc + n * 128 ^ k ∧ l = numB n ++ (tnGo k acc l).2.1
  | [], k, acc, h => by rw [tnGo] at h; split at h <;> simp at h
  | b :: r, k, acc, h => by
    have hb := b.toNat_lt
    rw [tnGo] at h ⊢
    split at h
    · rename_i h1
      rw [if_pos h1]
      split at h
      · rename_i h2
        rw [if_pos h2]
        split at h
        · simp at h
        · rename_i h3
          rw [if_neg h3]
          refine ⟨b.toNat, by omega, rfl, ?_⟩
          rw [numB_small h2]
          simp
      · rename_i h2
        rw [if_neg h2]
        obtain ⟨n, hn0, hn1, hn2⟩ := tnGo_laid r _ _ h
        have hn : 0 < n := by rcases hn0 with h | h <;> omega
        refine ⟨n * 128 + b.toNat % 128, .inr (by omega), ?_, ?_⟩
        · rw [hn1, Nat.pow_succ, Nat.add_mul, Nat.mul_comm (128 ^ k) 128, ← Nat.mul_assoc]
          omega
        · rw [numB_big (by omega), show (n * 128 + b.toNat % 128) / 128 = n from by omega, show (n * 128 + b.toNat % 128) % 128 + 128 = b.toNat from by omega, List.cons_append, ← hn2]
          simp
    · simp at h
theorem takeNum_laid (l : List UInt8) (h : (takeNum l).2.2 = 0) : l = numB (takeNum l).1 ++ (takeNum l).2.1 := by
  obtain ⟨n, _, h1, h2⟩ := tnGo_laid l 0 0 h
  have : (takeNum l).1 = n := by rw [takeNum, h1]; simp
  rw [this]
  exact h2

theorem takeCount_numB (n : Nat) (most : Int) (more : List UInt8) (h : n < 18446744073709551616) :
    takeCount (numB n ++ more) most = if most < 0 ∨ most < (n : Int) then (0, [], 5) else (n, more, 0) := by
  unfold takeCount
  rw [takeNum_numB n more h]
  simp
theorem takeText_textB (l : List UInt8) (most : Int) (more : List UInt8) (h : l.length < 18446744073709551616) :
    takeText (textB l ++ more) most = if most < 0 ∨ most < (l.length : Int) then ([], [], 5) else (l, more, 0) := by
  unfold takeText textB
  rw [List.append_assoc, takeCount_numB _ most _ h]
  split
  · simp
  · simp

theorem takeText_laid (l : List UInt8) (most : Int) (h : (takeText l most).2.2 = 0) : l = textB (takeText l most).1 ++ (takeText l most).2.1 ∧ ((takeText l most).1.length : Int) ≤ most := by
  unfold takeText at h ⊢
  split at h
  · rename_i h1; exact absurd h h1
  · rename_i h1
    rw [if_neg h1]
    have h1' : (takeCount l most).2.2 = 0 := by simpa using h1
    split at h
    · simp at h
    · rename_i h2
      rw [if_neg h2]
      have hl : l = numB (takeCount l most).1 ++ (takeCount l most).2.1 ∧ ((takeCount l most).1 : Int) ≤ most := by
        unfold takeCount at h1' ⊢
        split at h1'
        · rename_i h3; exact absurd h1' h3
        · rename_i h3
          rw [if_neg h3]
          split at h1'
          · simp at h1'
          · rename_i h4
            rw [if_neg h4]
            exact ⟨takeNum_laid l h1', by omega⟩
      obtain ⟨hl, hm⟩ := hl
      have hlen : ((takeCount l most).2.1.take (takeCount l most).1).length = (takeCount l most).1 := by
        rw [List.length_take]; omega
      simp only
      refine ⟨?_, by omega⟩
      unfold textB
      rw [hlen, List.append_assoc, List.take_append_drop]
      exact hl

theorem takeTexts_laid (long : Int) : ∀ (n : Nat) (acc : List (List UInt8)) (l : List UInt8), (takeTexts long n acc l).2.2 = 0 →
    ∃ ts, (takeTexts long n acc l).1 = acc ++ ts ∧ ts.length = n ∧ l = (ts.map textB).flatten ++ (takeTexts long n acc l).2.1
  | 0, acc, l, _ => ⟨[], by simp [takeTexts]⟩
  | n + 1, acc, l, h => by
    rw [takeTexts] at h ⊢
    split at h
    · rename_i h1; exact absurd h h1
    · rename_i h1
      rw [if_neg h1]
      have h1' : (takeText l long).2.2 = 0 := by simpa using h1
      obtain ⟨ts, h2, h3, h4⟩ := takeTexts_laid long n _ _ h
      have h5 := (takeText_laid l long h1').1
      refine ⟨(takeText l long).1 :: ts, ?_, by simp [h3], ?_⟩
      · rw [h2]; simp
      · rw [List.map_cons, List.flatten_cons, List.append_assoc, ← h4]
        exact h5

theorem takeList_laid (l : List UInt8) (most long : Int) (h : (takeList l most long).2.2 = 0) : l = listB (takeList l most long).1 ++ (takeList l most long).2.1 := by
  unfold takeList at h ⊢
  split at h
  · rename_i h1; exact absurd h h1
  · rename_i h1
    rw [if_neg h1]
    have h1' : (takeCount l most).2.2 = 0 := by simpa using h1
    have hl : l = numB (takeCount l most).1 ++ (takeCount l most).2.1 := by
      unfold takeCount at h1' ⊢
      split at h1'
      · rename_i h3; exact absurd h1' h3
      · rename_i h3
        rw [if_neg h3]
        split at h1'
        · simp at h1'
        · rename_i h4
          rw [if_neg h4]
          exact takeNum_laid l h1'
    obtain ⟨ts, h2, h3, h4⟩ := takeTexts_laid long _ _ _ h
    rw [h2, List.nil_append]
    unfold listB
    rw [h3, List.append_assoc, ← h4]
    exact hl

theorem sum_le_listB (ls : List (List UInt8)) : (ls.map List.length).sum + ls.length ≤ (listB ls).length := by
  have h : ∀ l : List (List UInt8), (l.map List.length).sum + l.length ≤ ((l.map textB).flatten).length := by
    intro l
    induction l with
    | nil => simp
    | cons x r ih =>
      have := numB_pos x.length
      simp only [List.map_cons, List.sum_cons, List.length_cons, List.flatten_cons, List.length_append, textB]
      omega
  have := h ls
  simp only [listB, List.length_append]
  omega

theorem takeTexts_err (long : Int) : ∀ (n : Nat) (acc : List (List UInt8)) (l : List UInt8), (takeTexts long n acc l).2.2 ≠ 0 → (takeTexts long n acc l).1 = []
  | 0, acc, l, h => by simp [takeTexts] at h
  | n + 1, acc, l, h => by
    rw [takeTexts] at h ⊢
    split
    · rfl
    · rename_i h1
      rw [if_neg h1] at h
      exact takeTexts_err long n _ _ h
theorem takeList_len (l : List UInt8) (most long : Int) : (takeList l most long).1.length ≤ l.length := by
  by_cases h : (takeList l most long).2.2 = 0
  · have h1 := congrArg List.length (takeList_laid l most long h)
    have h2 := sum_le_listB (takeList l most long).1
    rw [List.length_append] at h1
    omega
  · have : (takeList l most long).1 = [] := by
      unfold takeList at h ⊢
      split
      · rfl
      · rename_i h1
        rw [if_neg h1] at h
        exact takeTexts_err long _ _ _ h
    rw [this]; simp
theorem takeTexts_bd (long : Int) : ∀ (n : Nat) (acc : List (List UInt8)) (l : List UInt8), 0 ≤ (takeTexts long n acc l).2.2 ∧ (takeTexts long n acc l).2.2 ≤ 5
  | 0, acc, l => by simp [takeTexts]
  | n + 1, acc, l => by
    rw [takeTexts]
    split
    · have := takeText_bd l long; simp; omega
    · exact takeTexts_bd long n _ _
theorem takeList_bd (l : List UInt8) (most long : Int) : 0 ≤ (takeList l most long).2.2 ∧ (takeList l most long).2.2 ≤ 5 := by
  unfold takeList
  split
  · have := takeCount_bd l most; simp; omega
  · exact takeTexts_bd long _ _ _

theorem takeTexts_flat (long : Int) (hl : 0 ≤ long) : ∀ (ts acc : List (List UInt8)) (more : List UInt8), (∀ t ∈ ts, (t.length : Int) ≤ long ∧ t.length < 18446744073709551616) →
    takeTexts long ts.length acc ((ts.map textB).flatten ++ more) = (acc ++ ts, more, 0)
  | [], acc, more, _ => by simp [takeTexts]
  | t :: ts, acc, more, h => by
    have ht := h t (by simp)
    rw [List.length_cons, takeTexts, List.map_cons, List.flatten_cons, List.append_assoc, takeText_textB _ _ _ ht.2, if_neg (show ¬ (long < 0 ∨ long < (t.length : Int)) by omega), if_neg (by simp)]
    simp only
    rw [takeTexts_flat long hl ts _ more (fun u hu => h u (by simp [hu]))]
    simp
theorem takeList_listB (ts : List (List UInt8)) (most long : Int) (more : List UInt8) (hn : ts.length < 18446744073709551616) (hl : 0 ≤ long) (h : ∀ t ∈ ts, (t.length : Int) ≤ long ∧ t.length < 18446744073709551616) :
    takeList (listB ts ++ more) most long = if most < 0 ∨ most < (ts.length : Int) then ([], [], 5) else (ts, more, 0) := by
  unfold takeList listB
  rw [List.append_assoc, takeCount_numB _ _ _ hn]
  split
  · simp
  · rw [if_neg (by simp)]
    simp only
    rw [takeTexts_flat long hl ts [] more h]
    simp
end Copyhold
