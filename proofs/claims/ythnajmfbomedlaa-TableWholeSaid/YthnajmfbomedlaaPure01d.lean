/- Layer 1's plain mathematics, more: no beginning of what was laid is taken. -/
import Derived.Test.YthnajmfbomedlaaPure01b
namespace Copyhold

theorem tnGo_cut : ∀ (n k acc c : Nat), c < (numB n).length → k + (numB n).length ≤ 10 → tnGo k acc ((numB n).take c) = (0, [], 2) := by
  intro n
  induction n using Nat.strongRecOn with
  | _ n ih =>
    intro k acc c hc hk
    have hp := numB_pos n
    cases c with
    | zero => rw [List.take_zero, tnGo, if_pos (by omega)]
    | succ c =>
      by_cases hs : n < 128
      · rw [numB_small hs] at hc
        simp at hc
      · rw [numB_big hs] at hc hk ⊢
        simp only [List.length_cons] at hc hk
        have e : (UInt8.ofNat (n % 128 + 128)).toNat = n % 128 + 128 := by simp; omega
        rw [List.take_succ_cons, tnGo, if_pos (by omega), e, if_neg (by omega)]
        exact ih (n / 128) (by omega) _ _ c (by omega) (by omega)
theorem takeNum_cut (n c : Nat) (h : n < 18446744073709551616) (hc : c < (numB n).length) : takeNum ((numB n).take c) = (0, [], 2) :=
  tnGo_cut n 0 0 c hc (by have := numB_len10 n h; omega)
theorem takeCount_cut (n c : Nat) (most : Int) (h : n < 18446744073709551616) (hc : c < (numB n).length) : takeCount ((numB n).take c) most = (0, [], 2) := by
  unfold takeCount
  rw [takeNum_cut n c h hc]
  simp
theorem takeText_cut (l : List UInt8) (most : Int) (c : Nat) (h : l.length < 18446744073709551616) (hm : (l.length : Int) ≤ most) (hc : c < (textB l).length) : takeText ((textB l).take c) most = ([], [], 2) := by
  unfold textB at hc ⊢
  rw [List.length_append] at hc
  unfold takeText
  by_cases h1 : c < (numB l.length).length
  · rw [List.take_append_of_le_length (by omega), takeCount_cut _ _ _ h h1]
    simp
  · rw [List.take_append, List.take_of_length_le (by omega), takeCount_numB _ _ _ h, if_neg (show ¬ (most < 0 ∨ most < (l.length : Int)) by omega), if_neg (by simp)]
    simp only
    rw [if_pos (by rw [List.length_take]; omega)]
theorem takeTexts_cut (long : Int) (hl : 0 ≤ long) : ∀ (ts acc : List (List UInt8)) (c : Nat), (∀ t ∈ ts, (t.length : Int) ≤ long ∧ t.length < 18446744073709551616) → c < ((ts.map textB).flatten).length →
    takeTexts long ts.length acc (((ts.map textB).flatten).take c) = ([], [], 2)
  | [], acc, c, _, hc => by simp at hc
  | t :: ts, acc, c, h, hc => by
    have ht := h t (by simp)
    rw [List.map_cons, List.flatten_cons] at hc ⊢
    rw [List.length_append] at hc
    rw [List.length_cons, takeTexts]
    by_cases h1 : c < (textB t).length
    · rw [List.take_append_of_le_length (by omega), takeText_cut t long c ht.2 ht.1 h1]
      simp
    · rw [List.take_append, List.take_of_length_le (by omega), takeText_textB _ _ _ ht.2, if_neg (show ¬ (long < 0 ∨ long < (t.length : Int)) by omega), if_neg (by simp)]
      simp only
      exact takeTexts_cut long hl ts _ _ (fun u hu => h u (by simp [hu])) (by omega)
theorem takeList_cut (ts : List (List UInt8)) (most long : Int) (c : Nat) (hn : ts.length < 18446744073709551616) (hm : (ts.length : Int) ≤ most) (hl : 0 ≤ long) (h : ∀ t ∈ ts, (t.length : Int) ≤ long ∧ t.length < 18446744073709551616) (hc : c < (listB ts).length) :
    takeList ((listB ts).take c) most long = ([], [], 2) := by
  unfold listB at hc ⊢
  rw [List.length_append] at hc
  unfold takeList
  by_cases h1 : c < (numB ts.length).length
  · rw [List.take_append_of_le_length (by omega), takeCount_cut _ _ _ hn h1]
    simp
  · rw [List.take_append, List.take_of_length_le (by omega), takeCount_numB _ _ _ hn, if_neg (show ¬ (most < 0 ∨ most < (ts.length : Int)) by omega), if_neg (by simp)]
    simp only
    exact takeTexts_cut long hl ts [] _ h (by omega)
end Copyhold
