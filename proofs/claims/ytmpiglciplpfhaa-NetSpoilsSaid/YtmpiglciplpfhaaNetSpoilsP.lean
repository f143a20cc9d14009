/- The plain part of NetSpoils: a text that is spoilt twice by the same is as it was; spoilt by 0 it is, too. -/
import Derived.Test.YtmpiglciplpfhaaNetLaw
namespace Go.Proofs.Ytmpiglciplpfhaa.netSpoils
open Copyhold

theorem xor_xor (x y : UInt8) : x ^^^ y ^^^ y = x := by rw [UInt8.xor_assoc, UInt8.xor_self, UInt8.xor_zero]
theorem xor_ne (x y : UInt8) (h : y ≠ 0) : x ^^^ y ≠ x := fun e => h (by
  have : x ^^^ (x ^^^ y) = x ^^^ x := by rw [e]
  rwa [← UInt8.xor_assoc, UInt8.xor_self, UInt8.zero_xor] at this)

theorem row_set (n : NetD) (up : Bool) (l : List (List UInt8)) : rowN (setN n up l) up = l := by cases up <;> rfl
theorem set_set' (n : NetD) (up : Bool) (l k : List (List UInt8)) : setN (setN n up l) up k = setN n up k := by cases up <;> rfl
theorem set_row (n : NetD) (up : Bool) : setN n up (rowN n up) = n := by cases up <;> rfl
theorem set_inj (n : NetD) (up : Bool) (l : List (List UInt8)) : setN n up l = n ↔ l = rowN n up := by
  cases up
  · simp [setN, rowN, Prod.ext_iff]
  · simp [setN, rowN, Prod.ext_iff]

/-- the two ways: nothing is done, or a byte of a text is turned -/
theorem ways (n : NetD) (up : Bool) (i a : Int) : (∀ m y, (rowN m up).length = (rowN n up).length → ((rowN m up)[i.toNat]?.map List.length) = ((rowN n up)[i.toNat]?.map List.length) → spoilD m up i a y = (m, false)) ∨
    ∃ k b : Nat, ∃ s, (rowN n up)[k]? = some s ∧ b < s.length ∧ ∀ m t y, (rowN m up)[k]? = some t → t.length = s.length → spoilD m up i a y = (setN m up ((rowN m up).set k (spoilB t b y)), true) := by
  by_cases h : 0 ≤ i ∧ 0 ≤ a
  · cases hg : (rowN n up)[i.toNat]? with
    | none =>
      refine .inl fun m y _ hm => ?_
      have : (rowN m up)[i.toNat]? = none := by
        cases hh : (rowN m up)[i.toNat]? with
        | none => rfl
        | some x => rw [hh] at hm; simp at hm
      unfold spoilD
      rw [if_pos h, this]
    | some s =>
      by_cases hl : a.toNat < s.length
      · refine .inr ⟨i.toNat, a.toNat, s, hg, hl, fun m t y ht htl => ?_⟩
        unfold spoilD
        rw [if_pos h, ht]
        simp only
        rw [if_pos (by omega)]
      · refine .inl fun m y _ hm => ?_
        cases hh : (rowN m up)[i.toNat]? with
        | none => rw [hh] at hm; simp at hm
        | some x =>
          rw [hh] at hm
          simp at hm
          unfold spoilD
          rw [if_pos h, hh]
          simp only
          rw [if_neg (by omega)]
  · refine .inl fun m y _ _ => ?_
    unfold spoilD
    rw [if_neg h]

theorem spoilB_len (s : List UInt8) (b : Nat) (y : UInt8) : (spoilB s b y).length = s.length := by simp [spoilB]
theorem spoilB_two (s : List UInt8) (b : Nat) (y : UInt8) (hb : b < s.length) : spoilB (spoilB s b y) b y = s := by
  unfold spoilB
  have hg : (s.set b (s.getD b 0 ^^^ y)).getD b 0 = s.getD b 0 ^^^ y := by rw [List.getD_eq_getElem?_getD, List.getElem?_set_self hb, Option.getD_some]
  rw [hg, List.set_set, xor_xor]
  apply List.ext_getElem (by simp)
  intro j h1 h2
  rw [List.getElem_set]
  split
  · rename_i h; subst h; simp [List.getD, hb]
  · rfl
theorem spoilB_zero (s : List UInt8) (b : Nat) (hb : b < s.length) : spoilB s b 0 = s := by
  unfold spoilB
  rw [UInt8.xor_zero]
  apply List.ext_getElem (by simp)
  intro j h1 h2
  rw [List.getElem_set]
  split
  · rename_i h; subst h; simp [List.getD, hb]
  · rfl
theorem spoilB_ne (s : List UInt8) (b : Nat) (y : UInt8) (hb : b < s.length) (hy : y ≠ 0) : spoilB s b y ≠ s := fun e => by
  have h : (spoilB s b y)[b]? = s[b]? := by rw [e]
  unfold spoilB at h
  rw [List.getElem?_set_self hb, List.getElem?_eq_getElem hb, List.getD_eq_getElem?_getD, List.getElem?_eq_getElem hb, Option.getD_some] at h
  exact xor_ne _ _ hy (by simpa using h)

theorem sameN_iff (a b : NetD) : sameN a b = decide (a = b) := by
  unfold sameN sameTexts
  rw [Bool.eq_iff_iff]
  simp [Prod.ext_iff]

theorem set_get (l : List (List UInt8)) (k : Nat) (s : List UInt8) (h : l[k]? = some s) : l.set k s = l := by
  apply List.ext_getElem (by simp)
  intro j h1 h2
  rw [List.getElem_set]
  split
  · rename_i e; subst e; rw [List.getElem?_eq_getElem h2] at h; simpa using h.symm
  · rfl

theorem facts (n : NetD) (up : Bool) (i a : Int) (y : UInt8) : ∃ m e, spoilD n up i a y = (m, e) ∧ spoilD m up i a y = (n, e) ∧ (∃ f, spoilD n up i a 0 = (n, f)) ∧ (e && decide (y ≠ 0)) = !sameN m n ∧ m.1.length = n.1.length ∧ m.2.length = n.2.length ∧
    ((∀ l ∈ rowN n up, l.length ≤ 140737488351232) → ∀ l ∈ rowN m up, l.length ≤ 140737488351232) := by
  rcases ways n up i a with h | ⟨k, b, s, hs, hb, h⟩
  · refine ⟨n, false, h n y rfl rfl, h n y rfl rfl, ⟨false, h n 0 rfl rfl⟩, ?_, rfl, rfl, fun h => h⟩
    rw [sameN_iff]
    simp
  · have hk : k < (rowN n up).length := (List.getElem?_eq_some_iff.1 hs).1
    refine ⟨_, true, h n s y hs rfl, ?_, ⟨true, ?_⟩, ?_, ?_, ?_, ?_⟩
    · rw [h _ (spoilB s b y) y (by rw [row_set, List.getElem?_set_self hk]) (spoilB_len s b y), row_set, List.set_set, spoilB_two s b y hb, set_set', set_get _ _ _ hs, set_row]
    · rw [h n s 0 hs rfl, spoilB_zero s b hb, set_get _ _ _ hs, set_row]
    · rw [sameN_iff, Bool.true_and, ← decide_not]
      congr 1
      rw [set_inj]
      refine propext ⟨fun hy e => ?_, fun h e => h (by rw [e, spoilB_zero s b hb, set_get _ _ _ hs])⟩
      have : ((rowN n up).set k (spoilB s b y))[k]? = (rowN n up)[k]? := by rw [e]
      rw [List.getElem?_set_self hk, hs] at this
      exact spoilB_ne s b y hb hy (by simpa using this)
    · cases up <;> simp [setN, rowN]
    · cases up <;> simp [setN, rowN]
    · intro hl l hm
      rw [row_set] at hm
      rcases List.mem_or_eq_of_mem_set hm with hm | rfl
      · exact hl l hm
      · rw [spoilB_len]
        exact hl s (List.mem_of_getElem? hs)
end Go.Proofs.Ytmpiglciplpfhaa.netSpoils
