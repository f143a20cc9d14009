/- The plain part of DataMends: of two texts of one length, the pieces of the one, patched into the other where they differ, make the one of it; of the same texts there are none. No condition beyond the form's own reach. -/
import Derived.Test.YtgmpgmhbfkdalaaDataShown
import Derived.Test.YtgmpgmhbfkdalaaMend
import Derived.Test.YtgmpgmhbfkdalaaDataSplit
import Derived.Test.YtgmpgmhbfkdalaaDataSame
namespace Go.Proofs.Ytgmpgmhbfkdalaa.dataMends
open Go.ChangeShapes Go.WideShapes Go.ChangeAt Go.RowKit Copyhold
open Go.ChangeMaps (open_string shut_string)
set_option linter.unusedVariables false
attribute [local go_sem] piece

/-- a place is in one of the spans -/
def In (xs : List (Nat × Nat)) (i : Nat) : Prop := ∃ p ∈ xs, p.1 ≤ i ∧ i < p.1 + p.2

theorem bump_in (r : List (Nat × Nat)) (n i : Nat) : In (bumpR r n) i ↔ In r i ∨ i = n := by
  cases r with
  | nil => simp [bumpR, In]; omega
  | cons x r =>
    obtain ⟨p, m⟩ := x
    by_cases h : p + m = n
    · rw [bumpR, if_pos h]
      simp only [In, List.mem_cons, exists_eq_or_imp]
      constructor
      · rintro (h1 | h1)
        · by_cases hi : i = n
          · exact .inr hi
          · exact .inl (.inl (by omega))
        · exact .inl (.inr h1)
      · rintro ((h1 | h1) | h1)
        · exact .inl (by omega)
        · exact .inr h1
        · exact .inl (by omega)
    · rw [bumpR, if_neg h]
      simp only [In, List.mem_cons, exists_eq_or_imp]
      constructor
      · rintro (h1 | h1)
        · exact .inr (by omega)
        · exact .inl h1
      · rintro (h1 | h1)
        · exact .inr h1
        · exact .inl (by omega)

theorem unlikeR_in (a b : List UInt8) (n i : Nat) : In (unlikeR a b n) i ↔ i < n ∧ a[i]? ≠ b[i]? := by
  induction n with
  | zero => simp [unlikeR, In]
  | succ n ih =>
    unfold unlikeR
    split
    · rename_i h
      rw [ih]
      constructor
      · rintro ⟨h1, h2⟩; exact ⟨by omega, h2⟩
      · rintro ⟨h1, h2⟩
        refine ⟨?_, h2⟩
        rcases Nat.lt_or_eq_of_le (Nat.le_of_lt_succ h1) with h' | rfl
        · exact h'
        · exact absurd h h2
    · rename_i h
      rw [bump_in, ih]
      constructor
      · rintro (⟨h1, h2⟩ | rfl)
        · exact ⟨by omega, h2⟩
        · exact ⟨by omega, h⟩
      · rintro ⟨h1, h2⟩
        rcases Nat.lt_or_eq_of_le (Nat.le_of_lt_succ h1) with h' | rfl
        · exact .inl ⟨h', h2⟩
        · exact .inr rfl

theorem unlikeR_pos (a b : List UInt8) (n : Nat) : ∀ p ∈ unlikeR a b n, 0 < p.2 ∧ p.1 + p.2 ≤ n := by
  induction n with
  | zero => simp [unlikeR]
  | succ n ih =>
    unfold unlikeR
    split
    · intro p hp; have := ih p hp; omega
    · cases h : unlikeR a b n with
      | nil => intro p hp; simp [bumpR] at hp; subst hp; simp
      | cons x r =>
        rw [h] at ih
        by_cases hx : x.1 + x.2 = n
        · rw [bumpR, if_pos hx]
          intro p hp
          rcases List.mem_cons.1 hp with rfl | hp
          · simp; omega
          · have := ih p (List.mem_cons_of_mem _ hp); omega
        · rw [bumpR, if_neg hx]
          intro p hp
          rcases List.mem_cons.1 hp with rfl | hp
          · simp
          · have := ih p hp; omega

theorem unlikeR_comm (a b : List UInt8) (n : Nat) : unlikeR a b n = unlikeR b a n := by
  induction n with
  | zero => rfl
  | succ n ih =>
    unfold unlikeR
    by_cases h : a[n]? = b[n]?
    · rw [if_pos h, if_pos h.symm, ih]
    · rw [if_neg h, if_neg (fun e => h e.symm), ih]

theorem unlikeD_comm (a b : List UInt8) : unlikeD a b = unlikeD b a := by
  unfold unlikeD
  rw [unlikeR_comm, Nat.max_comm]

/-- what pieces of t make of a text: at the spans' places it is t, else as it was -/
theorem patch_all (s t : List UInt8) (ht : t.length ≤ 4000) : ∀ (xs : List (Nat × Nat)) (out : List UInt8), out.length = t.length → (∀ p ∈ xs, 0 < p.2 ∧ p.1 + p.2 ≤ t.length) →
    ∃ r, patchGo s out xs (piecesD t xs) = (r, 0) ∧ r.length = t.length ∧ ∀ i, i < t.length → (In xs i → r.getD i 0 = t.getD i 0) ∧ (¬ In xs i → r.getD i 0 = out.getD i 0)
  | [], out, ho, _ => ⟨out, rfl, ho, fun i hi => ⟨fun h => (by obtain ⟨_, h, _⟩ := h; exact absurd h (by simp)), fun _ => rfl⟩⟩
  | p :: xs, out, ho, hx => by
    have hp := hx p List.mem_cons_self
    have hrd : (readD t p.1 p.2).1 = (t.drop p.1).take p.2 := by
      unfold readD
      rw [if_pos (by omega)]
      simp
    have hlen : ((t.drop p.1).take p.2).length = p.2 := by simp; omega
    have hne : (t.drop p.1).take p.2 ≠ [] := by intro e; rw [e] at hlen; simp at hlen; omega
    have hw : writeD out p.1 ((t.drop p.1).take p.2) = (putD out p.1 ((t.drop p.1).take p.2), 0) := by
      rw [dataSplit.writeD_ok _ _ _ (by omega), if_neg hne]
    have hpl : (putD out p.1 ((t.drop p.1).take p.2)).length = t.length := by rw [putD_length, hlen]; omega
    obtain ⟨r, hr, hrl, hri⟩ := patch_all s t ht xs (putD out p.1 ((t.drop p.1).take p.2)) hpl (fun q hq => hx q (List.mem_cons_of_mem _ hq))
    refine ⟨r, ?_, hrl, fun i hi => ?_⟩
    · show patchGo s out (p :: xs) ((readD t p.1 p.2).1 :: piecesD t xs) = _
      rw [patchGo, hrd, hw, if_pos rfl]
      exact hr
    · obtain ⟨hr1, hr2⟩ := hri i hi
      have hput : (putD out p.1 ((t.drop p.1).take p.2)).getD i 0 = if p.1 ≤ i ∧ i < p.1 + p.2 then t.getD i 0 else out.getD i 0 := by
        rw [List.getD_eq_getElem?_getD, dataSplit.get_putD, hlen, if_pos (by omega)]
        simp only [Option.getD_some]
        by_cases h : p.1 ≤ i ∧ i < p.1 + p.2
        · rw [if_pos h, if_pos h]
          simp only [List.getD_eq_getElem?_getD]
          rw [List.getElem?_take, if_pos (by omega), List.getElem?_drop, show p.1 + (i - p.1) = i from by omega]
        · rw [if_neg h, if_neg h]
      by_cases h1 : In xs i
      · rw [hr1 h1]
        obtain ⟨q, hq, hh⟩ := h1
        exact ⟨fun _ => rfl, fun h => absurd ⟨q, List.mem_cons_of_mem _ hq, hh⟩ h⟩
      · rw [hr2 h1, hput]
        by_cases h2 : p.1 ≤ i ∧ i < p.1 + p.2
        · rw [if_pos h2]
          exact ⟨fun _ => rfl, fun h => absurd ⟨p, List.mem_cons_self, h2⟩ h⟩
        · rw [if_neg h2]
          refine ⟨fun h => ?_, fun _ => rfl⟩
          obtain ⟨q, hq, hh⟩ := h
          rcases List.mem_cons.1 hq with rfl | hq
          · exact absurd hh h2
          · exact absurd ⟨q, hq, hh⟩ h1

theorem mends (s t : List UInt8) (hl : s.length = t.length) (ht : t.length ≤ 4000) : patchD s (unlikeD s t) (piecesD t (unlikeD s t)) = (t, 0) := by
  have hx : ∀ p ∈ unlikeD s t, 0 < p.2 ∧ p.1 + p.2 ≤ t.length := by
    intro p hp
    unfold unlikeD at hp
    have := unlikeR_pos s t _ p (List.mem_reverse.1 hp)
    omega
  obtain ⟨r, hr, hrl, hri⟩ := patch_all s t ht (unlikeD s t) s hl hx
  unfold patchD
  rw [if_pos (by simp [piecesD]), hr]
  congr 1
  apply List.ext_getElem hrl
  intro i h1 h2
  obtain ⟨hr1, hr2⟩ := hri i h2
  have hg : r.getD i 0 = r[i] := by simp [List.getD, h1]
  rw [← hg]
  by_cases hin : In (unlikeD s t) i
  · rw [hr1 hin]
    simp [List.getD, h2]
  · rw [hr2 hin]
    have hin' : ¬ In (unlikeR s t (max s.length t.length)) i := by
      intro ⟨p, hp, hh⟩
      exact hin ⟨p, by unfold unlikeD; exact List.mem_reverse.2 hp, hh⟩
    rw [unlikeR_in] at hin'
    have : s[i]? = t[i]? := by
      refine Classical.byContradiction fun e => hin' ⟨by omega, e⟩
    rw [List.getD_eq_getElem?_getD, this]
    simp [h2]

theorem small_unlike (s t : List UInt8) (h : max s.length t.length ≤ 4000) : Small (unlikeD s t) := by
  intro p hp
  unfold unlikeD at hp
  have := unlikeR_pos s t _ p (List.mem_reverse.1 hp)
  omega

theorem unlike_len (s t : List UInt8) : (unlikeD s t).length ≤ max s.length t.length := by
  unfold unlikeD
  rw [List.length_reverse]
  exact (unlikeR_end s t _).2.1

theorem pieces_len (t : List UInt8) (h : t.length ≤ 4000) (xs : List (Nat × Nat)) : ∀ l ∈ piecesD t xs, l.length ≤ 140737488355328 := by
  intro l hl
  unfold piecesD at hl
  obtain ⟨p, _, rfl⟩ := List.mem_map.1 hl
  unfold readD
  split
  · rw [List.length_take, List.length_drop]; omega
  · simp

end Go.Proofs.Ytgmpgmhbfkdalaa.dataMends
