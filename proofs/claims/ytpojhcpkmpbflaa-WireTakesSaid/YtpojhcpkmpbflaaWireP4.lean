/- Layer 15, without a program: some numbers that are taken, one behind the other. -/
import Derived.Test.YtpojhcpkmpbflaaWireP3
set_option linter.unusedVariables false
namespace Go.Proofs.Ytpojhcpkmpbflaa
open Copyhold

/-- so many numbers, taken -/
def numsT : Nat → List UInt8 → List Int × List UInt8 × Int
  | 0, s => ([], s, 0)
  | k + 1, s => if (takeWhole s).2.2 = 0 then (if (numsT k (takeWhole s).2.1).2.2 = 0 then ((takeWhole s).1 :: (numsT k (takeWhole s).2.1).1, (numsT k (takeWhole s).2.1).2) else ([], [], (numsT k (takeWhole s).2.1).2.2)) else ([], [], (takeWhole s).2.2)
def stL : Nat → List UInt8 → Int → List Int × List UInt8 × Int
  | 0, s, e => ([], s, e)
  | k + 1, s, e => ((numSt s e).1 :: (stL k (numSt s e).2.1 (numSt s e).2.2).1, (stL k (numSt s e).2.1 (numSt s e).2.2).2)
theorem stL_bad : ∀ (k : Nat) (s : List UInt8) (e : Int), e ≠ 0 → (stL k s e).2.2 = e
  | 0, _, _, _ => rfl
  | k + 1, s, e, h => by
    unfold stL
    rw [numSt, stP_bad h]
    exact stL_bad k s e h
theorem numsT_st : ∀ (k : Nat) (s : List UInt8), numsT k s = if (stL k s 0).2.2 = 0 then stL k s 0 else ([], [], (stL k s 0).2.2)
  | 0, s => by unfold numsT stL; rw [if_pos rfl]
  | k + 1, s => by
    unfold numsT stL
    rw [numSt, stP_zero, numsT_st k (takeWhole s).2.1]
    by_cases h : (takeWhole s).2.2 = 0
    · rw [if_pos h, h]
      by_cases h2 : (stL k (takeWhole s).2.1 0).2.2 = 0
      · simp only [h2, if_true]
      · simp only [h2, if_false]
    · rw [if_neg h]
      have := stL_bad k (takeWhole s).2.1 _ h
      simp only [this, h, if_false]
theorem numsT_len : ∀ (k : Nat) (s : List UInt8), (numsT k s).1.length ≤ k ∧ (numsT k s).2.1.length ≤ s.length ∧ ((numsT k s).2.2 = 0 → (numsT k s).1.length = k) ∧ ∀ z ∈ (numsT k s).1, I64 z
  | 0, s => ⟨Nat.le_refl _, Nat.le_refl _, fun _ => rfl, by simp [numsT]⟩
  | k + 1, s => by
    obtain ⟨h1, h2, h3, h4⟩ := numsT_len k (takeWhole s).2.1
    have hw := takeWhole_bd s
    unfold numsT
    split
    · split
      · rename_i h0 h
        exact ⟨by simp only [List.length_cons]; omega, by dsimp only; omega, fun _ => by simp only [List.length_cons]; rw [h3 h], fun z hz => by
          simp only [List.mem_cons] at hz
          rcases hz with rfl | hz
          · exact hw.1
          · exact h4 z hz⟩
      · rename_i h0 h
        exact ⟨by simp, by simp, fun h' => absurd h' h, by simp⟩
    · rename_i h
      exact ⟨by simp, by simp, fun h' => absurd h' h, by simp⟩
/-- a further one, behind those that were taken -/
theorem numsT_bd : ∀ (k : Nat) (s : List UInt8), 0 ≤ (numsT k s).2.2 ∧ (numsT k s).2.2 ≤ 5
  | 0, s => by unfold numsT; simp
  | k + 1, s => by
    have h1 := numsT_bd k (takeWhole s).2.1
    have hw := takeWhole_bd s
    unfold numsT
    split
    · split
      · exact h1
      · exact h1
    · exact ⟨hw.2.2.1, by dsimp only; omega⟩

theorem takeCall_nums (s : List UInt8) : takeCall s = thenP call0 (numsT 5 s) fun l s => thenP call0 (takeText s 4096) fun f s => thenP call0 (takeText s 4096) fun g s => thenP call0 (takeText s 4096) fun h s => (⟨l.getD 0 0, l.getD 1 0, l.getD 2 0, l.getD 3 0, l.getD 4 0, f, g, h⟩, s, 0) := by
  rw [numsT_st]
  have h0 : stL 5 s 0 = ([(callT s 0).a.1, (callT s 0).b.1, (callT s 0).c.1, (callT s 0).d.1, (callT s 0).e.1], (callT s 0).e.2) := rfl
  have hf : (callT s 0).f = textSt (callT s 0).e.2.1 (callT s 0).e.2.2 := rfl
  have hg : (callT s 0).g = textSt (callT s 0).f.2.1 (callT s 0).f.2.2 := rfl
  have hh : (callT s 0).h = textSt (callT s 0).g.2.1 (callT s 0).g.2.2 := rfl
  rw [h0]
  unfold takeCall callSt CallT.out
  dsimp only
  clear h0
  generalize callT s 0 = t at *
  obtain ⟨a, b, c, d, e, f, g, h⟩ := t
  dsimp only at *
  subst hh hg hf
  by_cases h5 : e.2.2 = 0
  · rw [if_pos h5, thenP_ok (r := ([a.1, b.1, c.1, d.1, e.1], e.2)) h5, h5]
    simp only [textSt, stP_zero, List.getD_cons_zero, List.getD_cons_succ]
    by_cases h6 : (takeText e.2.1 4096).2.2 = 0
    · rw [thenP_ok h6, h6]
      simp only [stP_zero]
      generalize takeText e.2.1 4096 = f
      by_cases h7 : (takeText f.2.1 4096).2.2 = 0
      · rw [thenP_ok h7, h7]
        simp only [stP_zero]
        generalize takeText f.2.1 4096 = g
        by_cases h8 : (takeText g.2.1 4096).2.2 = 0
        · rw [thenP_ok h8, if_pos h8, h8]
        · rw [thenP_no h8, if_neg h8]
      · rw [thenP_no h7]; simp only [stP_bad h7]; rw [if_neg h7]
    · rw [thenP_no h6]; simp only [stP_bad h6]; rw [if_neg h6]
  · rw [if_neg h5, thenP_no (r := ([], [], e.2.2)) h5]
    simp only [textSt, stP_bad h5]
    rw [if_neg h5]
end Go.Proofs.Ytpojhcpkmpbflaa
