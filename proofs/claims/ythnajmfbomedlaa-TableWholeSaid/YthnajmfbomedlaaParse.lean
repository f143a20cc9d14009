/- Layers' plain mathematics: takers of texts one behind the other; what is laid is taken, no beginning of it is, what is taken was laid. No program. -/
import Derived.Test.YthnajmfbomedlaaPure01d
set_option linter.unusedVariables false
namespace Copyhold

/-- one taker behind another -/
def thenP {α β : Type} (bad : β) (r : α × List UInt8 × Int) (f : α → List UInt8 → β × List UInt8 × Int) : β × List UInt8 × Int :=
  if r.2.2 = 0 then f r.1 r.2.1 else (bad, [], r.2.2)

theorem thenP_ok {α β : Type} {bad : β} {r : α × List UInt8 × Int} {f : α → List UInt8 → β × List UInt8 × Int} (h : r.2.2 = 0) : thenP bad r f = f r.1 r.2.1 := if_pos h
theorem thenP_no {α β : Type} {bad : β} {r : α × List UInt8 × Int} {f : α → List UInt8 → β × List UInt8 × Int} (h : r.2.2 ≠ 0) : thenP bad r f = (bad, [], r.2.2) := if_neg h
theorem thenP_zero {α β : Type} {bad : β} {r : α × List UInt8 × Int} {f : α → List UInt8 → β × List UInt8 × Int} (h : (thenP bad r f).2.2 = 0) : r.2.2 = 0 := by
  unfold thenP at h
  split at h
  · assumption
  · exact h

/-- what is laid is taken, and no beginning of it -/
def Parses {α : Type} (t : List UInt8 → α × List UInt8 × Int) (B : List UInt8) (v : α) : Prop :=
  (∀ more, t (B ++ more) = (v, more, 0)) ∧ ∀ c, c < B.length → (t (B.take c)).2 = ([], 2)

theorem Parses.nil {α : Type} {t : List UInt8 → α × List UInt8 × Int} {v : α} (h : ∀ s, t s = (v, s, 0)) : Parses t [] v :=
  ⟨fun more => h more, fun c hc => absurd hc (by simp)⟩

theorem Parses.andThen {α β : Type} {t : List UInt8 → α × List UInt8 × Int} {B C : List UInt8} {v : α} {u bad : β} {f : α → List UInt8 → β × List UInt8 × Int} (h : Parses t B v) (k : Parses (f v) C u) :
    Parses (fun s => thenP bad (t s) f) (B ++ C) u := by
  constructor
  · intro more
    have := h.1 (C ++ more)
    simp only
    rw [List.append_assoc, this, thenP_ok rfl]
    exact k.1 more
  · intro c hc
    rw [List.length_append] at hc
    simp only
    by_cases h1 : c < B.length
    · rw [List.take_append_of_le_length (by omega)]
      have := h.2 c h1
      rw [thenP_no (by rw [this]; decide), this]
    · rw [List.take_append, List.take_of_length_le (by omega), h.1, thenP_ok rfl]
      exact k.2 _ (by omega)

theorem Parses.same {α : Type} {t t' : List UInt8 → α × List UInt8 × Int} {B B' : List UInt8} {v : α} (h : Parses t B v) (ht : ∀ s, t' s = t s) (hB : B' = B) : Parses t' B' v := by
  subst hB
  exact ⟨fun more => by rw [ht, h.1], fun c hc => by rw [ht, h.2 c hc]⟩

theorem takeNum_parses (n : Nat) (h : n < 18446744073709551616) : Parses takeNum (numB n) n :=
  ⟨fun more => takeNum_numB n more h, fun c hc => by rw [takeNum_cut n c h hc]⟩
theorem takeCount_parses (n : Nat) (most : Int) (h : n < 18446744073709551616) (hm : (n : Int) ≤ most) : Parses (fun s => takeCount s most) (numB n) n :=
  ⟨fun more => by simp only; rw [takeCount_numB _ _ _ h, if_neg (by omega)], fun c hc => by simp only; rw [takeCount_cut n c most h hc]⟩
theorem takeText_parses (l : List UInt8) (most : Int) (h : l.length < 18446744073709551616) (hm : (l.length : Int) ≤ most) : Parses (fun s => takeText s most) (textB l) l :=
  ⟨fun more => by simp only; rw [takeText_textB _ _ _ h, if_neg (by omega)], fun c hc => by simp only; rw [takeText_cut l most c h hm hc]⟩

theorem takeCount_laid (s : List UInt8) (most : Int) (h : (takeCount s most).2.2 = 0) : s = numB (takeCount s most).1 ++ (takeCount s most).2.1 ∧ ((takeCount s most).1 : Int) ≤ most ∧ (takeCount s most) = takeNum s := by
  unfold takeCount at h ⊢
  split at h
  · rename_i h1
    exact absurd h h1
  · rename_i h1
    split at h
    · cases h
    · rename_i h2
      rw [if_neg h1, if_neg h2]
      exact ⟨takeNum_laid s h, by omega, rfl⟩
end Copyhold
