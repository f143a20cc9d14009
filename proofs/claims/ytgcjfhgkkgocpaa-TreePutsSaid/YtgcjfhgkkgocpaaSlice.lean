/- Pieces of slices, over any program: what 's[:i]' and 's[i:]' are, and what they read as; make with room. -/
import Derived.Test.YtgcjfhgkkgocpaaMem
namespace Copyhold
open Go Go.RowKit
def cutA (A : Option Addr) (c i size : Nat) : Option Addr := if c = i then A else A.map (·.add (i * size))
theorem Sl.pre {w : World} {k : Nat} {A : Option Addr} {n c : Nat} {xs : List Value} (h : Sl w k (.slice A n c) n xs) (i : Nat) (hi : i ≤ n) : Sl w k (.slice A i c) i (xs.take (i * k)) := by
  obtain ⟨A', c', he, hc, hl, hh⟩ := h
  simp only [Value.slice.injEq] at he
  obtain ⟨rfl, _, rfl⟩ := he
  have hik : i * k ≤ n * k := Nat.mul_le_mul_right _ hi
  refine ⟨A, c, rfl, by omega, by rw [List.length_take]; omega, fun h0 => ?_⟩
  obtain ⟨b, off, rfl, hb, hcell⟩ := hh (by omega)
  refine ⟨b, off, rfl, hb, fun j x hx => hcell j x ?_⟩
  rw [List.getElem?_take] at hx
  split at hx
  · exact hx
  · cases hx
theorem Sl.post {w : World} {k : Nat} {A : Option Addr} {n c : Nat} {xs : List Value} (h : Sl w k (.slice A n c) n xs) (i : Nat) (hi : i ≤ n) : Sl w k (.slice (cutA A c i k) (n - i) (c - i)) (n - i) (xs.drop (i * k)) := by
  obtain ⟨A', c', he, hc, hl, hh⟩ := h
  simp only [Value.slice.injEq] at he
  obtain ⟨rfl, _, rfl⟩ := he
  refine ⟨_, _, rfl, by omega, by rw [List.length_drop, hl, Nat.sub_mul], fun h0 => ?_⟩
  obtain ⟨b, off, rfl, hb, hcell⟩ := hh (by omega)
  refine ⟨b, off + i * k, ?_, hb, fun j x hx => ?_⟩
  · rw [cutA, if_neg (by omega), Option.map_some, add_plain']
  · rw [Nat.add_assoc]
    refine hcell _ _ ?_
    rw [← hx, List.getElem?_drop]
end Copyhold
