/- Bytes in memory of a call's own, that '[]byte(s)' made: kept, stored into, turned back. Over any program. -/
import Derived.Test.YtpojhcpkmpbflaaMem
set_option linter.unusedVariables false
namespace Copyhold
open Go Go.RowKit

def Bts (w : World) (g : Nat) (l : List UInt8) : Prop :=
  g < w.heap.size ∧ ∀ j x, l[j]? = some x → w.cell? ⟨g, j, none⟩ = some (.int .u8 (x.toNat : Int)) ∧ w.frozen? ⟨g, j, none⟩ = false
theorem Bts.made (w : World) (e : TypeId) (l : List UInt8) : Bts (Lib.bytesWorld w e ⟨l.toArray⟩) w.heap.size l :=
  ⟨by rw [Lib.bytesWorld_size]; omega, fun j x hx => by
    obtain ⟨hj, rfl⟩ := List.getElem?_eq_some_iff.1 hx
    exact ⟨bytes_cell w e l j hj, bytes_free w e l j hj⟩⟩
theorem Bts.below {w w' : World} {g : Nat} {l : List UInt8} (h : Bts w g l) (hb : Below w.heap.size w w') : Bts w' g l :=
  ⟨Nat.lt_of_lt_of_le h.1 hb.size, fun j x hx => ⟨(hb.cell (p := ⟨g, j, none⟩) h.1).trans (h.2 j x hx).1, (hb.frozen (p := ⟨g, j, none⟩) h.1).trans (h.2 j x hx).2⟩⟩
theorem Bts.at {w : World} {g : Nat} {l : List UInt8} (h : Bts w g l) (k : Nat) (hk : k < l.length) : w.cell? ⟨g, k, none⟩ = some (.int .u8 (l[k].toNat : Int)) ∧ w.frozen? ⟨g, k, none⟩ = false := h.2 k _ (List.getElem?_eq_getElem hk)
theorem Bts.set {w : World} {g : Nat} {l : List UInt8} (h : Bts w g l) (k : Nat) (b : UInt8) (hk : k < l.length) : Bts (w.setCell ⟨g, k, none⟩ (.int .u8 (b.toNat : Int))) g (l.set k b) := by
  refine ⟨by simpa using h.1, fun j x hx => ⟨?_, ?_⟩⟩
  · by_cases hkj : k = j
    · subst hkj
      rw [World.cell?_setCell_same _ _ _ (h.at k hk).1]
      rw [List.getElem?_set_self hk] at hx
      injection hx with hx
      subst hx
      rfl
    · rw [World.cell?_setCell_other _ _ _ _ (by intro e; simp at e <;> exact hkj e)]
      rw [List.getElem?_set_ne hkj] at hx
      exact (h.2 j x hx).1
  · have hj : j < l.length := by have h9 := (List.getElem?_eq_some_iff.1 hx).1; rw [List.length_set] at h9; exact h9
    have := (h.at j hj).2
    simpa [go_sem] using this
theorem Bts.far {w : World} {g : Nat} {l : List UInt8} (h : Bts w g l) (b o : Nat) (v : Value) (hne : g ≠ b) : Bts (w.setCell ⟨b, o, none⟩ v) g l := by
  refine ⟨by simpa using h.1, fun j x hx => ⟨?_, ?_⟩⟩
  · rw [World.cell?_setCell_other _ _ _ _ (by intro e; simp at e <;> omega)]
    exact (h.2 j x hx).1
  · have := (h.2 j x hx).2
    simpa [go_sem] using this
theorem Bts.back {P : Program} {w : World} {g : Nat} {l : List UInt8} (h : Bts w g l) (src dst e : TypeId) (n cap : Nat) (hn : n = l.length) (hs : P.underlying src = some (.slice e)) (he : P.underlying e = some (.int .u8)) (hd : P.underlying dst = some .string) :
    (convert src dst (.slice (some ⟨g, 0, none⟩) n cap)).run P w = .ok (.string ⟨l.toArray⟩) w := by
  subst hn
  refine run_convert_bytes_back w src dst e ⟨g, 0, none⟩ cap l hs he hd fun j hj => ?_
  have hadd : (⟨g, 0, none⟩ : Addr).add j = ⟨g, j, none⟩ := by unfold Addr.add; split <;> simp_all
  rw [hadd]
  exact (h.at j hj).1
end Copyhold
