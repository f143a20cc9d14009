/- Small laws of our own for the walks, over any program: bytes that a call owns turned into a string; what is owned kept while worlds go on. No conditions beyond each law's own. -/
import Derived.WalkKit
import Derived.WalkLawsBesides
import Derived.WalkSpells
import Derived.Lib.Hide
import Derived.Lib.ConvBytes
namespace Copyhold
open Go Go.RowKit
@[go_sem] theorem cat (x y : List UInt8) : (⟨x.toArray⟩ : ByteArray) ++ ⟨y.toArray⟩ = ⟨(x ++ y).toArray⟩ := by
  apply ByteArray.ext
  simp
theorem piece (l : List UInt8) (a b : Nat) : (⟨l.toArray⟩ : ByteArray).extract a b = ⟨((l.take b).drop a).toArray⟩ := by
  apply ByteArray.ext
  simp [List.drop_take]
def strV (l : List UInt8) : Value := .string ⟨l.toArray⟩
def Row (w : World) (v : Value) (xs : List Value) : Prop :=
  (∃ a c, v = .slice a 0 c ∧ xs = []) ∨
  ∃ b off cap, v = .slice (some ⟨b, off, none⟩) xs.length cap ∧ 0 < xs.length ∧ xs.length ≤ cap ∧ b < w.heap.size ∧ ∀ (i : Nat) x, xs[i]? = some x → w.cell? ⟨b, off + i, none⟩ = some x
theorem Row.below {w w' : World} {v : Value} {xs : List Value} (h : Row w v xs) (hb : Below w.heap.size w w') : Row w' v xs := by
  rcases h with h | ⟨b, off, cap, rfl, h0, hc, hbk, hcell⟩
  · exact .inl h
  · have := hb.size
    exact .inr ⟨b, off, cap, rfl, h0, hc, by omega, fun i x hx => (hb.cell (p := ⟨b, off + i, none⟩) hbk).trans (hcell i x hx)⟩
theorem Row.alloc {w : World} {v : Value} {xs : List Value} (h : Row w v xs) (o : Obj) : Row (w.alloc o) v xs :=
  h.below ((Below.refl _ _).alloc (Nat.le_refl _) o)
theorem Row.of_owns {w : World} {base : Nat} {e : TypeId} {v : Value} {n : Nat} {xs : List Value} (h : w.ownsRow base e 1 v n xs) : Row w v xs := by
  have hl : xs.length = n := by simpa using h.1
  rcases h.2 with ⟨rfl, rfl⟩ | ⟨g, cap, cur, rfl, hb, hgg, hnc, _, _, htake⟩
  · exact .inl ⟨none, 0, rfl, List.eq_nil_of_length_eq_zero hl⟩
  · by_cases h0 : n = 0
    · subst h0
      exact .inl ⟨_, cap, rfl, List.eq_nil_of_length_eq_zero hl⟩
    · refine .inr ⟨g, 0, cap, by rw [hl], by omega, by omega, (Array.getElem?_eq_some_iff.1 hgg).1, fun i x hx => ?_⟩
      have h' := h.cells (g := g) rfl i x hx
      have hadd : (⟨g, 0, none⟩ : Addr).add i = ⟨g, 0 + i, none⟩ := by unfold Addr.add; split <;> simp_all
      rw [hadd] at h'
      exact h'
theorem Row.shape {w : World} {v : Value} {xs : List Value} (h : Row w v xs) : ∃ a c, v = .slice a xs.length c := by
  rcases h with ⟨a, c, rfl, rfl⟩ | ⟨b, off, cap, rfl, _⟩
  · exact ⟨a, c, rfl⟩
  · exact ⟨_, cap, rfl⟩
theorem Row.at {w : World} {a : Option Addr} {n c : Nat} {xs : List Value} (h : Row w (.slice a n c) xs) (k : Nat) {x : Value} (hk : xs[k]? = some x) :
    ∃ b off, a = some ⟨b, off, none⟩ ∧ b < w.heap.size ∧ xs.length ≤ c ∧ ∀ (i : Nat) y, xs[i]? = some y → w.cell? ⟨b, off + i, none⟩ = some y := by
  rcases h with ⟨a', c', h, rfl⟩ | ⟨b, off, cap, h, h0, hc, hbk, hcell⟩
  · simp at hk
  · simp only [Value.slice.injEq] at h
    obtain ⟨rfl, rfl, rfl⟩ := h
    exact ⟨b, off, rfl, hbk, hc, hcell⟩
end Copyhold
