/- Pieces of slices, over any program: what 's[:i]' and 's[i:]' are, and what they read as; make with room. -/
import Derived.Test.YtpdedjbkfcaebaaMem
namespace Copyhold
open Go Go.RowKit

/-- where 's[i:]' begins -/
def cutA (A : Option Addr) (c i size : Nat) : Option Addr := if c = i then A else A.map (·.add (i * size))

theorem add_zero' (a : Addr) : a.add 0 = a := by unfold Addr.add; simp

theorem elem_is {P : Program} {t e : TypeId} {z : Value} {size bytes : Nat} (E : Elem P t e z size bytes) : P.elem t = e := by
  have := E.1
  unfold Program.elem
  rw [this]

theorem run_pre {P : Program} {t e : TypeId} {z : Value} {size bytes : Nat} (E : Elem P t e z size bytes) (A : Option Addr) (n c i : Nat) (h : i ≤ c) (w : World) :
    (Instr.sliceAt t (.slice A n c) none (some (.int .i64 (i : Int))) none).run P w = .ok (.slice A i c) w := by
  obtain ⟨ht, hinf, hzs, hsz⟩ := E
  obtain ⟨ti, hi, hz, hsize, hby⟩ := info_of hinf
  have he : P.underlying t = some (.slice (P.elem t)) := by rw [ht]; simp [Program.elem, ht]
  have hel : P.elem t = e := by rw [ht] at he; simpa using he.symm
  rw [run_sliceAt_slice (w := w) t _ _ _ _ he, run_slice_h (w := w) t A n c he .i64 (i : Int) (by omega) (by omega)]
  simp only [Int.toNat_natCast, sliced, Nat.zero_mul, Nat.sub_zero]
  rw [hel]
  simp only [Go.sizeOf, typeInfo, Result.andThen]
  have : (if c = 0 then A else A.map (·.add 0)) = A := by
    split
    · rfl
    · cases A
      · rfl
      · simp [add_zero']
  simp [this, hi]

theorem run_post {P : Program} {t e : TypeId} {z : Value} {size bytes : Nat} (E : Elem P t e z size bytes) (A : Option Addr) (n c i : Nat) (h : i ≤ n) (w : World) :
    (Instr.sliceAt t (.slice A n c) (some (.int .i64 (i : Int))) none none).run P w = .ok (.slice (cutA A c i size) (n - i) (c - i)) w := by
  obtain ⟨ht, hinf, hzs, hsz⟩ := E
  obtain ⟨ti, hi, hz, hsize, hby⟩ := info_of hinf
  have he : P.underlying t = some (.slice (P.elem t)) := by rw [ht]; simp [Program.elem, ht]
  have hel : P.elem t = e := by rw [ht] at he; simpa using he.symm
  rw [run_sliceAt_slice (w := w) t _ _ _ _ he, run_slice_l (w := w) t A n c he .i64 (i : Int) (by omega) (by omega)]
  simp only [Int.toNat_natCast, sliced]
  rw [hel]
  simp [Go.sizeOf, typeInfo, hi, Result.andThen, cutA, hsize]

theorem Sl.pre {w : World} {k : Nat} {A : Option Addr} {n c : Nat} {xs : List Value} (h : Sl w k (.slice A n c) n xs) (i : Nat) (hi : i ≤ n) : Sl w k (.slice A i c) i (xs.take (i * k)) := by
  obtain ⟨A', c', he, hc, hl, hh⟩ := h
  simp only [Value.slice.injEq] at he
  obtain ⟨rfl, _, rfl⟩ := he
  have hik : i * k ≤ n * k := Nat.mul_le_mul_right _ hi
  refine ⟨A, c, rfl, by omega, by rw [List.length_take]; omega, fun h0 => ?_⟩
  obtain ⟨b, off, rfl, hb, hcell⟩ := hh (by omega)
  refine ⟨b, off, rfl, hb, fun j x hx => hcell j x ?_⟩
  rw [List.getElem?_take] at hx
  split at hx
  · exact hx
  · cases hx

theorem Sl.post {w : World} {k : Nat} {A : Option Addr} {n c : Nat} {xs : List Value} (h : Sl w k (.slice A n c) n xs) (i : Nat) (hi : i ≤ n) : Sl w k (.slice (cutA A c i k) (n - i) (c - i)) (n - i) (xs.drop (i * k)) := by
  obtain ⟨A', c', he, hc, hl, hh⟩ := h
  simp only [Value.slice.injEq] at he
  obtain ⟨rfl, _, rfl⟩ := he
  refine ⟨_, _, rfl, by omega, by rw [List.length_drop, hl, Nat.sub_mul], fun h0 => ?_⟩
  obtain ⟨b, off, rfl, hb, hcell⟩ := hh (by omega)
  refine ⟨b, off + i * k, ?_, hb, fun j x hx => ?_⟩
  · rw [cutA, if_neg (by omega), Option.map_some, add_plain']
  · rw [Nat.add_assoc]
    refine hcell _ _ ?_
    rw [← hx, List.getElem?_drop]

/-- make without elements, with room -/
theorem make_room {P : Program} {t e : TypeId} {z : Value} {size bytes : Nat} (E : Elem P t e z size bytes) (w : World) (base c : Nat) (hb : bytes * c ≤ 281474976710656) (hm : c ≤ maxLen) (hbase : base ≤ w.heap.size) :
    ∃ v w', (Instr.makeSlice t (.int .i64 0) (.int .i64 (c : Int))).run P w = .ok v w' ∧ w'.ownsRow base e size v 0 [] ∧ w.grownBy w' none := by
  obtain ⟨ht, hinf, hzs, hsz⟩ := E
  obtain ⟨i, hi, hz, hsize, hby⟩ := info_of hinf
  obtain ⟨w', h1, h2, h3⟩ := run_make_own (P := P) w base t e i z size ht hi hz hsize .i64 .i64 c (by rw [hby]; exact hb) hm hbase
  exact ⟨_, w', h1, h2, h3⟩
theorem make_room2 {P : Program} {t e : TypeId} {z : Value} {size bytes : Nat} (E : Elem P t e z size bytes) (w : World) (base c : Nat) (hb : bytes * c ≤ 281474976710656) (hm : c ≤ maxLen) (hbase : base ≤ w.heap.size) :
    ∃ w', (Instr.makeSlice t (.int .i64 0) (.int .i64 (c : Int))).run P w = .ok (.slice (some ⟨w.heap.size, 0, none⟩) 0 c) w' ∧ w'.ownsRow base e size (.slice (some ⟨w.heap.size, 0, none⟩) 0 c) 0 [] ∧ w.grownBy w' none := by
  obtain ⟨ht, hinf, hzs, hsz⟩ := E
  obtain ⟨i, hi, hz, hsize, hby⟩ := info_of hinf
  exact run_make_own (P := P) w base t e i z size ht hi hz hsize .i64 .i64 c (by rw [hby]; exact hb) hm hbase
end Copyhold
