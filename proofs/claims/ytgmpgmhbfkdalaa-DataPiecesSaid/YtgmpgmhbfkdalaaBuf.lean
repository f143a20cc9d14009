/- 'copy' of a text into bytes that the call owns; over any program. No conditions beyond each law's own. -/
import Derived.Lib.BufferWrite
import Derived.Laws.IdiomStrings
import Derived.Laws.MakeOwn
import Derived.Test.YtgmpgmhbfkdalaaKit
namespace Copyhold
open Go Go.RowKit

/-- 'copy(b, s)', s a text that may not fit: as many bytes as there is room for -/
theorem run_copy_text {P : Program} (w : World) (dT sT ty elem : TypeId) (g o dLen dCap : Nat) (l : List UInt8) (cur : List UInt8) (t : TypeId)
    (hu : P.underlying dT = some (.slice elem)) (hs : (P.info? elem).map (·.size) = some 1) (hg : w.heap[g]? = some (.cells (Lib.byteCells cur).toArray t (0, 0))) (hfit : o + dLen = cur.length) :
    (Builtin.copy_ #[dT, sT] ty #[.slice (some ⟨g, o, none⟩) dLen dCap, .string ⟨l.toArray⟩]).run P w =
      .ok (goInt (Nat.min l.length dLen)) (w.setRow g (Lib.byteCells (cur.take o ++ l.take dLen ++ cur.drop (o + l.length))).toArray) := by
  have hsz : (⟨l.toArray⟩ : ByteArray).size = l.length := by simp [ByteArray.size]
  have hlen : (Lib.byteCells (l.take dLen)).length = Nat.min l.length dLen := by rw [Lib.byteCells_length, List.length_take, Nat.min_comm]
  have hcl : (Lib.byteCells cur).length = cur.length := Lib.byteCells_length _
  have hst := run_storeCells_at P g o t (Lib.byteCells (l.take dLen)) 0 (Lib.byteCells cur).toArray w hg (by rw [hlen]; simp [hcl]; have : Nat.min l.length dLen ≤ dLen := Nat.min_le_right l.length dLen; omega) (Lib.byteCells_one _)
  have htk : List.take (Nat.min l.length dLen) (List.map (fun b : UInt8 => Value.int IntKind.u8 (b.toNat : Int)) l) = Lib.byteCells (l.take dLen) := by
    unfold Lib.byteCells
    rw [List.map_take]
    show List.take (min l.length dLen) _ = _
    rw [List.take_eq_take_iff]
    simp
    omega
  have hrow : ((Lib.byteCells cur).take o ++ Lib.byteCells (l.take dLen) ++ (Lib.byteCells cur).drop (o + Nat.min l.length dLen)) = Lib.byteCells (cur.take o ++ l.take dLen ++ cur.drop (o + l.length)) := by
    unfold Lib.byteCells
    rw [List.map_append, List.map_append, List.map_take, List.map_take, List.map_drop]
    congr 1
    show List.drop (o + min l.length dLen) _ = _
    rw [List.drop_eq_drop_iff]
    simp
    omega
  rw [hlen] at hst
  simp only [Nat.add_zero] at hst
  rw [hrow] at hst
  cases hq : P.info? elem with
  | none => simp [hq] at hs
  | some i =>
    simp [Builtin.copy_, run_underlying hu, Builtin.lenOf, Builtin.firstCells, Go.sizeOf, typeInfo, hq, hsz]
    rw [htk, hst]
    simp [Result.andThen, List.append_assoc]

theorem madeBytes (n : Nat) : madeCells (Value.int .u8 0).cells n = (Lib.byteCells (List.replicate n 0)).toArray := by
  unfold madeCells
  have : (Value.int .u8 0).cells = #[Value.int .u8 0] := rfl
  rw [this]
  apply Array.ext
  · simp [Lib.byteCells]
  · intro i h1 h2
    simp [Lib.byteCells, Nat.mod_one]
end Copyhold
