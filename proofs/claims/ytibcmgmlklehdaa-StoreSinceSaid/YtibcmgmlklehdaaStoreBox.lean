/- A whole struct stored into a box, in a walk: one step of the world. Over any program. -/
import Derived.Test.YtibcmgmlklehdaaTaking
namespace Copyhold
open Go Go.RowKit
theorem run_storeBox {P : Program} {w : World} (t : TypeId) (g : Nat) (T : TypeId) (cur cs : Array Value) (hb : TBox w g T cur) (hs : cs.size = cur.size) (h1 : ∀ v ∈ cs.toList, v.oneCell' = true) (hz : (P.info? t).map (·.size) = some cs.size) :
    (Instr.storeAt t (.pointer (some ⟨g, 0, none⟩)) (.agg cs)).run P w = .ok () (w.setRow g cs) := by
  have h := run_storeCells_at (P := P) g 0 T cs.toList 0 cur w hb (by simp [hs]) h1
  have e : (cur.toList.take 0 ++ cs.toList ++ cur.toList.drop (0 + 0 + cs.toList.length)).toArray = cs := by
    rw [List.drop_of_length_le (by simp [hs])]
    simp
  rw [show 0 + 0 = 0 from rfl, e] at h
  obtain ⟨i, hi, hsz⟩ : ∃ i, P.info? t = some i ∧ i.size = cs.size := by
    cases hi : P.info? t with
    | none => rw [hi] at hz; cases hz
    | some i => rw [hi] at hz; simp at hz; exact ⟨i, rfl, hz⟩
  simp [Instr.storeAt, storeVar, go_sem, Go.sizeOf, typeInfo, hi, hsz]
  simpa using h
theorem wpList_store_box {P : Program} {w : World} {ops : Array Oper} {rest : List Oper} {o : Oper} {a : Act} {Q : Exit → Act → World → Prop} (hgd : o.guard = none) (t : TypeId) (x y : Operand)
    (ho : o.op = .store t x y) (hd : o.dst = none) (g : Nat) (T : TypeId) (cur cs : Array Value) (hx : a.eval x = .pointer (some ⟨g, 0, none⟩)) (hy : a.eval y = .agg cs) (hb : TBox w g T cur) (hs : cs.size = cur.size) (h1 : ∀ v ∈ cs.toList, v.oneCell' = true) (hz : (P.info? t).map (·.size) = some cs.size)
    (h : wpList P ops Q rest a (w.setRow g cs)) : wpList P ops Q (o :: rest) a w :=
  wpList_plain hgd fun K hK => by
    unfold Oper.wp
    simp only [execOp, ho, hx, hy]
    simp [run_storeBox t g T cur cs hb hs h1 hz, Result.andThen]
    exact hK _ _ (by rw [hd]; exact h)
theorem TBox.setRow {w : World} {B : Nat} {T : TypeId} {cur : Array Value} (h : TBox w B T cur) (cs : Array Value) : TBox (w.setRow B cs) B T cs := setRow_heap w B cur cs T (0, 0) h
theorem TBox.setRowFar {w : World} {B g : Nat} {T : TypeId} {cur : Array Value} (h : TBox w B T cur) (cs : Array Value) (hne : B ≠ g) : TBox (w.setRow g cs) B T cur := by
  unfold TBox at h ⊢
  rw [setRow_other _ _ _ _ hne]
  exact h
end Copyhold
