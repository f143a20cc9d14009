/- A literal of a slice without elements, and of one, in a walk: by its run. Over any program. -/
import Derived.Test.YtcckbiaigcideaaMem
namespace Copyhold
open Go Go.RowKit

theorem run_build0 {P : Program} {t e : TypeId} {z : Value} {size bytes : Nat} (E : Elem P t e z size bytes) (w : World) :
    (Instr.buildSlice t 0 #[]).run P w = .ok (.slice (some ⟨w.heap.size, 0, none⟩) 0 0) (w.alloc (.cells #[] e)) := by
  obtain ⟨ht, hinf, hzs, hsz⟩ := E
  obtain ⟨i, hi, hz, hsize, hby⟩ := info_of hinf
  unfold Instr.buildSlice
  simp [run_underlying ht, Go.sizeOf, typeInfo, hi, Instr.fill]
  simp [newRow, go_sem]
/-- a slice that a literal makes, by its run -/
theorem wpList_build_run {P : Program} {w : World} {ops : Array Oper} {rest : List Oper} {o : Oper} {a : Act} {Q : Exit → Act → World → Prop} (hgd : o.guard = none) (t : TypeId) (n : Nat) (parts : Array (Nat × Operand))
    (ho : o.op = .buildSlice t n parts) (vs : Array (Nat × Value)) (hvs : (parts.map fun (i, x) => (i, a.eval x)) = vs) (v : Value) (w' : World) (hrun : (Instr.buildSlice t n vs).run P w = .ok v w') (h : wpList P ops Q rest (a.put o.dst v) w') : wpList P ops Q (o :: rest) a w :=
  wpList_plain hgd fun K hK => by
    unfold Oper.wp
    subst hvs
    simp only [execOp, ho]
    simp [hrun, Result.andThen]
    exact hK _ _ h
end Copyhold
