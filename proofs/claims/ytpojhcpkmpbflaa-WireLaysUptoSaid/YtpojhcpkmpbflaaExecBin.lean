/- A comparison taken out of a drawn region by its own law. Over any program. -/
import Derived.Test.YtpojhcpkmpbflaaTaking
import Derived.Laws.StructEq
set_option linter.unusedVariables false
set_option linter.unusedSimpArgs false
namespace Copyhold
open Go Go.RowKit

theorem exec_eql {P : Program} {w : World} {ev : Operand → Value} {o : Oper} {t ty : TypeId} {x y : Operand} {xs ys : Array Value} {b : Bool} (h : o.op = .binOp .eql t x y ty) (ha : ev x = .agg xs) (hb : ev y = .agg ys)
    (hg : P.eqGuardType P.depth t = false) (hr : (binOp .eql t (.agg xs) (.agg ys)).run P w = .ok (.bool b) w) : (execOp ev o).run P w = .ok (.value (.bool b)) w := by
  have h2 := run_eqGuard_agg (P := P) w .eql t x y xs ys hg
  unfold execOp
  simp only [h, ha, hb, Sem.run_bind, h2, Result.andThen_ok, hr, Sem.run_pure]
end Copyhold
