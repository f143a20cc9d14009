/- Are two calls the same? (Go's own '==' of structs.) -/
import Derived.Test.YtpdedjbkfcaebaaCliAll
import Derived.Laws.StructEq
set_option linter.unusedVariables false
set_option linter.unusedSimpArgs false
namespace Go.Proofs.Ytpdedjbkfcaebaa
open Go.RowKit Copyhold
set_option maxRecDepth 100000 in
set_option maxHeartbeats 2000000 in
theorem cal_eqb (x y : Cal) (W : World) : (Op.equalIn 10000 36 (.agg (calC x).toArray) (.agg (calC y).toArray)).run Try.prog W = .ok (decide (x = y)) W := by
  obtain ⟨x0, x1, x2, x3, x4, x5, x6, x7⟩ := x
  obtain ⟨y0, y1, y2, y3, y4, y5, y6, y7⟩ := y
  have hi := Try.underlying3
  have hs := Try.underlying9
  have hu := Try.underlying36
  show (Op.equalIn (9999 + 1) _ _ _).run _ _ = _
  unfold calC txV
  rw [run_equalIn_agg (ht := by kernel_rfl) (hp := by kernel_rfl)]
  simp only [Program.fieldsOf, hu]
  simp only [Op.eqFields]
  simp [go_sem, part]
  repeat' split
  all_goals simp_all
theorem cal_neq (x y : Cal) (W : World) : (binOp .neq 36 (.agg (calC x).toArray) (.agg (calC y).toArray)).run Try.prog W = .ok (.bool (!decide (x = y))) W := by
  rw [run_neq_struct, cal_eqb]
  rfl
end Go.Proofs.Ytpdedjbkfcaebaa
