/- Calls among a law's arguments. -/
import Derived.Test.YtkhnialfkndiiaaGreatFsyOp11
import Derived.Test.YtkhnialfkndiiaaGreatMrgW
set_option linter.unusedVariables false
set_option linter.unusedSimpArgs false
namespace Go.Proofs.YtkhnialfkndiiaaGreat
open Go Go.RowKit Copyhold
theorem opv_cal (W : World) : Opn Tryz.prog W 26 calA OkC0 :=
  (opn_struct (N := 8) Tryz.underlying26 (by kernel_rfl) (opnF_cons (k := 1) (opn_int Tryz.underlying3) rfl (by kernel_rfl) (opnF_cons (k := 1) (opn_int Tryz.underlying3) rfl (by kernel_rfl) (opnF_cons (k := 1) (opn_int Tryz.underlying3) rfl (by kernel_rfl) (opnF_cons (k := 1) (opn_int Tryz.underlying3) rfl (by kernel_rfl) (opnF_cons (k := 1) (opn_int Tryz.underlying3) rfl (by kernel_rfl) (opnF_cons (k := 1) (opn_string Tryz.underlying9) rfl (by kernel_rfl) (opnF_cons (k := 1) (opn_string Tryz.underlying9) rfl (by kernel_rfl) (opnF_cons (k := 1) (opn_string Tryz.underlying9) rfl (by kernel_rfl) (opnF_nil 8)))))))))).map (fun g => ⟨g.1, g.2.1, g.2.2.1, g.2.2.2.1, g.2.2.2.2.1, g.2.2.2.2.2.1, g.2.2.2.2.2.2.1, g.2.2.2.2.2.2.2.1⟩) (fun _ => rfl) (fun a h => ⟨h.1, h.2.1, h.2.2.1, h.2.2.2.1, h.2.2.2.2.1, h.2.2.2.2.2.1, h.2.2.2.2.2.2.1, h.2.2.2.2.2.2.2.1⟩)
end Go.Proofs.YtkhnialfkndiiaaGreat
