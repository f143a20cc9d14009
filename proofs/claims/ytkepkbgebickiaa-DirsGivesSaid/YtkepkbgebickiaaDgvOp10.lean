/- What DirsGives is asked of. -/
import Derived.Test.YtkepkbgebickiaaMrgS
import Derived.Test.YtkepkbgebickiaaDirR10
set_option linter.unusedVariables false
set_option linter.unusedSimpArgs false
namespace Go.Proofs.Ytkepkbgebickiaa
open Go Go.RowKit Copyhold
theorem opv_dgv (W : World) : Opn Try.prog W 55 dgvA OkDgv :=
  (opn_struct (N := 5) Try.underlying55 (by kernel_rfl) (opnF_cons (k := 2) (opv_fsy W) rfl (by kernel_rfl) (opnF_cons (k := 1) (opn_int Try.underlying3) rfl (by kernel_rfl) (opnF_cons (k := 1) (opn_string Try.underlying9) rfl (by kernel_rfl) (opnF_cons (k := 1) (opn_int Try.underlying3) rfl (by kernel_rfl) (opnF_nil 5)))))).map (fun g => ⟨g.1, g.2.1, g.2.2.1, g.2.2.2.1⟩) (fun _ => rfl) (fun a h => ⟨h.1, h.2.2.2.1⟩)
end Go.Proofs.Ytkepkbgebickiaa
