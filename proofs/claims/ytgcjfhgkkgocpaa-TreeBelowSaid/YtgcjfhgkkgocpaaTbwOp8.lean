/- What TreeBelow is asked of. -/
import Derived.Test.YtgcjfhgkkgocpaaMrgP
import Derived.Test.YtgcjfhgkkgocpaaMrgO
set_option linter.unusedVariables false
set_option linter.unusedSimpArgs false
namespace Go.Proofs.Ytgcjfhgkkgocpaa
open Go Go.RowKit Copyhold
theorem opv_tbw (W : World) : Opn Try.prog W 52 tbwA OkTbw :=
  (opn_struct (N := 5) Try.underlying52 (by kernel_rfl) (opnF_cons (k := 2) (opv_fsy W) rfl (by kernel_rfl) (opnF_cons (k := 1) (opn_int Try.underlying3) rfl (by kernel_rfl) (opnF_cons (k := 1) (opn_int Try.underlying3) rfl (by kernel_rfl) (opnF_cons (k := 1) (opn_int Try.underlying3) rfl (by kernel_rfl) (opnF_nil 5)))))).map (fun g => ⟨g.1, g.2.1, g.2.2.1, g.2.2.2.1⟩) (fun _ => rfl) (fun a h => h.1)
end Go.Proofs.Ytgcjfhgkkgocpaa
