/- What TreeTurns is asked of, among a law's arguments. -/
import Derived.Test.YtgcjfhgkkgocpaaMrgS
set_option linter.unusedVariables false
set_option linter.unusedSimpArgs false
namespace Go.Proofs.Ytgcjfhgkkgocpaa
open Go Go.RowKit Copyhold
theorem opv_tt (W : World) : Opn Try.prog W 29 ttA OkTt :=
  (opn_struct (N := 9) Try.underlying29 (by kernel_rfl) (opnF_cons (k := 2) (opv_fsy W) rfl (by kernel_rfl) (opnF_cons (k := 5) (opv_nod W) rfl (by kernel_rfl) (opnF_cons (k := 1) (opn_int Try.underlying3) rfl (by kernel_rfl) (opnF_cons (k := 1) (opn_string Try.underlying9) rfl (by kernel_rfl) (opnF_nil 9)))))).map (fun g => ⟨g.1, g.2.1, g.2.2.1, g.2.2.2.1⟩) (fun _ => rfl) (fun a h => ⟨h.1, h.2.1, h.2.2.1, h.2.2.2.1⟩)
end Go.Proofs.Ytgcjfhgkkgocpaa
