/- What RedoDrops is asked of. -/
import Derived.Test.YtlcepboedifniaaGreatDoorMrgQ
import Derived.Test.YtlcepboedifniaaGreatDoorRdoDrZ5
set_option linter.unusedVariables false
set_option linter.unusedSimpArgs false
namespace Go.Proofs.YtlcepboedifniaaGreatDoor
open Go Go.RowKit Copyhold Copyhold.Disk
theorem opv_rdr (W : World) : Opn Tryz.prog W 58 rdrA OkRdr :=
  (opn_struct (N := 11) Tryz.underlying58 (by kernel_rfl) (opnF_cons (k := 3) (opv_dsk W) rfl (by kernel_rfl) (opnF_cons (k := 2) (opv_rng W) rfl (by kernel_rfl) (opnF_cons (k := 4) (opv_lgg W) rfl (by kernel_rfl) (opnF_cons (k := 1) (opn_int Tryz.underlying3) rfl (by kernel_rfl) (opnF_cons (k := 1) (opn_int Tryz.underlying3) rfl (by kernel_rfl) (opnF_nil 11))))))).map (fun g => ⟨g.1, g.2.1, g.2.2.1, g.2.2.2.1, g.2.2.2.2.1⟩) (fun _ => rfl) (fun a h => ⟨Nat.le_trans h.1.kept (by decide), Nat.le_trans h.1.w (by decide), h.2.1, h.2.2.1, h.2.2.2.1, h.2.2.2.2.1⟩)
end Go.Proofs.YtlcepboedifniaaGreatDoor
