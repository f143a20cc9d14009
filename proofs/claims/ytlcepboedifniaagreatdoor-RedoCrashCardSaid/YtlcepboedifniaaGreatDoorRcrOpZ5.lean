/- What RedoCrash is asked of. -/
import Derived.Test.YtlcepboedifniaaGreatDoorMrgQ
import Derived.Test.YtlcepboedifniaaGreatDoorRdoCrZ5
set_option linter.unusedVariables false
set_option linter.unusedSimpArgs false
namespace Go.Proofs.YtlcepboedifniaaGreatDoor
open Go Go.RowKit Copyhold Copyhold.Disk
theorem opv_bools (W : World) : Opn Tryz.prog W 45 (fun l : List (Bool) => [.sl 1 false (l.map boA)]) (fun l => l.length ≤ 140737488351232 ∧ ∀ a ∈ l, (fun _ : Bool => True) a) := opn_sliceS (opn_bool Tryz.underlying4) (false) Tryz.underlying45 (by kernel_rfl) (by decide) (Nat.le_of_ble_eq_true (by kernel_rfl))
theorem opv_rcr (W : World) : Opn Tryz.prog W 47 rcrA OkRcr :=
  (opn_struct (N := 11) Tryz.underlying47 (by kernel_rfl) (opnF_cons (k := 3) (opv_dsk W) rfl (by kernel_rfl) (opnF_cons (k := 2) (opv_rng W) rfl (by kernel_rfl) (opnF_cons (k := 4) (opv_lgg W) rfl (by kernel_rfl) (opnF_cons (k := 1) (opv_txts5 W) rfl (by kernel_rfl) (opnF_cons (k := 1) (opv_bools W) rfl (by kernel_rfl) (opnF_nil 11))))))).map (fun g => ⟨g.1, g.2.1, g.2.2.1, g.2.2.2.1, g.2.2.2.2.1⟩) (fun _ => rfl) (fun a h => ⟨Nat.le_trans h.1.kept (by decide), Nat.le_trans h.1.w (by decide), h.2.1, h.2.2.1, Nat.le_trans h.2.2.2.1.1 (by decide), h.2.2.2.1.2, Nat.le_trans h.2.2.2.2.1.1 (by decide)⟩)
end Go.Proofs.YtlcepboedifniaaGreatDoor
