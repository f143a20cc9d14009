/- File systems among a law's arguments: what they read as. -/
import Derived.Test.YtkhnialfkndiiaaGreatMrgJ
import Derived.Test.YtkhnialfkndiiaaGreatOpens
import Derived.Test.YtkhnialfkndiiaaGreatRows
set_option linter.unusedVariables false
set_option linter.unusedSimpArgs false
namespace Go.Proofs.YtkhnialfkndiiaaGreat
open Go Go.RowKit Copyhold
theorem opv_ent (W : World) : Opn Tryz.prog W 101 entA OkE :=
  (opn_struct (N := 2) Tryz.underlying101 (by kernel_rfl) (opnF_cons (k := 1) (opn_string Tryz.underlying9) rfl (by kernel_rfl) (opnF_cons (k := 1) (opn_int Tryz.underlying3) rfl (by kernel_rfl) (opnF_nil 2)))).map (fun g => ⟨g.1, g.2.1⟩) (fun _ => rfl) (fun a h => ⟨h.1, h.2.1⟩)
theorem opv_ents (W : World) : Opn Tryz.prog W 57 (fun l : List (Ent) => [.sl 2 false (l.map entA)]) (fun l => l.length ≤ 8796093022207 ∧ ∀ a ∈ l, OkE a) := opn_slice (opv_ent W) (⟨[], 0⟩) Tryz.underlying57 (by kernel_rfl) (by decide) (Nat.le_of_ble_eq_true (by kernel_rfl))
theorem opv_nod (W : World) : Opn Tryz.prog W 59 nodA OkN :=
  (opn_struct (N := 5) Tryz.underlying59 (by kernel_rfl) (opnF_cons (k := 1) (opn_int Tryz.underlying3) rfl (by kernel_rfl) (opnF_cons (k := 1) (opn_int Tryz.underlying3) rfl (by kernel_rfl) (opnF_cons (k := 1) (opn_int Tryz.underlying3) rfl (by kernel_rfl) (opnF_cons (k := 1) (opn_string Tryz.underlying9) rfl (by kernel_rfl) (opnF_cons (k := 1) (opv_ents W) rfl (by kernel_rfl) (opnF_nil 5))))))).map (fun g => ⟨g.1, g.2.1, g.2.2.1, g.2.2.2.1, g.2.2.2.2.1⟩) (fun _ => rfl) (fun a h => ⟨h.1, h.2.1, h.2.2.1, h.2.2.2.1, h.2.2.2.2.1.1, h.2.2.2.2.1.2⟩)
theorem opv_nods (W : World) : Opn Tryz.prog W 22 (fun l : List (Nod) => [.sl 5 false (l.map nodA)]) (fun l => l.length ≤ 8796093022207 ∧ ∀ a ∈ l, OkN a) := opn_slice (opv_nod W) (⟨0, 0, 0, [], []⟩) Tryz.underlying22 (by kernel_rfl) (by decide) (Nat.le_of_ble_eq_true (by kernel_rfl))
theorem opv_fsy (W : World) : Opn Tryz.prog W 24 fsyA OkF :=
  (opn_struct (N := 2) Tryz.underlying24 (by kernel_rfl) (opnF_cons (k := 1) (opv_nods W) rfl (by kernel_rfl) (opnF_cons (k := 1) (opn_int Tryz.underlying3) rfl (by kernel_rfl) (opnF_nil 2)))).map (fun g => ⟨g.1, g.2.1⟩) (fun _ => rfl) (fun a h => ⟨h.2.1, h.1.1, h.1.2⟩)
end Go.Proofs.YtkhnialfkndiiaaGreat
