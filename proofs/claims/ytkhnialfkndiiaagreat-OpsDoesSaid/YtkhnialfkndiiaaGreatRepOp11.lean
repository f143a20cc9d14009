/- Replies among a law's arguments. -/
import Derived.Test.YtkhnialfkndiiaaGreatMrgAE
set_option linter.unusedVariables false
set_option linter.unusedSimpArgs false
namespace Go.Proofs.YtkhnialfkndiiaaGreat
open Go Go.RowKit Copyhold
def OkR0 (r : Rep) : Prop := r.names.length ≤ 8796093022207
theorem opv_txts (W : World) : Opn Tryz.prog W 28 (fun l : List (Txt) => [.sl 1 false (l.map txA)]) (fun l => l.length ≤ 8796093022207 ∧ ∀ a ∈ l, (fun t : Txt => t.length ≤ 140737488351232) a) := opn_slice (opn_string Tryz.underlying9) ([]) Tryz.underlying28 (by kernel_rfl) (by decide) (Nat.le_of_ble_eq_true (by kernel_rfl))
theorem opv_rep (W : World) : Opn Tryz.prog W 30 repA OkR0 :=
  (opn_struct (N := 6) Tryz.underlying30 (by kernel_rfl) (opnF_cons (k := 1) (opn_int Tryz.underlying27) rfl (by kernel_rfl) (opnF_cons (k := 1) (opn_int Tryz.underlying3) rfl (by kernel_rfl) (opnF_cons (k := 1) (opn_int Tryz.underlying3) rfl (by kernel_rfl) (opnF_cons (k := 1) (opn_int Tryz.underlying3) rfl (by kernel_rfl) (opnF_cons (k := 1) (opn_string Tryz.underlying9) rfl (by kernel_rfl) (opnF_cons (k := 1) (opv_txts W) rfl (by kernel_rfl) (opnF_nil 6)))))))).map (fun g => ⟨g.1, g.2.1, g.2.2.1, g.2.2.2.1, g.2.2.2.2.1, g.2.2.2.2.2.1⟩) (fun _ => rfl) (fun a h => h.2.2.2.2.2.1.1)
end Go.Proofs.YtkhnialfkndiiaaGreat
