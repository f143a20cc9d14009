/- Changes among a law's arguments. -/
import Derived.Test.YtibcmgmlklehdaaStoOp
import Derived.Test.YtibcmgmlklehdaaStoMay
set_option linter.unusedVariables false
set_option linter.unusedSimpArgs false
namespace Go.Proofs.Ytibcmgmlklehdaa
open Go Go.RowKit Copyhold
theorem opv_chg (W : World) : Opn Try.prog W 45 chgA OkCh :=
  (opn_struct (N := 7) Try.underlying45 (by kernel_rfl) (opnF_cons (k := 1) (opn_int Try.underlying3) rfl (by kernel_rfl) (opnF_cons (k := 1) (opn_bool Try.underlying4) rfl (by kernel_rfl) (opnF_cons (k := 5) (opv_nod W) rfl (by kernel_rfl) (opnF_nil 7))))).map (fun g => ⟨g.1, g.2.1, g.2.2.1⟩) (fun _ => rfl) (fun a h => ⟨h.1, h.2.2.1⟩)
theorem opv_chgs (W : World) : Opn Try.prog W 39 (fun l : List (Chg) => [.sl 7 false (l.map chgA)]) (fun l => l.length ≤ 8796093022207 ∧ ∀ a ∈ l, OkCh a) := opn_slice (opv_chg W) (⟨0, false, ⟨0, 0, 0, [], []⟩⟩) Try.underlying39 (by kernel_rfl) (by decide) (Nat.le_of_ble_eq_true (by kernel_rfl))
end Go.Proofs.Ytibcmgmlklehdaa
