/- Stores among a law's arguments: what they read as. -/
import Derived.Test.YtibcmgmlklehdaaNodD
import Derived.Test.YtibcmgmlklehdaaOpens
import Derived.Test.YtibcmgmlklehdaaRows
set_option linter.unusedVariables false
set_option linter.unusedSimpArgs false
namespace Go.Proofs.Ytibcmgmlklehdaa
open Go Go.RowKit Copyhold
theorem opv_ent (W : World) : Opn Try.prog W 102 entA OkE :=
  (opn_struct (N := 2) Try.underlying102 (by kernel_rfl) (opnF_cons (k := 1) (opn_string Try.underlying9) rfl (by kernel_rfl) (opnF_cons (k := 1) (opn_int Try.underlying3) rfl (by kernel_rfl) (opnF_nil 2)))).map (fun g => ⟨g.1, g.2.1⟩) (fun _ => rfl) (fun a h => ⟨h.1, h.2.1⟩)
theorem opv_ents (W : World) : Opn Try.prog W 41 (fun l : List (Ent) => [.sl 2 false (l.map entA)]) (fun l => l.length ≤ 8796093022207 ∧ ∀ a ∈ l, OkE a) := opn_slice (opv_ent W) (⟨[], 0⟩) Try.underlying41 (by kernel_rfl) (by decide) (Nat.le_of_ble_eq_true (by kernel_rfl))
theorem opv_nod (W : World) : Opn Try.prog W 43 nodA OkN :=
  (opn_struct (N := 5) Try.underlying43 (by kernel_rfl) (opnF_cons (k := 1) (opn_int Try.underlying3) rfl (by kernel_rfl) (opnF_cons (k := 1) (opn_int Try.underlying3) rfl (by kernel_rfl) (opnF_cons (k := 1) (opn_int Try.underlying3) rfl (by kernel_rfl) (opnF_cons (k := 1) (opn_string Try.underlying9) rfl (by kernel_rfl) (opnF_cons (k := 1) (opv_ents W) rfl (by kernel_rfl) (opnF_nil 5))))))).map (fun g => ⟨g.1, g.2.1, g.2.2.1, g.2.2.2.1, g.2.2.2.2.1⟩) (fun _ => rfl) (fun a h => ⟨h.1, h.2.1, h.2.2.1, h.2.2.2.1, h.2.2.2.2.1.1, h.2.2.2.2.1.2⟩)
theorem opv_ver (W : World) : Opn Try.prog W 58 verA OkV :=
  (opn_struct (N := 7) Try.underlying58 (by kernel_rfl) (opnF_cons (k := 1) (opn_int Try.underlying3) rfl (by kernel_rfl) (opnF_cons (k := 1) (opn_bool Try.underlying4) rfl (by kernel_rfl) (opnF_cons (k := 5) (opv_nod W) rfl (by kernel_rfl) (opnF_nil 7))))).map (fun g => ⟨g.1, g.2.1, g.2.2.1⟩) (fun _ => rfl) (fun a h => ⟨h.1, h.2.2.1⟩)
theorem opv_vers (W : World) : Opn Try.prog W 51 (fun l : List (Ver) => [.sl 7 false (l.map verA)]) (fun l => l.length ≤ 8796093022207 ∧ ∀ a ∈ l, OkV a) := opn_slice (opv_ver W) (⟨0, false, ⟨0, 0, 0, [], []⟩⟩) Try.underlying51 (by kernel_rfl) (by decide) (Nat.le_of_ble_eq_true (by kernel_rfl))
theorem opv_chn (W : World) : Opn Try.prog W 53 chnA OkC :=
  (opn_struct (N := 2) Try.underlying53 (by kernel_rfl) (opnF_cons (k := 1) (opn_int Try.underlying3) rfl (by kernel_rfl) (opnF_cons (k := 1) (opv_vers W) rfl (by kernel_rfl) (opnF_nil 2)))).map (fun g => ⟨g.1, g.2.1⟩) (fun _ => rfl) (fun a h => ⟨h.1, h.2.1.1, h.2.1.2⟩)
theorem opv_chns (W : World) : Opn Try.prog W 22 (fun l : List (Chn) => [.sl 2 false (l.map chnA)]) (fun l => l.length ≤ 8796093022207 ∧ ∀ a ∈ l, OkC a) := opn_slice (opv_chn W) (⟨0, []⟩) Try.underlying22 (by kernel_rfl) (by decide) (Nat.le_of_ble_eq_true (by kernel_rfl))
theorem opv_cnt (W : World) : Opn Try.prog W 61 cntA OkK :=
  (opn_struct (N := 2) Try.underlying61 (by kernel_rfl) (opnF_cons (k := 1) (opn_int Try.underlying3) rfl (by kernel_rfl) (opnF_cons (k := 1) (opn_int Try.underlying3) rfl (by kernel_rfl) (opnF_nil 2)))).map (fun g => ⟨g.1, g.2.1⟩) (fun _ => rfl) (fun a h => ⟨h.1, h.2.1⟩)
theorem opv_cnts (W : World) : Opn Try.prog W 23 (fun l : List (Cnt) => [.sl 2 false (l.map cntA)]) (fun l => l.length ≤ 8796093022207 ∧ ∀ a ∈ l, OkK a) := opn_slice (opv_cnt W) (⟨0, 0⟩) Try.underlying23 (by kernel_rfl) (by decide) (Nat.le_of_ble_eq_true (by kernel_rfl))
theorem opv_sto (W : World) : Opn Try.prog W 25 stoA OkS :=
  (opn_struct (N := 3) Try.underlying25 (by kernel_rfl) (opnF_cons (k := 1) (opv_chns W) rfl (by kernel_rfl) (opnF_cons (k := 1) (opv_cnts W) rfl (by kernel_rfl) (opnF_cons (k := 1) (opn_int Try.underlying3) rfl (by kernel_rfl) (opnF_nil 3))))).map (fun g => ⟨g.1, g.2.1, g.2.2.1⟩) (fun _ => rfl) (fun a h => ⟨h.2.2.1, h.1.1, h.2.1.1, h.1.2, h.2.1.2⟩)
end Go.Proofs.Ytibcmgmlklehdaa
