import Derived.Test.YtahlldgocpabjaaGreatMrgAM
import Derived.Test.YtahlldgocpabjaaGreatMrgAC
import Derived.Test.YtahlldgocpabjaaGreatMrgAK
set_option linter.unusedVariables false
set_option linter.unusedSimpArgs false
namespace Go.Proofs.YtahlldgocpabjaaGreat
open Go Go.RowKit Copyhold Go.Proofs.Tryz
theorem Zle (W:World):Opn prog W 33 calA OkC0:=
 (Qcl (N:=8) Tryz.underlying33 (by kernel_rfl) (Qa0 (k:=1) (Qcv Tryz.underlying3) rfl (by kernel_rfl) (Qa0 (k:=1) (Qcv Tryz.underlying3) rfl (by kernel_rfl) (Qa0 (k:=1) (Qcv Tryz.underlying3) rfl (by kernel_rfl) (Qa0 (k:=1) (Qcv Tryz.underlying3) rfl (by kernel_rfl) (Qa0 (k:=1) (Qcv Tryz.underlying3) rfl (by kernel_rfl) (Qa0 (k:=1) (Qfu Tryz.underlying9) rfl (by kernel_rfl) (Qa0 (k:=1) (Qfu Tryz.underlying9) rfl (by kernel_rfl) (Qa0 (k:=1) (Qfu Tryz.underlying9) rfl (by kernel_rfl) (Qd0 8)))))))))).map (fun g=>⟨g.1,g.2.1,g.2.2.1,g.2.2.2.1,g.2.2.2.2.1,g.2.2.2.2.2.1,g.2.2.2.2.2.2.1,g.2.2.2.2.2.2.2.1⟩) (fun _=>rfl) (fun a h=>⟨h.1,h.2.1,h.2.2.1,h.2.2.2.1,h.2.2.2.2.1,h.2.2.2.2.2.1,h.2.2.2.2.2.2.1,h.2.2.2.2.2.2.2.1⟩)
theorem Zgs (W:World):Opn prog W 29 (fun l:List (Int)=>[.sl 1 false (l.map intA)]) (fun l=>l.length≤140737488351232∧∀ a∈l,I64 a):=Qyu (Qcv Tryz.underlying3) (0) Tryz.underlying29 (by kernel_rfl) (by decide) (Nat.le_of_ble_eq_true (by kernel_rfl))
theorem Zb4 (W:World):Opn prog W 31 txnA OkT:=
 (Qcl (N:=6) Tryz.underlying31 (by kernel_rfl) (Qa0 (k:=1) (Qcv Tryz.underlying3) rfl (by kernel_rfl) (Qa0 (k:=2) (Zb6 W) rfl (by kernel_rfl) (Qa0 (k:=2) (Zb6 W) rfl (by kernel_rfl) (Qa0 (k:=1) (Zgs W) rfl (by kernel_rfl) (Qd0 6)))))).map (fun g=>⟨g.1,g.2.1,g.2.2.1,g.2.2.2.1⟩) (fun _=>rfl) (fun a h=>⟨h.1,h.2.1,h.2.2.1,h.2.2.2.1.1⟩)
theorem Zk9 (W:World):Opn prog W 35 stpA OkStp:=
 (Qcl (N:=23) Tryz.underlying35 (by kernel_rfl) (Qa0 (k:=3) (Zla W) rfl (by kernel_rfl) (Qa0 (k:=6) (Zb4 W) rfl (by kernel_rfl) (Qa0 (k:=8) (Zle W) rfl (by kernel_rfl) (Qa0 (k:=6) (Zb4 W) rfl (by kernel_rfl) (Qd0 23)))))).map (fun g=>⟨g.1,g.2.1,g.2.2.1,g.2.2.2.1⟩) (fun _=>rfl) (fun a h=>⟨h.1,h.2.1,h.2.2.1,h.2.2.2.1⟩)
end Go.Proofs.YtahlldgocpabjaaGreat
