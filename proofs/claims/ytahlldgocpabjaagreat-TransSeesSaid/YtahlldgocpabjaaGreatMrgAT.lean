import Derived.Test.YtahlldgocpabjaaGreatMrgAS
import Derived.Test.YtahlldgocpabjaaGreatMrgAD
import Derived.Test.YtahlldgocpabjaaGreatMrgAR
set_option linter.unusedVariables false
set_option linter.unusedSimpArgs false
namespace Go.Proofs.YtahlldgocpabjaaGreat
open Go Go.RowKit Copyhold Go.Proofs.Tryz
theorem Zmd (W:World):Opn prog W 100 verA OkV:=
 (Qds (N:=7) Tryz.underlying100 (by kernel_rfl) (Qbc (k:=1) (Qdz Tryz.underlying3) rfl (by kernel_rfl) (Qbc (k:=1) (Zih Tryz.underlying4) rfl (by kernel_rfl) (Qbc (k:=5) (Zmg W) rfl (by kernel_rfl) (Qfp 7))))).map (fun g=>⟨g.1,g.2.1,g.2.2.1⟩) (fun _=>rfl) (fun a h=>⟨h.1,h.2.2.1⟩)
theorem Zid (W:World):Opn prog W 96 (fun l:List (Ver)=>[.sl 7 false (l.map verA)]) (fun l=>l.length≤8796093022207∧∀ a∈l,OkV a):=Qhw (Zmd W) (⟨0,false,⟨0,0,0,[],[]⟩⟩) Tryz.underlying96 (by kernel_rfl) (by decide) (Nat.le_of_ble_eq_true (by kernel_rfl))
theorem Zmj (W:World):Opn prog W 98 chnA OkC:=
 (Qds (N:=2) Tryz.underlying98 (by kernel_rfl) (Qbc (k:=1) (Qdz Tryz.underlying3) rfl (by kernel_rfl) (Qbc (k:=1) (Zid W) rfl (by kernel_rfl) (Qfp 2)))).map (fun g=>⟨g.1,g.2.1⟩) (fun _=>rfl) (fun a h=>⟨h.1,h.2.1.1,h.2.1.2⟩)
theorem Zig (W:World):Opn prog W 22 (fun l:List (Chn)=>[.sl 2 false (l.map chnA)]) (fun l=>l.length≤8796093022207∧∀ a∈l,OkC a):=Qhw (Zmj W) (⟨0,[]⟩) Tryz.underlying22 (by kernel_rfl) (by decide) (Nat.le_of_ble_eq_true (by kernel_rfl))
theorem Zmi (W:World):Opn prog W 95 cntA OkK:=
 (Qds (N:=2) Tryz.underlying95 (by kernel_rfl) (Qbc (k:=1) (Qdz Tryz.underlying3) rfl (by kernel_rfl) (Qbc (k:=1) (Qdz Tryz.underlying3) rfl (by kernel_rfl) (Qfp 2)))).map (fun g=>⟨g.1,g.2.1⟩) (fun _=>rfl) (fun a h=>⟨h.1,h.2.1⟩)
theorem Zif (W:World):Opn prog W 23 (fun l:List (Cnt)=>[.sl 2 false (l.map cntA)]) (fun l=>l.length≤8796093022207∧∀ a∈l,OkK a):=Qhw (Zmi W) (⟨0,0⟩) Tryz.underlying23 (by kernel_rfl) (by decide) (Nat.le_of_ble_eq_true (by kernel_rfl))
theorem Zme (W:World):Opn prog W 25 stoA OkS:=
 (Qds (N:=3) Tryz.underlying25 (by kernel_rfl) (Qbc (k:=1) (Zig W) rfl (by kernel_rfl) (Qbc (k:=1) (Zif W) rfl (by kernel_rfl) (Qbc (k:=1) (Qdz Tryz.underlying3) rfl (by kernel_rfl) (Qfp 3))))).map (fun g=>⟨g.1,g.2.1,g.2.2.1⟩) (fun _=>rfl) (fun a h=>⟨h.2.2.1,h.1.1,h.2.1.1,h.1.2,h.2.1.2⟩)
theorem Zdt (W:World):Opn prog W 33 calA OkC0:=
 (Qds (N:=8) Tryz.underlying33 (by kernel_rfl) (Qbc (k:=1) (Qdz Tryz.underlying3) rfl (by kernel_rfl) (Qbc (k:=1) (Qdz Tryz.underlying3) rfl (by kernel_rfl) (Qbc (k:=1) (Qdz Tryz.underlying3) rfl (by kernel_rfl) (Qbc (k:=1) (Qdz Tryz.underlying3) rfl (by kernel_rfl) (Qbc (k:=1) (Qdz Tryz.underlying3) rfl (by kernel_rfl) (Qbc (k:=1) (Qgg Tryz.underlying9) rfl (by kernel_rfl) (Qbc (k:=1) (Qgg Tryz.underlying9) rfl (by kernel_rfl) (Qbc (k:=1) (Qgg Tryz.underlying9) rfl (by kernel_rfl) (Qfp 8)))))))))).map (fun g=>⟨g.1,g.2.1,g.2.2.1,g.2.2.2.1,g.2.2.2.2.1,g.2.2.2.2.2.1,g.2.2.2.2.2.2.1,g.2.2.2.2.2.2.2.1⟩) (fun _=>rfl) (fun a h=>⟨h.1,h.2.1,h.2.2.1,h.2.2.2.1,h.2.2.2.2.1,h.2.2.2.2.2.1,h.2.2.2.2.2.2.1,h.2.2.2.2.2.2.2.1⟩)
theorem Qxt (W:World):Opn prog W 39 (fun l:List (Cal)=>[.sl 8 false (l.map calA)]) (fun l=>l.length≤8796093022207∧∀ a∈l,OkC0 a):=Qhw (Zdt W) (⟨0,0,0,0,0,[],[],[]⟩) Tryz.underlying39 (by kernel_rfl) (by decide) (Nat.le_of_ble_eq_true (by kernel_rfl))
theorem Zmf (W:World):Opn prog W 79 sesA OkSes:=
 (Qds (N:=13) Tryz.underlying79 (by kernel_rfl) (Qbc (k:=3) (Zme W) rfl (by kernel_rfl) (Qbc (k:=1) (Qxt W) rfl (by kernel_rfl) (Qbc (k:=1) (Qxt W) rfl (by kernel_rfl) (Qbc (k:=8) (Zdt W) rfl (by kernel_rfl) (Qfp 13)))))).map (fun g=>⟨g.1,g.2.1,g.2.2.1,g.2.2.2.1⟩) (fun _=>rfl) (fun a h=>⟨h.1,h.2.1.1,h.2.1.2,h.2.2.1.1,h.2.2.1.2,h.2.2.2.1⟩)
end Go.Proofs.YtahlldgocpabjaaGreat
