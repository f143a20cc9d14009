import Derived.Test.YtahlldgocpabjaaGreatMrgJ
import Derived.Test.YtahlldgocpabjaaGreatMrgAS
import Derived.Test.YtahlldgocpabjaaGreatRows
import Derived.Test.YtahlldgocpabjaaGreatMrgAD
import Derived.Test.YtahlldgocpabjaaGreatMrgAR
import Derived.Test.YtahlldgocpabjaaGreatMrgAQ
set_option linter.unusedVariables false
set_option linter.unusedSimpArgs false
namespace Go.Proofs.YtahlldgocpabjaaGreat
open Go Go.RowKit Copyhold Go.Proofs.Tryz
theorem Zmq (W:World):Opn prog W 128 entA OkE:=
 (Qdc (N:=2) Tryz.underlying128 (by kernel_rfl) (Qa8 (k:=1) (Qgf Tryz.underlying9) rfl (by kernel_rfl) (Qa8 (k:=1) (Qc5 Tryz.underlying3) rfl (by kernel_rfl) (Qew 2)))).map (fun g=>⟨g.1,g.2.1⟩) (fun _=>rfl) (fun a h=>⟨h.1,h.2.1⟩)
theorem Zin (W:World):Opn prog W 82 (fun l:List (Ent)=>[.sl 2 false (l.map entA)]) (fun l=>l.length≤8796093022207∧∀ a∈l,OkE a):=Qgg (Zmq W) (⟨[],0⟩) Tryz.underlying82 (by kernel_rfl) (by decide) (Nat.le_of_ble_eq_true (by kernel_rfl))
theorem Zdq (W:World):Opn prog W 84 nodA OkN:=
 (Qdc (N:=5) Tryz.underlying84 (by kernel_rfl) (Qa8 (k:=1) (Qc5 Tryz.underlying3) rfl (by kernel_rfl) (Qa8 (k:=1) (Qc5 Tryz.underlying3) rfl (by kernel_rfl) (Qa8 (k:=1) (Qc5 Tryz.underlying3) rfl (by kernel_rfl) (Qa8 (k:=1) (Qgf Tryz.underlying9) rfl (by kernel_rfl) (Qa8 (k:=1) (Zin W) rfl (by kernel_rfl) (Qew 5))))))).map (fun g=>⟨g.1,g.2.1,g.2.2.1,g.2.2.2.1,g.2.2.2.2.1⟩) (fun _=>rfl) (fun a h=>⟨h.1,h.2.1,h.2.2.1,h.2.2.2.1,h.2.2.2.2.1.1,h.2.2.2.2.1.2⟩)
theorem Zil (W:World):Opn prog W 26 (fun l:List (Nod)=>[.sl 5 false (l.map nodA)]) (fun l=>l.length≤8796093022207∧∀ a∈l,OkN a):=Qgg (Zdq W) (⟨0,0,0,[],[]⟩) Tryz.underlying26 (by kernel_rfl) (by decide) (Nat.le_of_ble_eq_true (by kernel_rfl))
theorem Zdr (W:World):Opn prog W 28 fsyA OkF:=
 (Qdc (N:=2) Tryz.underlying28 (by kernel_rfl) (Qa8 (k:=1) (Zil W) rfl (by kernel_rfl) (Qa8 (k:=1) (Qc5 Tryz.underlying3) rfl (by kernel_rfl) (Qew 2)))).map (fun g=>⟨g.1,g.2.1⟩) (fun _=>rfl) (fun a h=>⟨h.2.1,h.1.1,h.1.2⟩)
theorem Zmn (W:World):Opn prog W 100 verA OkV:=
 (Qdc (N:=7) Tryz.underlying100 (by kernel_rfl) (Qa8 (k:=1) (Qc5 Tryz.underlying3) rfl (by kernel_rfl) (Qa8 (k:=1) (Zir Tryz.underlying4) rfl (by kernel_rfl) (Qa8 (k:=5) (Zdq W) rfl (by kernel_rfl) (Qew 7))))).map (fun g=>⟨g.1,g.2.1,g.2.2.1⟩) (fun _=>rfl) (fun a h=>⟨h.1,h.2.2.1⟩)
theorem Zik (W:World):Opn prog W 96 (fun l:List (Ver)=>[.sl 7 false (l.map verA)]) (fun l=>l.length≤8796093022207∧∀ a∈l,OkV a):=Qgg (Zmn W) (⟨0,false,⟨0,0,0,[],[]⟩⟩) Tryz.underlying96 (by kernel_rfl) (by decide) (Nat.le_of_ble_eq_true (by kernel_rfl))
theorem Zms (W:World):Opn prog W 98 chnA OkC:=
 (Qdc (N:=2) Tryz.underlying98 (by kernel_rfl) (Qa8 (k:=1) (Qc5 Tryz.underlying3) rfl (by kernel_rfl) (Qa8 (k:=1) (Zik W) rfl (by kernel_rfl) (Qew 2)))).map (fun g=>⟨g.1,g.2.1⟩) (fun _=>rfl) (fun a h=>⟨h.1,h.2.1.1,h.2.1.2⟩)
theorem Zip (W:World):Opn prog W 22 (fun l:List (Chn)=>[.sl 2 false (l.map chnA)]) (fun l=>l.length≤8796093022207∧∀ a∈l,OkC a):=Qgg (Zms W) (⟨0,[]⟩) Tryz.underlying22 (by kernel_rfl) (by decide) (Nat.le_of_ble_eq_true (by kernel_rfl))
theorem Zmr (W:World):Opn prog W 95 cntA OkK:=
 (Qdc (N:=2) Tryz.underlying95 (by kernel_rfl) (Qa8 (k:=1) (Qc5 Tryz.underlying3) rfl (by kernel_rfl) (Qa8 (k:=1) (Qc5 Tryz.underlying3) rfl (by kernel_rfl) (Qew 2)))).map (fun g=>⟨g.1,g.2.1⟩) (fun _=>rfl) (fun a h=>⟨h.1,h.2.1⟩)
theorem Zio (W:World):Opn prog W 23 (fun l:List (Cnt)=>[.sl 2 false (l.map cntA)]) (fun l=>l.length≤8796093022207∧∀ a∈l,OkK a):=Qgg (Zmr W) (⟨0,0⟩) Tryz.underlying23 (by kernel_rfl) (by decide) (Nat.le_of_ble_eq_true (by kernel_rfl))
theorem Zmp (W:World):Opn prog W 25 stoA OkS:=
 (Qdc (N:=3) Tryz.underlying25 (by kernel_rfl) (Qa8 (k:=1) (Zip W) rfl (by kernel_rfl) (Qa8 (k:=1) (Zio W) rfl (by kernel_rfl) (Qa8 (k:=1) (Qc5 Tryz.underlying3) rfl (by kernel_rfl) (Qew 3))))).map (fun g=>⟨g.1,g.2.1,g.2.2.1⟩) (fun _=>rfl) (fun a h=>⟨h.2.2.1,h.1.1,h.2.1.1,h.1.2,h.2.1.2⟩)
theorem Zmt (W:World):Opn prog W 33 calA OkC0:=
 (Qdc (N:=8) Tryz.underlying33 (by kernel_rfl) (Qa8 (k:=1) (Qc5 Tryz.underlying3) rfl (by kernel_rfl) (Qa8 (k:=1) (Qc5 Tryz.underlying3) rfl (by kernel_rfl) (Qa8 (k:=1) (Qc5 Tryz.underlying3) rfl (by kernel_rfl) (Qa8 (k:=1) (Qc5 Tryz.underlying3) rfl (by kernel_rfl) (Qa8 (k:=1) (Qc5 Tryz.underlying3) rfl (by kernel_rfl) (Qa8 (k:=1) (Qgf Tryz.underlying9) rfl (by kernel_rfl) (Qa8 (k:=1) (Qgf Tryz.underlying9) rfl (by kernel_rfl) (Qa8 (k:=1) (Qgf Tryz.underlying9) rfl (by kernel_rfl) (Qew 8)))))))))).map (fun g=>⟨g.1,g.2.1,g.2.2.1,g.2.2.2.1,g.2.2.2.2.1,g.2.2.2.2.2.1,g.2.2.2.2.2.2.1,g.2.2.2.2.2.2.2.1⟩) (fun _=>rfl) (fun a h=>⟨h.1,h.2.1,h.2.2.1,h.2.2.2.1,h.2.2.2.2.1,h.2.2.2.2.2.1,h.2.2.2.2.2.2.1,h.2.2.2.2.2.2.2.1⟩)
theorem Ziq (W:World):Opn prog W 39 (fun l:List (Cal)=>[.sl 8 false (l.map calA)]) (fun l=>l.length≤8796093022207∧∀ a∈l,OkC0 a):=Qgg (Zmt W) (⟨0,0,0,0,0,[],[],[]⟩) Tryz.underlying39 (by kernel_rfl) (by decide) (Nat.le_of_ble_eq_true (by kernel_rfl))
theorem Zim (W:World):Opn prog W 29 (fun l:List (Int)=>[.sl 1 false (l.map intA)]) (fun l=>l.length≤140737488351232∧∀ a∈l,I64 a):=Zab (Qc5 Tryz.underlying3) (0) Tryz.underlying29 (by kernel_rfl) (by decide) (Nat.le_of_ble_eq_true (by kernel_rfl))
theorem Zmo (W:World):Opn prog W 31 txnA OkT:=
 (Qdc (N:=6) Tryz.underlying31 (by kernel_rfl) (Qa8 (k:=1) (Qc5 Tryz.underlying3) rfl (by kernel_rfl) (Qa8 (k:=2) (Zdr W) rfl (by kernel_rfl) (Qa8 (k:=2) (Zdr W) rfl (by kernel_rfl) (Qa8 (k:=1) (Zim W) rfl (by kernel_rfl) (Qew 6)))))).map (fun g=>⟨g.1,g.2.1,g.2.2.1,g.2.2.2.1⟩) (fun _=>rfl) (fun a h=>⟨h.1,h.2.1,h.2.2.1,h.2.2.2.1.1⟩)
end Go.Proofs.YtahlldgocpabjaaGreat
