import Derived.Test.YtahlldgocpabjaaGreatMrgJ
import Derived.Test.YtahlldgocpabjaaGreatMrgB
set_option maxRecDepth 100000
set_option maxHeartbeats 8000000
set_option linter.unusedVariables false
set_option linter.unusedSimpArgs false
namespace Go.Proofs.YtahlldgocpabjaaGreat
open Go Go.RowKit Copyhold
theorem Qiz (s:Txt) (c:UInt8):Qaj Tryz.prog 220 [aS s,aS [c]] (aB (s.contains c)):=Zba fun D w vs h=>by
 obtain ⟨u,v,rfl,hu,hv⟩:=h.two
 cases hu;cases hv
 exact (Qhg s c w).mono fun e w' ⟨h1,h2⟩=>⟨h1,h2 ▸ Below.refl _ _⟩
def Qmh (s:Txt):Prop:=s ≠ []∧s ≠ [46]∧s ≠ [46,46]∧s.length≤32∧(47:UInt8) ∉ s∧(0:UInt8) ∉ s
noncomputable def Qah (s:Txt):Int:=if dP (Qmh s) then 0 else 10
theorem Qpi {s:Txt} (h:Qmh s):Qah s=0:=by unfold Qah;rw [Qbb.2 h];rfl
theorem Qdu {s:Txt} (h:¬ Qmh s):Qah s=10:=by unfold Qah;rw [Qag.2 h];rfl
theorem Qcj {s:Txt}:Qah s=0↔Qmh s:=⟨fun h=>Classical.byContradiction fun hn=>(by rw [Qdu hn] at h;cases h),Qpi⟩
def entP (l:List Ent) (i:Nat) (e:Ent):Prop:=Qmh e.name∧1≤e.ino∧∀ d,0<i→l[i-1]?=some d→Op.bytesLess d.name e.name=true
def rowP (l:List Ent):Prop:=l.length≤256∧AllQ (entP l) l
theorem Qb8:rowP []:=⟨Nat.zero_le _,fun i e h=>by simp at h⟩
def nodP (n:Nod):Prop:=1≤n.ino∧0≤n.links∧n.links≤64∧((n.kind=2∧n.text=[]∧rowP n.l)∨((n.kind=1∨n.kind=3)∧n.text.length≤4096∧n.l=[]))
theorem Qei (s:Txt) (hs:s.length≤140737488351232):Qaj Tryz.prog 183 [aS s] (aI (Qah s)):=by
 exact Qac (F:=Tryz.f183) 400 (
 .r 1<|.r 3<|.br 3 (s==([])) (fun q1=>have p1:=beqT q1;.r 1<|.fin (x:=aI 10) (r:=aI (Qah s)) [] trivial (by exact Sub.of_eq (congrArg aI (Qdu (by rintro ⟨c1,c2,c3,c4,c5,c6⟩;first | contradiction | omega | (simp_all;done) | (simp_all;omega))).symm)))
 <| fun q1=>have p1:=beqF q1;.r 3<|.br 3 (s==([46])) (fun q2=>have p2:=beqT q2;.r 1<|.fin (x:=aI 10) (r:=aI (Qah s)) [] trivial (by exact Sub.of_eq (congrArg aI (Qdu (by rintro ⟨c1,c2,c3,c4,c5,c6⟩;first | contradiction | omega | (simp_all;done) | (simp_all;omega))).symm)))
 <| fun q2=>have p2:=beqF q2;.r 3<|.br 3 (s==([46,46])) (fun q3=>have p3:=beqT q3;.r 1<|.fin (x:=aI 10) (r:=aI (Qah s)) [] trivial (by exact Sub.of_eq (congrArg aI (Qdu (by rintro ⟨c1,c2,c3,c4,c5,c6⟩;first | contradiction | omega | (simp_all;done) | (simp_all;omega))).symm)))
 <| fun q3=>have p3:=beqF q3;.r 4<|.br 10 (decide (((s).length:Int)>32)) (fun q4=>have p4:=decT q4;.r 1<|.fin (x:=aI 10) (r:=aI (Qah s)) [] trivial (by exact Sub.of_eq (congrArg aI (Qdu (by rintro ⟨c1,c2,c3,c4,c5,c6⟩;first | contradiction | omega | (simp_all;done) | (simp_all;omega))).symm)))
 <| fun q4=>have p4:=decF q4;.r 1<|.call (Qiz s 47)<|
 .r 1<|.br 10 (s.contains 47) (fun q5=>have p5:=booT q5;.r 1<|.fin (x:=aI 10) (r:=aI (Qah s)) [] trivial (by exact Sub.of_eq (congrArg aI (Qdu (by rintro ⟨c1,c2,c3,c4,c5,c6⟩;first | contradiction | omega | (simp_all;done) | (simp_all;omega))).symm)))
 <| fun q5=>have p5:=booF q5;.r 1<|.call (Qiz s 0)<|
 .r 1<|.br 10 (s.contains 0) (fun q6=>have p6:=booT q6;.r 1<|.fin (x:=aI 10) (r:=aI (Qah s)) [] trivial (by exact Sub.of_eq (congrArg aI (Qdu (by rintro ⟨c1,c2,c3,c4,c5,c6⟩;first | contradiction | omega | (simp_all;done) | (simp_all;omega))).symm)))
 <| fun q6=>have p6:=booF q6;.r 1<|.fin (x:=aI 0) (r:=aI (Qah s)) [] trivial (by exact Sub.of_eq (congrArg aI (Qpi (by refine ⟨?_,?_,?_,?_,?_,?_⟩<;>first | assumption | omega | simp_all)).symm))) Tryz.func183 rfl (by kernel_rfl) (by kernel_rfl)
def byP (_:Nat) (c:UInt8):Prop:=¬ (c.toNat:Int)=47∧¬ (c.toNat:Int)=0
theorem byP_no {s:Txt} (h:AllQ byP s):(47:UInt8) ∉ s∧(0:UInt8) ∉ s:=
 ⟨fun hm=>by obtain ⟨i,hi⟩:=List.getElem?_of_mem hm;exact (h i _ hi).1 rfl,fun hm=>by obtain ⟨i,hi⟩:=List.getElem?_of_mem hm;exact (h i _ hi).2 rfl⟩
theorem by47 {s:Txt} {c:UInt8} {k:Nat} (hc:s[k]?=some c) (h:(c.toNat:Int)=47):(47:UInt8)∈s:=by
 have:c=47:=UInt8.toNat_inj.1 (by show c.toNat=47;omega)
 exact this ▸ List.mem_of_getElem? hc
theorem by0 {s:Txt} {c:UInt8} {k:Nat} (hc:s[k]?=some c) (h:(c.toNat:Int)=0):(0:UInt8)∈s:=by
 have:c=0:=UInt8.toNat_inj.1 (by show c.toNat=0;omega)
 exact this ▸ List.mem_of_getElem? hc
theorem Qdr (s:Txt) (hs:s.length≤140737488351232):Qaj Tryz.prog 114 [aS s] (aI (Qah s)):=by
 exact Qac (F:=Tryz.f114) 400 (
 .r 1<|.r 4<|.br 7 (decide (((s).length:Int)<1)) (fun q1=>have p1:=decT q1;.r 12<|.r 1<|.fin (x:=aI 10) (r:=aI (Qah s)) [] trivial (by exact Sub.of_eq (congrArg aI (Qdu (by rintro ⟨c1,c2,c3,c4,c5,c6⟩;first | contradiction | omega | exact c1 (List.eq_nil_of_length_eq_zero (by omega)) | (simp_all;done) | (simp_all;omega) | (cases s<;>simp_all))).symm)))
 <| fun q1=>have p1:=decF q1;.r 5<|.br 12 (decide (((s).length:Int)>32)) (fun q2=>have p2:=decT q2;.r 7<|.r 1<|.fin (x:=aI 10) (r:=aI (Qah s)) [] trivial (by exact Sub.of_eq (congrArg aI (Qdu (by rintro ⟨c1,c2,c3,c4,c5,c6⟩;first | contradiction | omega | exact c1 (List.eq_nil_of_length_eq_zero (by omega)) | (simp_all;done) | (simp_all;omega) | (cases s<;>simp_all))).symm)))
 <| fun q2=>have p2:=decF q2;.r 4<|.br 16 (s==([46])) (fun q3=>have p3:=beqT q3;.r 3<|.r 1<|.fin (x:=aI 10) (r:=aI (Qah s)) [] trivial (by exact Sub.of_eq (congrArg aI (Qdu (by rintro ⟨c1,c2,c3,c4,c5,c6⟩;first | contradiction | omega | exact c1 (List.eq_nil_of_length_eq_zero (by omega)) | (simp_all;done) | (simp_all;omega) | (cases s<;>simp_all))).symm)))
 <| fun q3=>have p3:=beqF q3;.r 3<|.br 19 (s==([46,46])) (fun q4=>have p4:=beqT q4;.r 1<|.fin (x:=aI 10) (r:=aI (Qah s)) [] trivial (by exact Sub.of_eq (congrArg aI (Qdu (by rintro ⟨c1,c2,c3,c4,c5,c6⟩;first | contradiction | omega | exact c1 (List.eq_nil_of_length_eq_zero (by omega)) | (simp_all;done) | (simp_all;omega) | (cases s<;>simp_all))).symm)))
 <| fun q4=>have p4:=beqF q4;.r 1<|let L1:Lp (Nat):=⟨fun a1=>⟨[(0,aS s),(3,aI (a1:Int))],[]⟩,fun a1=>s.length-a1,fun a1=>a1≤s.length∧Qa1 byP s a1⟩
 .loop L1 0 (show 0≤s.length∧Qa1 byP s 0 from ⟨Nat.zero_le _,Qa1.zero _ _⟩) ⟨[(0,aS s),(3,aI 0)],[]⟩ ⟨sR,Sub.of_eq (congrArg aI (by first | omega | rfl)),trivial⟩ trivial fun a1 ha1=>
 (fun (k:Nat) (hH1:k≤s.length∧Qa1 byP s k)=>.r 4<|.br 23 (decide ((k:Int)<((s).length:Int))) (fun q5=>have p5:=decT q5;.r 2<|.byte k (m:=(k:Int)) (tx:=s) rfl (by omega) fun c1 hc1=>
 .binV .eql 5 (eqlN (k:=.u8) (a:=(c1.toNat:Int)) (b:=47))<|
 .r 1<|.br 30 ((c1.toNat:Int)==47) (fun q6=>have p6:=beqT q6;.r 5<|.r 1<|.fin (x:=aI 10) (r:=aI (Qah s)) [] trivial (by exact Sub.of_eq (congrArg aI (Qdu (by rintro ⟨c1,c2,c3,c4,c5,c6⟩;first | exact c5 (by47 (by assumption) (by assumption)) | exact c6 (by0 (by assumption) (by assumption)) | first | contradiction | omega | exact c1 (List.eq_nil_of_length_eq_zero (by omega)) | (simp_all;done) | (simp_all;omega) | (cases s<;>simp_all))).symm)))
 <| fun q6=>have p6:=beqF q6;.r 2<|.byte k (m:=(k:Int)) (tx:=s) rfl (by omega) fun c2 hc2=>
 .binV .eql 5 (eqlN (k:=.u8) (a:=(c2.toNat:Int)) (b:=0))<|
 .r 1<|.br 35 ((c2.toNat:Int)==0) (fun q7=>have p7:=beqT q7;.r 1<|.fin (x:=aI 10) (r:=aI (Qah s)) [] trivial (by exact Sub.of_eq (congrArg aI (Qdu (by rintro ⟨c1,c2,c3,c4,c5,c6⟩;first | exact c5 (by47 (by assumption) (by assumption)) | exact c6 (by0 (by assumption) (by assumption)) | first | contradiction | omega | exact c1 (List.eq_nil_of_length_eq_zero (by omega)) | (simp_all;done) | (simp_all;omega) | (cases s<;>simp_all))).symm)))
 <| fun q7=>have p7:=beqF q7;.run 3 [rng .i64 ((k:Int)+1)] ⟨Qas (by omega) (by omega),trivial⟩<|
 .back L1 k (k+1) (show (k+1)≤s.length∧Qa1 byP s (k+1) from ⟨by omega,hH1.2.step hc1 ⟨by assumption,by simp_all⟩⟩) (show s.length-(k+1)<s.length-k from (by omega)) ⟨[(0,aS s),(3,aI ((k:Int)+1))],[]⟩ ⟨sR,Sub.of_eq (congrArg aI (by first | omega | rfl)),trivial⟩ trivial)
 <| fun q5=>have p5:=decF q5;.r 1<|.fin (x:=aI 0) (r:=aI (Qah s)) [] trivial (by
  obtain ⟨n1,n2⟩:=byP_no (hH1.2.full (by omega))
  exact Sub.of_eq (congrArg aI (Qpi ⟨by (intro h;subst h;simp at *),by assumption,by assumption,by omega,n1,n2⟩).symm))) a1 ha1) Tryz.func114 rfl (by kernel_rfl) (by kernel_rfl)
theorem Qyp (l:List Ent) (hl:l.length≤8796093022207∧∀ e∈l,OkE e):Qaj Tryz.prog 169 [.sl 2 false (l.map entA)] (aB (dP (rowP l))):=by
 exact Qac (F:=Tryz.f169) 400 (
 .r 1<|.r 2<|.val 6 (show (aI ((l.map entA).length:Int):AV)=aI (l.length:Int) from by rw [List.length_map])<|.r 1<|.br 7 (decide ((l.length:Int)>256)) (fun q1=>have p1:=decT q1;.r 1<|.fin (x:=aB false) (r:=aB (dP (rowP l))) [] trivial (by exact sF (fun h=>by have:=h.1;omega)))
 <| fun q1=>have p1:=decF q1;.r 1<|let L1:Lp (Nat):=⟨fun a1=>⟨[(0,.sl 2 false (l.map entA)),(3,aI (a1:Int))],[]⟩,fun a1=>l.length-a1,fun a1=>a1≤l.length∧Qa1 (entP l) l a1⟩
 .loop L1 0 (show 0≤l.length∧Qa1 (entP l) l 0 from ⟨Nat.zero_le _,Qa1.zero _ _⟩) ⟨[(0,.sl 2 false (l.map entA)),(3,aI 0)],[]⟩ ⟨sR,Sub.of_eq (congrArg aI (by first | omega | rfl)),trivial⟩ trivial fun a1 ha1=>
 (fun (k:Nat) (hH1:k≤l.length∧Qa1 (entP l) l k)=>.r 3<|.val 10 (show (aI ((l.map entA).length:Int):AV)=aI (l.length:Int) from by rw [List.length_map])<|.r 1<|.br 11 (decide ((k:Int)<(l.length:Int))) (fun q2=>have p2:=decT q2;.r 2<|.idxM l entA k (m:=(k:Int)) rfl (by omega) fun x1 hx1=>
 have hbx1:=hl.2 x1 (List.mem_of_getElem? hx1);have hnx1:=hbx1.1;.r 2<|.call (Qdr x1.name (by assumption))<|
 .r 1<|.ord [0,1,2,3,4,5,6,7,8,9,10,11,12,13,14,15,16,17,18,19,20,21,22,23,24,25,26,27]<|.r 3<|.br 22 ((Qah x1.name) != 0) (fun q3=>have p3:=bneT q3;.r 25<|.r 1<|.fin (x:=aB false) (r:=aB (dP (rowP l))) [] trivial (by
  refine sF (fun h=>?_)
  obtain ⟨g1,g2,g3⟩:=h.2.at hx1
  first | exact absurd (Qcj.2 g1) (by omega) | omega | (have:=g3 _ (by omega) (by assumption);simp_all)))
 <| fun q3=>have p3:=bneF q3;.r 2<|.idx k (m:=(k:Int)) (xs:=l.map entA) (e:=entA x1) rfl (map_some hx1)<|
 .r 5<|.br 30 (decide (x1.ino<1)) (fun q4=>have p4:=decT q4;.r 17<|.r 1<|.fin (x:=aB false) (r:=aB (dP (rowP l))) [] trivial (by
  refine sF (fun h=>?_)
  obtain ⟨g1,g2,g3⟩:=h.2.at hx1
  first | exact absurd (Qcj.2 g1) (by omega) | omega | (have:=g3 _ (by omega) (by assumption);simp_all)))
 <| fun q4=>have p4:=decF q4;.r 3<|.br 33 (decide ((k:Int)>0)) (fun q5=>have p5:=decT q5;.run 3 [rng .i64 ((k:Int)-1)] ⟨Qas (by omega) (by omega),trivial⟩<|
 .idxM l entA (k-1) (m:=(k:Int)-1) (by omega) (by omega) fun x2 hx2=>
 have hbx2:=hl.2 x2 (List.mem_of_getElem? hx2);have hnx2:=hbx2.1;.r 4<|.idx k (m:=(k:Int)) (xs:=l.map entA) (e:=entA x1) rfl (map_some hx1)<|
 .r 2<|.binV .geq 9 (geqS (a:=x2.name) (b:=x1.name))<|
 .r 2<|.br 47 (!(Op.bytesLess x2.name x1.name)) (fun q6=>have q6:=notT q6;have p6:=booF q6;.r 1<|.fin (x:=aB false) (r:=aB (dP (rowP l))) [] trivial (by
  refine sF (fun h=>?_)
  obtain ⟨g1,g2,g3⟩:=h.2.at hx1
  first | exact absurd (Qcj.2 g1) (by omega) | omega | (have:=g3 _ (by omega) (by assumption);simp_all)))
 <| fun q6=>have q6:=notF q6;have p6:=booT q6;.run 3 [rng .i64 ((k:Int)+1)] ⟨Qas (by omega) (by omega),trivial⟩<|
 .back L1 k (k+1) (show (k+1)≤l.length∧Qa1 (entP l) l (k+1) from ⟨by omega,hH1.2.step hx1 (by refine ⟨Qcj.1 (by omega),by omega,fun d h0 hd=>?_⟩;first | omega | (simp_all;done) | (rw [Nat.add_one_sub_one] at *;simp_all))⟩) (show l.length-(k+1)<l.length-k from (by omega)) ⟨[(0,.sl 2 false (l.map entA)),(3,aI ((k:Int)+1))],[]⟩ ⟨sR,Sub.of_eq (congrArg aI (by first | omega | rfl)),trivial⟩ trivial)
 <| fun q5=>have p5:=decF q5;.r 14<|.run 3 [rng .i64 ((k:Int)+1)] ⟨Qas (by omega) (by omega),trivial⟩<|
 .back L1 k (k+1) (show (k+1)≤l.length∧Qa1 (entP l) l (k+1) from ⟨by omega,hH1.2.step hx1 (by refine ⟨Qcj.1 (by omega),by omega,fun d h0 hd=>?_⟩;first | omega | (simp_all;done) | (rw [Nat.add_one_sub_one] at *;simp_all))⟩) (show l.length-(k+1)<l.length-k from (by omega)) ⟨[(0,.sl 2 false (l.map entA)),(3,aI ((k:Int)+1))],[]⟩ ⟨sR,Sub.of_eq (congrArg aI (by first | omega | rfl)),trivial⟩ trivial)
 <| fun q2=>have p2:=decF q2;.r 1<|.fin (x:=aB true) (r:=aB (dP (rowP l))) [] trivial (by exact sT ⟨by omega,hH1.2.full (by omega)⟩)) a1 ha1) Tryz.func169 rfl (by kernel_rfl) (by kernel_rfl)
theorem Zds (l:List Ent) (hl:l.length≤8796093022207∧∀ e∈l,OkE e):Qaj Tryz.prog 170 [.sl 2 false (l.map entA)] (aB (dP (rowP l))):=by
 exact Qac (F:=Tryz.f170) 400 (
 .r 1<|.r 2<|.val 6 (show (aI ((l.map entA).length:Int):AV)=aI (l.length:Int) from by rw [List.length_map])<|.r 1<|.br 7 (decide ((l.length:Int)>256)) (fun q1=>have p1:=decT q1;.r 1<|.fin (x:=aB false) (r:=aB (dP (rowP l))) [] trivial (by exact sF (fun h=>by have:=h.1;omega)))
 <| fun q1=>have p1:=decF q1;.r 2<|.val 9 (show (aI ((l.map entA).length:Int):AV)=aI (l.length:Int) from by rw [List.length_map])<|.r 1<|let L1:Lp (Nat):=⟨fun a1=>⟨[(0,.sl 2 false (l.map entA)),(8,.sl 2 false (l.map entA)),(9,aI (l.length:Int)),(10,aI (a1:Int))],[]⟩,fun a1=>l.length-a1,fun a1=>a1≤l.length∧Qa1 (entP l) l a1⟩
 .loop L1 0 (show 0≤l.length∧Qa1 (entP l) l 0 from ⟨Nat.zero_le _,Qa1.zero _ _⟩) ⟨[(0,.sl 2 false (l.map entA)),(8,.sl 2 false (l.map entA)),(9,aI (l.length:Int)),(10,aI 0)],[]⟩ ⟨sR,sR,sR,Sub.of_eq (congrArg aI (by first | omega | rfl)),trivial⟩ trivial fun a1 ha1=>
 (fun (k:Nat) (hH1:k≤l.length∧Qa1 (entP l) l k)=>.r 1<|.br 11 (decide ((k:Int)<(l.length:Int))) (fun q2=>have p2:=decT q2;.r 1<|.idxM l entA k (m:=(k:Int)) rfl (by omega) fun x1 hx1=>
 have hbx1:=hl.2 x1 (List.mem_of_getElem? hx1);have hnx1:=hbx1.1;.r 1<|.new fun b1=>.run 2 [b1=b1] rt1<|
 .run 2 [b1=b1] rt1<|
 .call (Qei x1.name (by assumption))<|
 .r 2<|.br 19 ((Qah x1.name) != 0) (fun q3=>have p3:=bneT q3;.r 4<|.r 1<|.fin (x:=aB false) (r:=aB (dP (rowP l))) [] trivial (by
  refine sF (fun h=>?_)
  obtain ⟨g1,g2,g3⟩:=h.2.at hx1
  first | exact absurd (Qcj.2 g1) (by omega) | omega | (have:=g3 _ (by omega) (by assumption);simp_all)))
 <| fun q3=>have p3:=bneF q3;.run 4 [b1=b1] rt1<|
 .br 23 (decide (x1.ino<1)) (fun q4=>have p4:=decT q4;.r 1<|.fin (x:=aB false) (r:=aB (dP (rowP l))) [] trivial (by
  refine sF (fun h=>?_)
  obtain ⟨g1,g2,g3⟩:=h.2.at hx1
  first | exact absurd (Qcj.2 g1) (by omega) | omega | (have:=g3 _ (by omega) (by assumption);simp_all)))
 <| fun q4=>have p4:=decF q4;.ord [0,1,2,3,4,5,6,7,8,9,10,11,12]<|.r 3<|.br 26 (decide ((k:Int)>0)) (fun q5=>have p5:=decT q5;.run 3 [rng .i64 ((k:Int)-1)] ⟨Qas (by omega) (by omega),trivial⟩<|
 .idxM l entA (k-1) (m:=(k:Int)-1) (by omega) (by omega) fun x2 hx2=>
 have hbx2:=hl.2 x2 (List.mem_of_getElem? hx2);have hnx2:=hbx2.1;.run 4 [b1=b1] rt1<|
 .binV .geq 9 (geqS (a:=x2.name) (b:=x1.name))<|
 .r 1<|.br 36 (!(Op.bytesLess x2.name x1.name)) (fun q6=>have q6:=notT q6;have p6:=booF q6;.r 1<|.fin (x:=aB false) (r:=aB (dP (rowP l))) [] trivial (by
  refine sF (fun h=>?_)
  obtain ⟨g1,g2,g3⟩:=h.2.at hx1
  first | exact absurd (Qcj.2 g1) (by omega) | omega | (have:=g3 _ (by omega) (by assumption);simp_all)))
 <| fun q6=>have q6:=notF q6;have p6:=booT q6;.run 2 [rng .i64 ((k:Int)+1)] ⟨Qas (by omega) (by omega),trivial⟩<|
 .back L1 k (k+1) (show (k+1)≤l.length∧Qa1 (entP l) l (k+1) from ⟨by omega,hH1.2.step hx1 (by refine ⟨Qcj.1 (by omega),by omega,fun d h0 hd=>?_⟩;first | omega | (simp_all;done) | (rw [Nat.add_one_sub_one] at *;simp_all))⟩) (show l.length-(k+1)<l.length-k from (by omega)) ⟨[(0,.sl 2 false (l.map entA)),(8,.sl 2 false (l.map entA)),(9,aI (l.length:Int)),(10,aI ((k:Int)+1))],[]⟩ ⟨sR,sR,sR,Sub.of_eq (congrArg aI (by first | omega | rfl)),trivial⟩ trivial)
 <| fun q5=>have p5:=decF q5;.r 10<|.run 2 [rng .i64 ((k:Int)+1)] ⟨Qas (by omega) (by omega),trivial⟩<|
 .back L1 k (k+1) (show (k+1)≤l.length∧Qa1 (entP l) l (k+1) from ⟨by omega,hH1.2.step hx1 (by refine ⟨Qcj.1 (by omega),by omega,fun d h0 hd=>?_⟩;first | omega | (simp_all;done) | (rw [Nat.add_one_sub_one] at *;simp_all))⟩) (show l.length-(k+1)<l.length-k from (by omega)) ⟨[(0,.sl 2 false (l.map entA)),(8,.sl 2 false (l.map entA)),(9,aI (l.length:Int)),(10,aI ((k:Int)+1))],[]⟩ ⟨sR,sR,sR,Sub.of_eq (congrArg aI (by first | omega | rfl)),trivial⟩ trivial)
 <| fun q2=>have p2:=decF q2;.r 1<|.fin (x:=aB true) (r:=aB (dP (rowP l))) [] trivial (by exact sT ⟨by omega,hH1.2.full (by omega)⟩)) a1 ha1) Tryz.func170 rfl (by kernel_rfl) (by kernel_rfl)
theorem Qlj (n:Nod) (ok:OkN n):Qaj Tryz.prog 127 [.agg (nodA n)] (aB (dP (nodP n))):=by
 obtain ⟨on1,on2,on3,on4,on5,on6⟩:=id ok
 obtain ⟨on7,on8⟩:=id on1
 obtain ⟨on9,on10⟩:=id on2
 exact Qac (F:=Tryz.f127) 400 (
 .new fun b1=>.r 1<|.run 4 [b1=b1] rt1<|
 .br 6 (decide (n.ino<1)) (fun q1=>have p1:=decT q1;.r 9<|.r 1<|.fin (x:=aB false) (r:=aB (dP (nodP n))) [] trivial (by
  refine sF ?_
  rintro ⟨g1,g2,g3,⟨g4,g5,g6⟩ | ⟨g4,g5,g6⟩⟩<;>first | omega | contradiction | exact absurd g6 (Qag.1 (by assumption)) | exact absurd (g6 ▸ Qb8) (Qag.1 (by assumption)) | (have h0:n.l.length=0:=(by rw [g6];rfl);omega) | (have h0:n.text.length=0:=(by rw [g5];rfl);omega) | (simp_all [Qag];done) | (simp_all [Qag];omega)))
 <| fun q1=>have p1:=decF q1;.run 5 [b1=b1] rt1<|
 .br 11 (decide (n.links<0)) (fun q2=>have p2:=decT q2;.r 4<|.r 1<|.fin (x:=aB false) (r:=aB (dP (nodP n))) [] trivial (by
  refine sF ?_
  rintro ⟨g1,g2,g3,⟨g4,g5,g6⟩ | ⟨g4,g5,g6⟩⟩<;>first | omega | contradiction | exact absurd g6 (Qag.1 (by assumption)) | exact absurd (g6 ▸ Qb8) (Qag.1 (by assumption)) | (have h0:n.l.length=0:=(by rw [g6];rfl);omega) | (have h0:n.text.length=0:=(by rw [g5];rfl);omega) | (simp_all [Qag];done) | (simp_all [Qag];omega)))
 <| fun q2=>have p2:=decF q2;.run 4 [b1=b1] rt1<|
 .br 15 (decide (n.links>64)) (fun q3=>have p3:=decT q3;.r 1<|.fin (x:=aB false) (r:=aB (dP (nodP n))) [] trivial (by
  refine sF ?_
  rintro ⟨g1,g2,g3,⟨g4,g5,g6⟩ | ⟨g4,g5,g6⟩⟩<;>first | omega | contradiction | exact absurd g6 (Qag.1 (by assumption)) | exact absurd (g6 ▸ Qb8) (Qag.1 (by assumption)) | (have h0:n.l.length=0:=(by rw [g6];rfl);omega) | (have h0:n.text.length=0:=(by rw [g5];rfl);omega) | (simp_all [Qag];done) | (simp_all [Qag];omega)))
 <| fun q3=>have p3:=decF q3;.run 2 [b1=b1] rt1<|
 .r 2<|.br 18 (n.kind==2) (fun q4=>have p4:=beqT q4;.run 4 [b1=b1] rt1<|
 .br 23 (n.text==([])) (fun q5=>have p5:=beqT q5;.run 2 [b1=b1] rt1<|
 .call (Zds n.l (by exact ⟨by assumption,by assumption⟩))<|
 .r 2<|.fin (x:=aB (dP (rowP n.l))) (r:=aB (dP (nodP n))) [] trivial (by
  refine sE ?_
  rw [Qbb]
  constructor
  ·intro h
   refine ⟨by omega,by omega,by omega,?_⟩
   first | exact .inl ⟨by omega,by assumption,by first | exact h | simp_all [Qbb]⟩ | exact .inr ⟨by omega,by omega,List.eq_nil_of_length_eq_zero (by have:=beqT h;omega)⟩
  ·rintro ⟨g1,g2,g3,⟨g4,g5,g6⟩ | ⟨g4,g5,g6⟩⟩<;>first | exact g6 | omega | (rw [g6];rfl) | (simp [g6];done)))
 <| fun q5=>have p5:=beqF q5;.r 5<|.fin (x:=aB false) (r:=aB (dP (nodP n))) [] trivial (by
  refine sF ?_
  rintro ⟨g1,g2,g3,⟨g4,g5,g6⟩ | ⟨g4,g5,g6⟩⟩<;>first | omega | contradiction | exact absurd g6 (Qag.1 (by assumption)) | exact absurd (g6 ▸ Qb8) (Qag.1 (by assumption)) | (have h0:n.l.length=0:=(by rw [g6];rfl);omega) | (have h0:n.text.length=0:=(by rw [g5];rfl);omega) | (simp_all [Qag];done) | (simp_all [Qag];omega)))
 <| fun q4=>have p4:=beqF q4;.r 2<|.br 28 (n.kind==1) (fun q6=>have p6:=beqT q6;.run 5 [b1=b1] rt1<|
 .br 35 (decide (((n.text).length:Int)≤4096)) (fun q7=>have p7:=decT q7;.run 3 [b1=b1] rt1<|
 .val 38 (show (aI ((n.l.map entA).length:Int):AV)=aI (n.l.length:Int) from by rw [List.length_map])<|.r 3<|.fin (x:=aB ((n.l.length:Int)==0)) (r:=aB (dP (nodP n))) [] trivial (by
  refine sE ?_
  constructor
  ·intro h
   refine ⟨by omega,by omega,by omega,?_⟩
   first | exact .inl ⟨by omega,by assumption,by first | exact h | simp_all [Qbb]⟩ | exact .inr ⟨by omega,by omega,List.eq_nil_of_length_eq_zero (by have:=beqT h;omega)⟩
  ·rintro ⟨g1,g2,g3,⟨g4,g5,g6⟩ | ⟨g4,g5,g6⟩⟩<;>first | exact g6 | omega | (rw [g6];rfl) | (simp [g6];done)))
 <| fun q7=>have p7:=decF q7;.r 6<|.fin (x:=aB false) (r:=aB (dP (nodP n))) [] trivial (by
  refine sF ?_
  rintro ⟨g1,g2,g3,⟨g4,g5,g6⟩ | ⟨g4,g5,g6⟩⟩<;>first | omega | contradiction | exact absurd g6 (Qag.1 (by assumption)) | exact absurd (g6 ▸ Qb8) (Qag.1 (by assumption)) | (have h0:n.l.length=0:=(by rw [g6];rfl);omega) | (have h0:n.text.length=0:=(by rw [g5];rfl);omega) | (simp_all [Qag];done) | (simp_all [Qag];omega)))
 <| fun q6=>have p6:=beqF q6;.r 2<|.br 28 (n.kind==3) (fun q8=>have p8:=beqT q8;.run 5 [b1=b1] rt1<|
 .br 35 (decide (((n.text).length:Int)≤4096)) (fun q9=>have p9:=decT q9;.run 3 [b1=b1] rt1<|
 .val 38 (show (aI ((n.l.map entA).length:Int):AV)=aI (n.l.length:Int) from by rw [List.length_map])<|.r 3<|.fin (x:=aB ((n.l.length:Int)==0)) (r:=aB (dP (nodP n))) [] trivial (by
  refine sE ?_
  constructor
  ·intro h
   refine ⟨by omega,by omega,by omega,?_⟩
   first | exact .inl ⟨by omega,by assumption,by first | exact h | simp_all [Qbb]⟩ | exact .inr ⟨by omega,by omega,List.eq_nil_of_length_eq_zero (by have:=beqT h;omega)⟩
  ·rintro ⟨g1,g2,g3,⟨g4,g5,g6⟩ | ⟨g4,g5,g6⟩⟩<;>first | exact g6 | omega | (rw [g6];rfl) | (simp [g6];done)))
 <| fun q9=>have p9:=decF q9;.r 6<|.fin (x:=aB false) (r:=aB (dP (nodP n))) [] trivial (by
  refine sF ?_
  rintro ⟨g1,g2,g3,⟨g4,g5,g6⟩ | ⟨g4,g5,g6⟩⟩<;>first | omega | contradiction | exact absurd g6 (Qag.1 (by assumption)) | exact absurd (g6 ▸ Qb8) (Qag.1 (by assumption)) | (have h0:n.l.length=0:=(by rw [g6];rfl);omega) | (have h0:n.text.length=0:=(by rw [g5];rfl);omega) | (simp_all [Qag];done) | (simp_all [Qag];omega)))
 <| fun q8=>have p8:=beqF q8;.r 1<|.fin (x:=aB false) (r:=aB (dP (nodP n))) [] trivial (by
  refine sF ?_
  rintro ⟨g1,g2,g3,⟨g4,g5,g6⟩ | ⟨g4,g5,g6⟩⟩<;>first | omega | contradiction | exact absurd g6 (Qag.1 (by assumption)) | exact absurd (g6 ▸ Qb8) (Qag.1 (by assumption)) | (have h0:n.l.length=0:=(by rw [g6];rfl);omega) | (have h0:n.text.length=0:=(by rw [g5];rfl);omega) | (simp_all [Qag];done) | (simp_all [Qag];omega))) Tryz.func127 rfl (by kernel_rfl) (by kernel_rfl)
theorem Qjx (n:Nod) (ok:OkN n):Qaj Tryz.prog 126 [.agg (nodA n)] (aB (dP (nodP n))):=by
 obtain ⟨on1,on2,on3,on4,on5,on6⟩:=id ok
 obtain ⟨on7,on8⟩:=id on1
 obtain ⟨on9,on10⟩:=id on2
 exact Qac (F:=Tryz.f126) 400 (
 .new fun b1=>.r 1<|.run 4 [b1=b1] rt1<|
 .br 7 (decide (n.ino<1)) (fun q1=>have p1:=decT q1;.r 25<|.r 1<|.fin (x:=aB false) (r:=aB (dP (nodP n))) [] trivial (by
  refine sF ?_
  rintro ⟨g1,g2,g3,⟨g4,g5,g6⟩ | ⟨g4,g5,g6⟩⟩<;>first | omega | contradiction | exact absurd g6 (Qag.1 (by assumption)) | exact absurd (g6 ▸ Qb8) (Qag.1 (by assumption)) | (have h0:n.l.length=0:=(by rw [g6];rfl);omega) | (have h0:n.text.length=0:=(by rw [g5];rfl);omega) | (simp_all [Qag];done) | (simp_all [Qag];omega)))
 <| fun q1=>have p1:=decF q1;.run 5 [b1=b1] rt1<|
 .br 12 (decide (n.kind<1)) (fun q2=>have p2:=decT q2;.r 20<|.r 1<|.fin (x:=aB false) (r:=aB (dP (nodP n))) [] trivial (by
  refine sF ?_
  rintro ⟨g1,g2,g3,⟨g4,g5,g6⟩ | ⟨g4,g5,g6⟩⟩<;>first | omega | contradiction | exact absurd g6 (Qag.1 (by assumption)) | exact absurd (g6 ▸ Qb8) (Qag.1 (by assumption)) | (have h0:n.l.length=0:=(by rw [g6];rfl);omega) | (have h0:n.text.length=0:=(by rw [g5];rfl);omega) | (simp_all [Qag];done) | (simp_all [Qag];omega)))
 <| fun q2=>have p2:=decF q2;.run 5 [b1=b1] rt1<|
 .br 17 (decide (n.kind>3)) (fun q3=>have p3:=decT q3;.r 15<|.r 1<|.fin (x:=aB false) (r:=aB (dP (nodP n))) [] trivial (by
  refine sF ?_
  rintro ⟨g1,g2,g3,⟨g4,g5,g6⟩ | ⟨g4,g5,g6⟩⟩<;>first | omega | contradiction | exact absurd g6 (Qag.1 (by assumption)) | exact absurd (g6 ▸ Qb8) (Qag.1 (by assumption)) | (have h0:n.l.length=0:=(by rw [g6];rfl);omega) | (have h0:n.text.length=0:=(by rw [g5];rfl);omega) | (simp_all [Qag];done) | (simp_all [Qag];omega)))
 <| fun q3=>have p3:=decF q3;.run 5 [b1=b1] rt1<|
 .br 22 (decide (n.links<0)) (fun q4=>have p4:=decT q4;.r 10<|.r 1<|.fin (x:=aB false) (r:=aB (dP (nodP n))) [] trivial (by
  refine sF ?_
  rintro ⟨g1,g2,g3,⟨g4,g5,g6⟩ | ⟨g4,g5,g6⟩⟩<;>first | omega | contradiction | exact absurd g6 (Qag.1 (by assumption)) | exact absurd (g6 ▸ Qb8) (Qag.1 (by assumption)) | (have h0:n.l.length=0:=(by rw [g6];rfl);omega) | (have h0:n.text.length=0:=(by rw [g5];rfl);omega) | (simp_all [Qag];done) | (simp_all [Qag];omega)))
 <| fun q4=>have p4:=decF q4;.run 5 [b1=b1] rt1<|
 .br 27 (decide (n.links>64)) (fun q5=>have p5:=decT q5;.r 5<|.r 1<|.fin (x:=aB false) (r:=aB (dP (nodP n))) [] trivial (by
  refine sF ?_
  rintro ⟨g1,g2,g3,⟨g4,g5,g6⟩ | ⟨g4,g5,g6⟩⟩<;>first | omega | contradiction | exact absurd g6 (Qag.1 (by assumption)) | exact absurd (g6 ▸ Qb8) (Qag.1 (by assumption)) | (have h0:n.l.length=0:=(by rw [g6];rfl);omega) | (have h0:n.text.length=0:=(by rw [g5];rfl);omega) | (simp_all [Qag];done) | (simp_all [Qag];omega)))
 <| fun q5=>have p5:=decF q5;.run 5 [b1=b1] rt1<|
 .br 32 (decide (((n.text).length:Int)>4096)) (fun q6=>have p6:=decT q6;.r 1<|.fin (x:=aB false) (r:=aB (dP (nodP n))) [] trivial (by
  refine sF ?_
  rintro ⟨g1,g2,g3,⟨g4,g5,g6⟩ | ⟨g4,g5,g6⟩⟩<;>first | omega | contradiction | exact absurd g6 (Qag.1 (by assumption)) | exact absurd (g6 ▸ Qb8) (Qag.1 (by assumption)) | (have h0:n.l.length=0:=(by rw [g6];rfl);omega) | (have h0:n.text.length=0:=(by rw [g5];rfl);omega) | (simp_all [Qag];done) | (simp_all [Qag];omega)))
 <| fun q6=>have p6:=decF q6;.run 2 [b1=b1] rt1<|
 .call (Qyp n.l (by exact ⟨by assumption,by assumption⟩))<|
 .r 1<|.r 2<|.br 37 (dP (rowP n.l)) (fun q7=>have p7:=booT q7;.run 4 [b1=b1] rt1<|
 .br 41 (n.kind != 2) (fun q8=>have p8:=bneT q8;.run 10 [b1=b1] rt1<|
 .br 51 (n.kind==2) (fun q9=>have p9:=beqT q9;.r 7<|.fin (x:=aB true) (r:=aB (dP (nodP n))) [] trivial (by
  refine sT ⟨by omega,by omega,by omega,?_⟩
  first | exact .inl ⟨by omega,by assumption,by simp_all [Qbb]⟩ | exact .inr ⟨by omega,by omega,List.eq_nil_of_length_eq_zero (by omega)⟩))
 <| fun q9=>have p9:=beqF q9;.run 3 [b1=b1] rt1<|
 .val 54 (show (aI ((n.l.map entA).length:Int):AV)=aI (n.l.length:Int) from by rw [List.length_map])<|.r 4<|.fin (x:=aB ((n.l.length:Int)==0)) (r:=aB (dP (nodP n))) [] trivial (by
  refine sE ?_
  constructor
  ·intro h
   refine ⟨by omega,by omega,by omega,?_⟩
   first | exact .inl ⟨by omega,by assumption,by first | exact h | simp_all [Qbb]⟩ | exact .inr ⟨by omega,by omega,List.eq_nil_of_length_eq_zero (by have:=beqT h;omega)⟩
  ·rintro ⟨g1,g2,g3,⟨g4,g5,g6⟩ | ⟨g4,g5,g6⟩⟩<;>first | exact g6 | omega | (rw [g6];rfl) | (simp [g6];done)))
 <| fun q8=>have p8:=bneF q8;.run 6 [b1=b1] rt1<|
 .br 47 (n.text==([])) (fun q10=>have p10:=beqT q10;.run 4 [b1=b1] rt1<|
 .br 51 (n.kind==2) (fun q11=>have p11:=beqT q11;.r 7<|.fin (x:=aB true) (r:=aB (dP (nodP n))) [] trivial (by
  refine sT ⟨by omega,by omega,by omega,?_⟩
  first | exact .inl ⟨by omega,by assumption,by simp_all [Qbb]⟩ | exact .inr ⟨by omega,by omega,List.eq_nil_of_length_eq_zero (by omega)⟩))
 <| fun q11=>have p11:=beqF q11;.run 3 [b1=b1] rt1<|
 .val 54 (show (aI ((n.l.map entA).length:Int):AV)=aI (n.l.length:Int) from by rw [List.length_map])<|.r 4<|.fin (x:=aB ((n.l.length:Int)==0)) (r:=aB (dP (nodP n))) [] trivial (by
  refine sE ?_
  constructor
  ·intro h
   refine ⟨by omega,by omega,by omega,?_⟩
   first | exact .inl ⟨by omega,by assumption,by first | exact h | simp_all [Qbb]⟩ | exact .inr ⟨by omega,by omega,List.eq_nil_of_length_eq_zero (by have:=beqT h;omega)⟩
  ·rintro ⟨g1,g2,g3,⟨g4,g5,g6⟩ | ⟨g4,g5,g6⟩⟩<;>first | exact g6 | omega | (rw [g6];rfl) | (simp [g6];done)))
 <| fun q10=>have p10:=beqF q10;.r 11<|.fin (x:=aB false) (r:=aB (dP (nodP n))) [] trivial (by
  refine sF ?_
  rintro ⟨g1,g2,g3,⟨g4,g5,g6⟩ | ⟨g4,g5,g6⟩⟩<;>first | omega | contradiction | exact absurd g6 (Qag.1 (by assumption)) | exact absurd (g6 ▸ Qb8) (Qag.1 (by assumption)) | (have h0:n.l.length=0:=(by rw [g6];rfl);omega) | (have h0:n.text.length=0:=(by rw [g5];rfl);omega) | (simp_all [Qag];done) | (simp_all [Qag];omega)))
 <| fun q7=>have p7:=booF q7;.r 21<|.fin (x:=aB false) (r:=aB (dP (nodP n))) [] trivial (by
  refine sF ?_
  rintro ⟨g1,g2,g3,⟨g4,g5,g6⟩ | ⟨g4,g5,g6⟩⟩<;>first | omega | contradiction | exact absurd g6 (Qag.1 (by assumption)) | exact absurd (g6 ▸ Qb8) (Qag.1 (by assumption)) | (have h0:n.l.length=0:=(by rw [g6];rfl);omega) | (have h0:n.text.length=0:=(by rw [g5];rfl);omega) | (simp_all [Qag];done) | (simp_all [Qag];omega))) Tryz.func126 rfl (by kernel_rfl) (by kernel_rfl)
end Go.Proofs.YtahlldgocpabjaaGreat
