import Derived.Test.YtkhodpknpligpaaGreatAl
import Derived.Test.YtkhodpknpligpaaGreatMrgG
import Derived.Test.YtkhodpknpligpaaGreatMrgI
import Derived.Test.YtkhodpknpligpaaGreatMrgH
set_option maxRecDepth 100000
set_option maxHeartbeats 8000000
set_option linter.unusedVariables false
set_option linter.unusedSimpArgs false
namespace Go.Proofs.YtkhodpknpligpaaGreat
open Go Go.RowKit Copyhold Go.Proofs.Tryz
theorem Qjj (s:Txt) (c:UInt8):Qag prog 232 [aS s,aS [c]] (aB (s.contains c)):=Zd2 fun D w vs h=>by
 obtain ⟨u,v,rfl,hu,hv⟩:=h.two;cases hu;cases hv;exact (Qhy s c w).mono fun e w' ⟨h1,h2⟩=>⟨h1,h2 ▸ Below.refl _ _⟩
def Qni (s:Txt):Prop:=s ≠ []∧s ≠ [46]∧s ≠ [46,46]∧s.length≤32∧(47:UInt8) ∉ s∧(0:UInt8) ∉ s
noncomputable def Qaj (s:Txt):Int:=if dP (Qni s) then 0 else 10
theorem Qqw {s:Txt} (h:Qni s):Qaj s=0:=by unfold Qaj;rw [Qaf.2 h];rfl
theorem Qd0 {s:Txt} (h:¬ Qni s):Qaj s=10:=by unfold Qaj;rw [Qaa.2 h];rfl
theorem Qcj {s:Txt}:Qaj s=0↔Qni s:=⟨fun h=>Classical.byContradiction fun hn=>(by rw [Qd0 hn] at h;cases h),Qqw⟩
def entP (l:List Ent) (i:Nat) (e:Ent):Prop:=Qni e.name∧1≤e.ino∧∀ d,0<i→l[i-1]?=some d→Op.bytesLess d.name e.name=true
def rowP (l:List Ent):Prop:=l.length≤256∧AllQ (entP l) l
theorem Qb3:rowP []:=⟨W0j _,fun i e h=>by simp at h⟩
def nodP (n:Nod):Prop:=1≤n.ino∧0≤n.links∧n.links≤64∧((n.kind=2∧n.text=[]∧rowP n.l)∨((n.kind=1∨n.kind=3)∧n.text.length≤4096∧n.l=[]))
theorem Qer (s:Txt) (hs:s.length≤140737488351232):Qag prog 187 [aS s] (aI (Qaj s)):=by
 exact Qac func187 (
 .r 1<|.r 3<|.br 3 (s==([])) (fun q1=>have p1:=beqT q1;.r 1<|.f (aI (Qaj s)) [] (aI 10) (by exact W2n (W1y aI (Qd0 (by rintro ⟨c1,c2,c3,c4,c5,c6⟩;first | contradiction | omega | (simp_all;done) | (simp_all;omega))).symm)))
 <| fun q1=>have p1:=beqF q1;.r 3<|.br 3 (s==([46])) (fun q2=>have p2:=beqT q2;.r 1<|.f (aI (Qaj s)) [] (aI 10) (by exact W2n (W1y aI (Qd0 (by rintro ⟨c1,c2,c3,c4,c5,c6⟩;first | contradiction | omega | (simp_all;done) | (simp_all;omega))).symm)))
 <| fun q2=>have p2:=beqF q2;.r 3<|.br 3 (s==([46,46])) (fun q3=>have p3:=beqT q3;.r 1<|.f (aI (Qaj s)) [] (aI 10) (by exact W2n (W1y aI (Qd0 (by rintro ⟨c1,c2,c3,c4,c5,c6⟩;first | contradiction | omega | (simp_all;done) | (simp_all;omega))).symm)))
 <| fun q3=>have p3:=beqF q3;.r 4<|.br 10 (decide (((s).length:Int)>32)) (fun q4=>have p4:=decT q4;.r 1<|.f (aI (Qaj s)) [] (aI 10) (by exact W2n (W1y aI (Qd0 (by rintro ⟨c1,c2,c3,c4,c5,c6⟩;first | contradiction | omega | (simp_all;done) | (simp_all;omega))).symm)))
 <| fun q4=>have p4:=decF q4;.r 1<|.call (Qjj s 47)<|
 .r 1<|.br 10 (s.contains 47) (fun q5=>have p5:=booT q5;.r 1<|.f (aI (Qaj s)) [] (aI 10) (by exact W2n (W1y aI (Qd0 (by rintro ⟨c1,c2,c3,c4,c5,c6⟩;first | contradiction | omega | (simp_all;done) | (simp_all;omega))).symm)))
 <| fun q5=>have p5:=booF q5;.r 1<|.call (Qjj s 0)<|
 .r 1<|.br 10 (s.contains 0) (fun q6=>have p6:=booT q6;.r 1<|.f (aI (Qaj s)) [] (aI 10) (by exact W2n (W1y aI (Qd0 (by rintro ⟨c1,c2,c3,c4,c5,c6⟩;first | contradiction | omega | (simp_all;done) | (simp_all;omega))).symm)))
 <| fun q6=>have p6:=booF q6;.r 1<|.f (aI (Qaj s)) [] (aI 0) (by exact W2n (W1y aI (Qqw (by refine ⟨?_,?_,?_,?_,?_,?_⟩<;>first | assumption | omega | simp_all)).symm)))
def byP (_:Nat) (c:UInt8):Prop:=¬ (c.toNat:Int)=47∧¬ (c.toNat:Int)=0
theorem byP_no {s:Txt} (h:AllQ byP s):(47:UInt8) ∉ s∧(0:UInt8) ∉ s:=
 ⟨fun hm=>by obtain ⟨i,hi⟩:=W0w hm;exact (h i _ hi).1 rfl,fun hm=>by obtain ⟨i,hi⟩:=W0w hm;exact (h i _ hi).2 rfl⟩
theorem by47 {s:Txt} {c:UInt8} {k:Nat} (hc:s[k]?=some c) (h:(c.toNat:Int)=47):(47:UInt8)∈s:=by
 have:c=47:=UInt8.toNat_inj.1 (by show c.toNat=47;omega);exact this ▸ W0h hc
theorem by0 {s:Txt} {c:UInt8} {k:Nat} (hc:s[k]?=some c) (h:(c.toNat:Int)=0):(0:UInt8)∈s:=by
 have:c=0:=UInt8.toNat_inj.1 (by show c.toNat=0;omega);exact this ▸ W0h hc
theorem Qt7 (s:Txt) (hs:s.length≤140737488351232):Qag prog 186 [aS s] (aI (Qaj s)):=by
 exact Qac func186 (
 .r 1<|.r 4<|.br 7 (decide (((s).length:Int)<1)) (fun q1=>have p1:=decT q1;.r 12<|.r 1<|.f (aI (Qaj s)) [] (aI 10) (by exact W2n (W1y aI (Qd0 (by rintro ⟨c1,c2,c3,c4,c5,c6⟩;first | contradiction | omega | exact c1 (W0l (by omega)) | (simp_all;done) | (simp_all;omega) | (cases s<;>simp_all))).symm)))
 <| fun q1=>have p1:=decF q1;.r 5<|.br 12 (decide (((s).length:Int)>32)) (fun q2=>have p2:=decT q2;.r 7<|.r 1<|.f (aI (Qaj s)) [] (aI 10) (by exact W2n (W1y aI (Qd0 (by rintro ⟨c1,c2,c3,c4,c5,c6⟩;first | contradiction | omega | exact c1 (W0l (by omega)) | (simp_all;done) | (simp_all;omega) | (cases s<;>simp_all))).symm)))
 <| fun q2=>have p2:=decF q2;.r 4<|.br 16 (s==([46])) (fun q3=>have p3:=beqT q3;.r 3<|.r 1<|.f (aI (Qaj s)) [] (aI 10) (by exact W2n (W1y aI (Qd0 (by rintro ⟨c1,c2,c3,c4,c5,c6⟩;first | contradiction | omega | exact c1 (W0l (by omega)) | (simp_all;done) | (simp_all;omega) | (cases s<;>simp_all))).symm)))
 <| fun q3=>have p3:=beqF q3;.r 3<|.br 19 (s==([46,46])) (fun q4=>have p4:=beqT q4;.r 1<|.f (aI (Qaj s)) [] (aI 10) (by exact W2n (W1y aI (Qd0 (by rintro ⟨c1,c2,c3,c4,c5,c6⟩;first | contradiction | omega | exact c1 (W0l (by omega)) | (simp_all;done) | (simp_all;omega) | (cases s<;>simp_all))).symm)))
 <| fun q4=>have p4:=beqF q4;.r 1<|let L1:Lp (Nat):=⟨fun a1=>⟨[(0,aS s),(3,aI (a1:Int))],[]⟩,fun a1=>s.length-a1,fun a1=>a1≤s.length∧Qaz byP s a1⟩
 .lp L1 0 ⟨W0j _,Qaz.zero _ _⟩ [(3,aI 0)] [] ⟨sR,sO,trivial⟩ trivial fun a1 ha1=>
 (fun (k:Nat) (hH1:k≤s.length∧Qaz byP s k)=>.r 4<|.br 23 (decide ((k:Int)<((s).length:Int))) (fun q5=>have p5:=decT q5;.r 2<|.byte k (m:=(k:Int)) (tx:=s) rfl (by omega) fun c1 hc1=>
 .binV .eql 5 (eqlN (k:=.u8) (a:=(c1.toNat:Int)) (b:=47))<|
 .r 1<|.br 30 ((c1.toNat:Int)==47) (fun q6=>have p6:=beqT q6;.r 5<|.r 1<|.f (aI (Qaj s)) [] (aI 10) (by exact W2n (W1y aI (Qd0 (by rintro ⟨c1,c2,c3,c4,c5,c6⟩;first | exact c5 (by47 (by assumption) (by assumption)) | exact c6 (by0 (by assumption) (by assumption)) | first | contradiction | omega | exact c1 (W0l (by omega)) | (simp_all;done) | (simp_all;omega) | (cases s<;>simp_all))).symm)))
 <| fun q6=>have p6:=beqF q6;.r 2<|.byte k (m:=(k:Int)) (tx:=s) rfl (by omega) fun c2 hc2=>
 .binV .eql 5 (eqlN (k:=.u8) (a:=(c2.toNat:Int)) (b:=0))<|
 .r 1<|.br 35 ((c2.toNat:Int)==0) (fun q7=>have p7:=beqT q7;.r 1<|.f (aI (Qaj s)) [] (aI 10) (by exact W2n (W1y aI (Qd0 (by rintro ⟨c1,c2,c3,c4,c5,c6⟩;first | exact c5 (by47 (by assumption) (by assumption)) | exact c6 (by0 (by assumption) (by assumption)) | first | contradiction | omega | exact c1 (W0l (by omega)) | (simp_all;done) | (simp_all;omega) | (cases s<;>simp_all))).symm)))
 <| fun q7=>have p7:=beqF q7;.run 3 [rng .i64 ((k:Int)+1)] ⟨Qal,trivial⟩<|
 .bk L1 k (k+1) ⟨by omega,hH1.2.step hc1 ⟨by assumption,by simp_all⟩⟩ (show s.length-(k+1)<s.length-k from (by omega)) [(3,aI ((k:Int)+1))] [] ⟨sR,sO,trivial⟩ trivial)
 <| fun q5=>have p5:=decF q5;.r 1<|.f (aI (Qaj s)) [] (aI 0) (by
  obtain ⟨n1,n2⟩:=byP_no (hH1.2.full (by omega));exact W2n (W1y aI (Qqw ⟨by (intro h;subst h;simp at *),by assumption,by assumption,by omega,n1,n2⟩).symm))) a1 ha1)
theorem Zbo (l:List Ent) (hl:l.length≤8796093022207∧∀ e∈l,OkE e):Qag prog 153 [.sl 2 false (l.map entA)] (aB (dP (rowP l))):=by
 exact Qac func153 (let R:AV:=aB (dP (rowP l));
 .r 1<|.r 2<|.lm 6 l entA<|.r 1<|.br 7 (decide ((l.length:Int)>256)) (fun q1=>have p1:=decT q1;.r 1<|.f (aB (dP (rowP l))) [] (aB false) (by exact sF (fun h=>by have:=h.1;omega)))
 <| fun q1=>have p1:=decF q1;.r 1<|let L1:Lp (Nat):=⟨fun a1=>⟨[(0,.sl 2 false (l.map entA)),(3,aI (a1:Int))],[]⟩,fun a1=>l.length-a1,fun a1=>a1≤l.length∧Qaz (entP l) l a1⟩
 .lp L1 0 ⟨W0j _,Qaz.zero _ _⟩ [(3,aI 0)] [] ⟨sR,sO,trivial⟩ trivial fun a1 ha1=>
 (fun (k:Nat) (hH1:k≤l.length∧Qaz (entP l) l k)=>.r 3<|.lm 10 l entA<|.r 1<|.br 11 (decide ((k:Int)<(l.length:Int))) (fun q2=>have p2:=decT q2;.r 2<|.idxM l entA k (m:=(k:Int)) rfl (by omega) fun x1 hx1=>
 have hbx1:=hl.2 x1 (W0h hx1);have hnx1:=hbx1.1;.r 2<|.call (Qt7 x1.name (by assumption))<|
 .r 1<|.ord [0,1,2,3,4,5,6,7,8,9,10,11,12,13,14,15,16,17,18,19,20,21,22,23,24,25,26,27]<|.r 3<|.br 22 ((Qaj x1.name) != 0) (fun q3=>have p3:=bneT q3;.r 25<|.r 1<|.f R [] (aB false) (by
  refine sF (fun h=>?_);obtain ⟨g1,g2,g3⟩:=h.2.at hx1
  first | exact absurd (Qcj.2 g1) (by omega) | omega | (have:=g3 _ (by omega) (by assumption);simp_all)))
 <| fun q3=>have p3:=bneF q3;.r 2<|.idx k (m:=(k:Int)) (xs:=l.map entA) (e:=entA x1) rfl (map_some hx1)<|
 .r 5<|.br 30 (decide (x1.ino<1)) (fun q4=>have p4:=decT q4;.r 17<|.r 1<|.f R [] (aB false) (by
  refine sF (fun h=>?_);obtain ⟨g1,g2,g3⟩:=h.2.at hx1
  first | exact absurd (Qcj.2 g1) (by omega) | omega | (have:=g3 _ (by omega) (by assumption);simp_all)))
 <| fun q4=>have p4:=decF q4;.r 3<|.br 33 (decide ((k:Int)>0)) (fun q5=>have p5:=decT q5;.run 3 [rng .i64 ((k:Int)-1)] ⟨Qal,trivial⟩<|
 .idxM l entA (k-1) (m:=(k:Int)-1) (by omega) (by omega) fun x2 hx2=>
 have hbx2:=hl.2 x2 (W0h hx2);have hnx2:=hbx2.1;.r 4<|.idx k (m:=(k:Int)) (xs:=l.map entA) (e:=entA x1) rfl (map_some hx1)<|
 .r 2<|.binV .geq 9 (geqS (a:=x2.name) (b:=x1.name))<|
 .r 2<|.br 47 (!(Op.bytesLess x2.name x1.name)) (fun q6=>have q6:=notT q6;have p6:=booF q6;.r 1<|.f R [] (aB false) (by
  refine sF (fun h=>?_);obtain ⟨g1,g2,g3⟩:=h.2.at hx1
  first | exact absurd (Qcj.2 g1) (by omega) | omega | (have:=g3 _ (by omega) (by assumption);simp_all)))
 <| fun q6=>have q6:=notF q6;have p6:=booT q6;.run 3 [rng .i64 ((k:Int)+1)] ⟨Qal,trivial⟩<|
 .bk L1 k (k+1) ⟨by omega,hH1.2.step hx1 (by refine ⟨Qcj.1 (by omega),by omega,fun d h0 hd=>?_⟩;first | omega | (simp_all;done) | (rw [Nat.add_one_sub_one] at *;simp_all))⟩ (show l.length-(k+1)<l.length-k from (by omega)) [(3,aI ((k:Int)+1))] [] ⟨sR,sO,trivial⟩ trivial)
 <| fun q5=>have p5:=decF q5;.r 14<|.run 3 [rng .i64 ((k:Int)+1)] ⟨Qal,trivial⟩<|
 .bk L1 k (k+1) ⟨by omega,hH1.2.step hx1 (by refine ⟨Qcj.1 (by omega),by omega,fun d h0 hd=>?_⟩;first | omega | (simp_all;done) | (rw [Nat.add_one_sub_one] at *;simp_all))⟩ (show l.length-(k+1)<l.length-k from (by omega)) [(3,aI ((k:Int)+1))] [] ⟨sR,sO,trivial⟩ trivial)
 <| fun q2=>have p2:=decF q2;.r 1<|.f R [] (aB true) (by exact sT ⟨by omega,hH1.2.full (by omega)⟩)) a1 ha1)
theorem Zg9 (l:List Ent) (hl:l.length≤8796093022207∧∀ e∈l,OkE e):Qag prog 154 [.sl 2 false (l.map entA)] (aB (dP (rowP l))):=by
 exact Qac func154 (let R:AV:=aB (dP (rowP l));
 .r 1<|.r 2<|.lm 6 l entA<|.r 1<|.br 7 (decide ((l.length:Int)>256)) (fun q1=>have p1:=decT q1;.r 1<|.f (aB (dP (rowP l))) [] (aB false) (by exact sF (fun h=>by have:=h.1;omega)))
 <| fun q1=>have p1:=decF q1;.r 2<|.lm 9 l entA<|.r 1<|let L1:Lp (Nat):=⟨fun a1=>⟨[(0,.sl 2 false (l.map entA)),(8,.sl 2 false (l.map entA)),(9,aI (l.length:Int)),(10,aI (a1:Int))],[]⟩,fun a1=>l.length-a1,fun a1=>a1≤l.length∧Qaz (entP l) l a1⟩
 .lp L1 0 ⟨W0j _,Qaz.zero _ _⟩ [(10,aI 0)] [] ⟨sR,sR,sR,sO,trivial⟩ trivial fun a1 ha1=>
 (fun (k:Nat) (hH1:k≤l.length∧Qaz (entP l) l k)=>.r 1<|.br 11 (decide ((k:Int)<(l.length:Int))) (fun q2=>have p2:=decT q2;.r 1<|.idxM l entA k (m:=(k:Int)) rfl (by omega) fun x1 hx1=>
 have hbx1:=hl.2 x1 (W0h hx1);have hnx1:=hbx1.1;.r 1<|.new fun b1=>.u 2 [b1]<|
 .u 2 [b1]<|
 .call (Qer x1.name (by assumption))<|
 .r 2<|.br 19 ((Qaj x1.name) != 0) (fun q3=>have p3:=bneT q3;.r 4<|.r 1<|.f R [] (aB false) (by
  refine sF (fun h=>?_);obtain ⟨g1,g2,g3⟩:=h.2.at hx1
  first | exact absurd (Qcj.2 g1) (by omega) | omega | (have:=g3 _ (by omega) (by assumption);simp_all)))
 <| fun q3=>have p3:=bneF q3;.u 4 [b1]<|
 .br 23 (decide (x1.ino<1)) (fun q4=>have p4:=decT q4;.r 1<|.f R [] (aB false) (by
  refine sF (fun h=>?_);obtain ⟨g1,g2,g3⟩:=h.2.at hx1
  first | exact absurd (Qcj.2 g1) (by omega) | omega | (have:=g3 _ (by omega) (by assumption);simp_all)))
 <| fun q4=>have p4:=decF q4;.ord [0,1,2,3,4,5,6,7,8,9,10,11,12]<|.r 3<|.br 26 (decide ((k:Int)>0)) (fun q5=>have p5:=decT q5;.run 3 [rng .i64 ((k:Int)-1)] ⟨Qal,trivial⟩<|
 .idxM l entA (k-1) (m:=(k:Int)-1) (by omega) (by omega) fun x2 hx2=>
 have hbx2:=hl.2 x2 (W0h hx2);have hnx2:=hbx2.1;.u 4 [b1]<|
 .binV .geq 9 (geqS (a:=x2.name) (b:=x1.name))<|
 .r 1<|.br 36 (!(Op.bytesLess x2.name x1.name)) (fun q6=>have q6:=notT q6;have p6:=booF q6;.r 1<|.f R [] (aB false) (by
  refine sF (fun h=>?_);obtain ⟨g1,g2,g3⟩:=h.2.at hx1
  first | exact absurd (Qcj.2 g1) (by omega) | omega | (have:=g3 _ (by omega) (by assumption);simp_all)))
 <| fun q6=>have q6:=notF q6;have p6:=booT q6;.run 2 [rng .i64 ((k:Int)+1)] ⟨Qal,trivial⟩<|
 .bk L1 k (k+1) ⟨by omega,hH1.2.step hx1 (by refine ⟨Qcj.1 (by omega),by omega,fun d h0 hd=>?_⟩;first | omega | (simp_all;done) | (rw [Nat.add_one_sub_one] at *;simp_all))⟩ (show l.length-(k+1)<l.length-k from (by omega)) [(10,aI ((k:Int)+1))] [] ⟨sR,sR,sR,sO,trivial⟩ trivial)
 <| fun q5=>have p5:=decF q5;.r 10<|.run 2 [rng .i64 ((k:Int)+1)] ⟨Qal,trivial⟩<|
 .bk L1 k (k+1) ⟨by omega,hH1.2.step hx1 (by refine ⟨Qcj.1 (by omega),by omega,fun d h0 hd=>?_⟩;first | omega | (simp_all;done) | (rw [Nat.add_one_sub_one] at *;simp_all))⟩ (show l.length-(k+1)<l.length-k from (by omega)) [(10,aI ((k:Int)+1))] [] ⟨sR,sR,sR,sO,trivial⟩ trivial)
 <| fun q2=>have p2:=decF q2;.r 1<|.f R [] (aB true) (by exact sT ⟨by omega,hH1.2.full (by omega)⟩)) a1 ha1)
theorem Qmj (n:Nod) (ok:OkN n):Qag prog 125 [.agg (nodA n)] (aB (dP (nodP n))):=by
 obtain ⟨on1,on2,on3,on4,on5,on6⟩:=id ok;obtain ⟨on7,on8⟩:=id on1;obtain ⟨on9,on10⟩:=id on2;exact Qac func125 (
 .new fun b1=>.r 1<|.u 4 [b1]<|
 .br 6 (decide (n.ino<1)) (fun q1=>have p1:=decT q1;.r 9<|.r 1<|.f (aB (dP (nodP n))) [] (aB false) (by
  refine sF ?_;rintro ⟨g1,g2,g3,⟨g4,g5,g6⟩ | ⟨g4,g5,g6⟩⟩<;>first | omega | contradiction | exact absurd g6 (Qaa.1 (by assumption)) | exact absurd (g6 ▸ Qb3) (Qaa.1 (by assumption)) | (have h0:n.l.length=0:=(by rw [g6];rfl);omega) | (have h0:n.text.length=0:=(by rw [g5];rfl);omega) | (simp_all [Qaa];done) | (simp_all [Qaa];omega)))
 <| fun q1=>have p1:=decF q1;.u 5 [b1]<|
 .br 11 (decide (n.links<0)) (fun q2=>have p2:=decT q2;.r 4<|.r 1<|.f (aB (dP (nodP n))) [] (aB false) (by
  refine sF ?_;rintro ⟨g1,g2,g3,⟨g4,g5,g6⟩ | ⟨g4,g5,g6⟩⟩<;>first | omega | contradiction | exact absurd g6 (Qaa.1 (by assumption)) | exact absurd (g6 ▸ Qb3) (Qaa.1 (by assumption)) | (have h0:n.l.length=0:=(by rw [g6];rfl);omega) | (have h0:n.text.length=0:=(by rw [g5];rfl);omega) | (simp_all [Qaa];done) | (simp_all [Qaa];omega)))
 <| fun q2=>have p2:=decF q2;.u 4 [b1]<|
 .br 15 (decide (n.links>64)) (fun q3=>have p3:=decT q3;.r 1<|.f (aB (dP (nodP n))) [] (aB false) (by
  refine sF ?_;rintro ⟨g1,g2,g3,⟨g4,g5,g6⟩ | ⟨g4,g5,g6⟩⟩<;>first | omega | contradiction | exact absurd g6 (Qaa.1 (by assumption)) | exact absurd (g6 ▸ Qb3) (Qaa.1 (by assumption)) | (have h0:n.l.length=0:=(by rw [g6];rfl);omega) | (have h0:n.text.length=0:=(by rw [g5];rfl);omega) | (simp_all [Qaa];done) | (simp_all [Qaa];omega)))
 <| fun q3=>have p3:=decF q3;.u 2 [b1]<|
 .r 2<|.br 18 (n.kind==2) (fun q4=>have p4:=beqT q4;.u 4 [b1]<|
 .br 23 (n.text==([])) (fun q5=>have p5:=beqT q5;.u 2 [b1]<|
 .call (Zg9 n.l (by exact ⟨by assumption,by assumption⟩))<|
 .r 2<|.f (aB (dP (nodP n))) [] (aB (dP (rowP n.l))) (by
  refine sE ?_;rw [Qaf];constructor
  ·intro h;refine ⟨by omega,by omega,by omega,?_⟩
   first | exact .inl ⟨by omega,by assumption,by first | exact h | simp_all [Qaf]⟩ | exact .inr ⟨by omega,by omega,W0l (by have:=beqT h;omega)⟩
  ·rintro ⟨g1,g2,g3,⟨g4,g5,g6⟩ | ⟨g4,g5,g6⟩⟩<;>first | exact g6 | omega | (rw [g6];rfl) | (simp [g6];done)))
 <| fun q5=>have p5:=beqF q5;.r 5<|.f (aB (dP (nodP n))) [] (aB false) (by
  refine sF ?_;rintro ⟨g1,g2,g3,⟨g4,g5,g6⟩ | ⟨g4,g5,g6⟩⟩<;>first | omega | contradiction | exact absurd g6 (Qaa.1 (by assumption)) | exact absurd (g6 ▸ Qb3) (Qaa.1 (by assumption)) | (have h0:n.l.length=0:=(by rw [g6];rfl);omega) | (have h0:n.text.length=0:=(by rw [g5];rfl);omega) | (simp_all [Qaa];done) | (simp_all [Qaa];omega)))
 <| fun q4=>have p4:=beqF q4;.r 2<|.br 28 (n.kind==1) (fun q6=>have p6:=beqT q6;.u 5 [b1]<|
 .br 35 (decide (((n.text).length:Int)≤4096)) (fun q7=>have p7:=decT q7;.u 3 [b1]<|
 .lm 38 n.l entA<|.r 3<|.f (aB (dP (nodP n))) [] (aB ((n.l.length:Int)==0)) (by
  refine sE ?_;constructor
  ·intro h;refine ⟨by omega,by omega,by omega,?_⟩
   first | exact .inl ⟨by omega,by assumption,by first | exact h | simp_all [Qaf]⟩ | exact .inr ⟨by omega,by omega,W0l (by have:=beqT h;omega)⟩
  ·rintro ⟨g1,g2,g3,⟨g4,g5,g6⟩ | ⟨g4,g5,g6⟩⟩<;>first | exact g6 | omega | (rw [g6];rfl) | (simp [g6];done)))
 <| fun q7=>have p7:=decF q7;.r 6<|.f (aB (dP (nodP n))) [] (aB false) (by
  refine sF ?_;rintro ⟨g1,g2,g3,⟨g4,g5,g6⟩ | ⟨g4,g5,g6⟩⟩<;>first | omega | contradiction | exact absurd g6 (Qaa.1 (by assumption)) | exact absurd (g6 ▸ Qb3) (Qaa.1 (by assumption)) | (have h0:n.l.length=0:=(by rw [g6];rfl);omega) | (have h0:n.text.length=0:=(by rw [g5];rfl);omega) | (simp_all [Qaa];done) | (simp_all [Qaa];omega)))
 <| fun q6=>have p6:=beqF q6;.r 2<|.br 28 (n.kind==3) (fun q8=>have p8:=beqT q8;.u 5 [b1]<|
 .br 35 (decide (((n.text).length:Int)≤4096)) (fun q9=>have p9:=decT q9;.u 3 [b1]<|
 .lm 38 n.l entA<|.r 3<|.f (aB (dP (nodP n))) [] (aB ((n.l.length:Int)==0)) (by
  refine sE ?_;constructor
  ·intro h;refine ⟨by omega,by omega,by omega,?_⟩
   first | exact .inl ⟨by omega,by assumption,by first | exact h | simp_all [Qaf]⟩ | exact .inr ⟨by omega,by omega,W0l (by have:=beqT h;omega)⟩
  ·rintro ⟨g1,g2,g3,⟨g4,g5,g6⟩ | ⟨g4,g5,g6⟩⟩<;>first | exact g6 | omega | (rw [g6];rfl) | (simp [g6];done)))
 <| fun q9=>have p9:=decF q9;.r 6<|.f (aB (dP (nodP n))) [] (aB false) (by
  refine sF ?_;rintro ⟨g1,g2,g3,⟨g4,g5,g6⟩ | ⟨g4,g5,g6⟩⟩<;>first | omega | contradiction | exact absurd g6 (Qaa.1 (by assumption)) | exact absurd (g6 ▸ Qb3) (Qaa.1 (by assumption)) | (have h0:n.l.length=0:=(by rw [g6];rfl);omega) | (have h0:n.text.length=0:=(by rw [g5];rfl);omega) | (simp_all [Qaa];done) | (simp_all [Qaa];omega)))
 <| fun q8=>have p8:=beqF q8;.r 1<|.f (aB (dP (nodP n))) [] (aB false) (by
  refine sF ?_;rintro ⟨g1,g2,g3,⟨g4,g5,g6⟩ | ⟨g4,g5,g6⟩⟩<;>first | omega | contradiction | exact absurd g6 (Qaa.1 (by assumption)) | exact absurd (g6 ▸ Qb3) (Qaa.1 (by assumption)) | (have h0:n.l.length=0:=(by rw [g6];rfl);omega) | (have h0:n.text.length=0:=(by rw [g5];rfl);omega) | (simp_all [Qaa];done) | (simp_all [Qaa];omega)))
theorem Qko (n:Nod) (ok:OkN n):Qag prog 122 [.agg (nodA n)] (aB (dP (nodP n))):=by
 obtain ⟨on1,on2,on3,on4,on5,on6⟩:=id ok;obtain ⟨on7,on8⟩:=id on1;obtain ⟨on9,on10⟩:=id on2;exact Qac func122 (
 .new fun b1=>.r 1<|.u 4 [b1]<|
 .br 7 (decide (n.ino<1)) (fun q1=>have p1:=decT q1;.r 25<|.r 1<|.f (aB (dP (nodP n))) [] (aB false) (by
  refine sF ?_;rintro ⟨g1,g2,g3,⟨g4,g5,g6⟩ | ⟨g4,g5,g6⟩⟩<;>first | omega | contradiction | exact absurd g6 (Qaa.1 (by assumption)) | exact absurd (g6 ▸ Qb3) (Qaa.1 (by assumption)) | (have h0:n.l.length=0:=(by rw [g6];rfl);omega) | (have h0:n.text.length=0:=(by rw [g5];rfl);omega) | (simp_all [Qaa];done) | (simp_all [Qaa];omega)))
 <| fun q1=>have p1:=decF q1;.u 5 [b1]<|
 .br 12 (decide (n.kind<1)) (fun q2=>have p2:=decT q2;.r 20<|.r 1<|.f (aB (dP (nodP n))) [] (aB false) (by
  refine sF ?_;rintro ⟨g1,g2,g3,⟨g4,g5,g6⟩ | ⟨g4,g5,g6⟩⟩<;>first | omega | contradiction | exact absurd g6 (Qaa.1 (by assumption)) | exact absurd (g6 ▸ Qb3) (Qaa.1 (by assumption)) | (have h0:n.l.length=0:=(by rw [g6];rfl);omega) | (have h0:n.text.length=0:=(by rw [g5];rfl);omega) | (simp_all [Qaa];done) | (simp_all [Qaa];omega)))
 <| fun q2=>have p2:=decF q2;.u 5 [b1]<|
 .br 17 (decide (n.kind>3)) (fun q3=>have p3:=decT q3;.r 15<|.r 1<|.f (aB (dP (nodP n))) [] (aB false) (by
  refine sF ?_;rintro ⟨g1,g2,g3,⟨g4,g5,g6⟩ | ⟨g4,g5,g6⟩⟩<;>first | omega | contradiction | exact absurd g6 (Qaa.1 (by assumption)) | exact absurd (g6 ▸ Qb3) (Qaa.1 (by assumption)) | (have h0:n.l.length=0:=(by rw [g6];rfl);omega) | (have h0:n.text.length=0:=(by rw [g5];rfl);omega) | (simp_all [Qaa];done) | (simp_all [Qaa];omega)))
 <| fun q3=>have p3:=decF q3;.u 5 [b1]<|
 .br 22 (decide (n.links<0)) (fun q4=>have p4:=decT q4;.r 10<|.r 1<|.f (aB (dP (nodP n))) [] (aB false) (by
  refine sF ?_;rintro ⟨g1,g2,g3,⟨g4,g5,g6⟩ | ⟨g4,g5,g6⟩⟩<;>first | omega | contradiction | exact absurd g6 (Qaa.1 (by assumption)) | exact absurd (g6 ▸ Qb3) (Qaa.1 (by assumption)) | (have h0:n.l.length=0:=(by rw [g6];rfl);omega) | (have h0:n.text.length=0:=(by rw [g5];rfl);omega) | (simp_all [Qaa];done) | (simp_all [Qaa];omega)))
 <| fun q4=>have p4:=decF q4;.u 5 [b1]<|
 .br 27 (decide (n.links>64)) (fun q5=>have p5:=decT q5;.r 5<|.r 1<|.f (aB (dP (nodP n))) [] (aB false) (by
  refine sF ?_;rintro ⟨g1,g2,g3,⟨g4,g5,g6⟩ | ⟨g4,g5,g6⟩⟩<;>first | omega | contradiction | exact absurd g6 (Qaa.1 (by assumption)) | exact absurd (g6 ▸ Qb3) (Qaa.1 (by assumption)) | (have h0:n.l.length=0:=(by rw [g6];rfl);omega) | (have h0:n.text.length=0:=(by rw [g5];rfl);omega) | (simp_all [Qaa];done) | (simp_all [Qaa];omega)))
 <| fun q5=>have p5:=decF q5;.u 5 [b1]<|
 .br 32 (decide (((n.text).length:Int)>4096)) (fun q6=>have p6:=decT q6;.r 1<|.f (aB (dP (nodP n))) [] (aB false) (by
  refine sF ?_;rintro ⟨g1,g2,g3,⟨g4,g5,g6⟩ | ⟨g4,g5,g6⟩⟩<;>first | omega | contradiction | exact absurd g6 (Qaa.1 (by assumption)) | exact absurd (g6 ▸ Qb3) (Qaa.1 (by assumption)) | (have h0:n.l.length=0:=(by rw [g6];rfl);omega) | (have h0:n.text.length=0:=(by rw [g5];rfl);omega) | (simp_all [Qaa];done) | (simp_all [Qaa];omega)))
 <| fun q6=>have p6:=decF q6;.u 2 [b1]<|
 .call (Zbo n.l (by exact ⟨by assumption,by assumption⟩))<|
 .r 1<|.r 2<|.br 37 (dP (rowP n.l)) (fun q7=>have p7:=booT q7;.u 4 [b1]<|
 .br 41 (n.kind != 2) (fun q8=>have p8:=bneT q8;.u 10 [b1]<|
 .br 51 (n.kind==2) (fun q9=>have p9:=beqT q9;.r 7<|.f (aB (dP (nodP n))) [] (aB true) (by
  refine sT ⟨by omega,by omega,by omega,?_⟩
  first | exact .inl ⟨by omega,by assumption,by simp_all [Qaf]⟩ | exact .inr ⟨by omega,by omega,W0l (by omega)⟩))
 <| fun q9=>have p9:=beqF q9;.u 3 [b1]<|
 .lm 54 n.l entA<|.r 4<|.f (aB (dP (nodP n))) [] (aB ((n.l.length:Int)==0)) (by
  refine sE ?_;constructor
  ·intro h;refine ⟨by omega,by omega,by omega,?_⟩
   first | exact .inl ⟨by omega,by assumption,by first | exact h | simp_all [Qaf]⟩ | exact .inr ⟨by omega,by omega,W0l (by have:=beqT h;omega)⟩
  ·rintro ⟨g1,g2,g3,⟨g4,g5,g6⟩ | ⟨g4,g5,g6⟩⟩<;>first | exact g6 | omega | (rw [g6];rfl) | (simp [g6];done)))
 <| fun q8=>have p8:=bneF q8;.u 6 [b1]<|
 .br 47 (n.text==([])) (fun q10=>have p10:=beqT q10;.u 4 [b1]<|
 .br 51 (n.kind==2) (fun q11=>have p11:=beqT q11;.r 7<|.f (aB (dP (nodP n))) [] (aB true) (by
  refine sT ⟨by omega,by omega,by omega,?_⟩
  first | exact .inl ⟨by omega,by assumption,by simp_all [Qaf]⟩ | exact .inr ⟨by omega,by omega,W0l (by omega)⟩))
 <| fun q11=>have p11:=beqF q11;.u 3 [b1]<|
 .lm 54 n.l entA<|.r 4<|.f (aB (dP (nodP n))) [] (aB ((n.l.length:Int)==0)) (by
  refine sE ?_;constructor
  ·intro h;refine ⟨by omega,by omega,by omega,?_⟩
   first | exact .inl ⟨by omega,by assumption,by first | exact h | simp_all [Qaf]⟩ | exact .inr ⟨by omega,by omega,W0l (by have:=beqT h;omega)⟩
  ·rintro ⟨g1,g2,g3,⟨g4,g5,g6⟩ | ⟨g4,g5,g6⟩⟩<;>first | exact g6 | omega | (rw [g6];rfl) | (simp [g6];done)))
 <| fun q10=>have p10:=beqF q10;.r 11<|.f (aB (dP (nodP n))) [] (aB false) (by
  refine sF ?_;rintro ⟨g1,g2,g3,⟨g4,g5,g6⟩ | ⟨g4,g5,g6⟩⟩<;>first | omega | contradiction | exact absurd g6 (Qaa.1 (by assumption)) | exact absurd (g6 ▸ Qb3) (Qaa.1 (by assumption)) | (have h0:n.l.length=0:=(by rw [g6];rfl);omega) | (have h0:n.text.length=0:=(by rw [g5];rfl);omega) | (simp_all [Qaa];done) | (simp_all [Qaa];omega)))
 <| fun q7=>have p7:=booF q7;.r 21<|.f (aB (dP (nodP n))) [] (aB false) (by
  refine sF ?_;rintro ⟨g1,g2,g3,⟨g4,g5,g6⟩ | ⟨g4,g5,g6⟩⟩<;>first | omega | contradiction | exact absurd g6 (Qaa.1 (by assumption)) | exact absurd (g6 ▸ Qb3) (Qaa.1 (by assumption)) | (have h0:n.l.length=0:=(by rw [g6];rfl);omega) | (have h0:n.text.length=0:=(by rw [g5];rfl);omega) | (simp_all [Qaa];done) | (simp_all [Qaa];omega)))
theorem Zg7 (t e:TypeId) (ht:prog.underlying t=some (.array 3 e)) (he:prog.underlying e=some (.int .i64)) (hs:∀ w,(Go.sizeOf e).run prog w=.ok 1 w) (a b c x y z:Int) (w:World) :
  (Op.equalIn 10000 t (.agg #[.int .i64 a,.int .i64 b,.int .i64 c]) (.agg #[.int .i64 x,.int .i64 y,.int .i64 z])).run prog w=.ok (a==x&&b==y&&c==z) w:=by
 show (Op.equalIn (9999+1) _ _ _).run _ _=_;have p0:∀ (u0 u1 u2:Value) w,(part e #[u0,u1,u2] 0).run prog w=.ok u0 w:=fun _ _ _ _=>by simp [go_sem,part,hs,isAgg,run_underlying he]
 have p1:∀ (u0 u1 u2:Value) w,(part e #[u0,u1,u2] 1).run prog w=.ok u1 w:=fun _ _ _ _=>by simp [go_sem,part,hs,isAgg,run_underlying he]
 have p2:∀ (u0 u1 u2:Value) w,(part e #[u0,u1,u2] 2).run prog w=.ok u2 w:=fun _ _ _ _=>by simp [go_sem,part,hs,isAgg,run_underlying he]
 have q:∀ a b w,(Op.equalIn 9999 e (.int .i64 a) (.int .i64 b)).run prog w=.ok (a==b) w:=fun a b w=>run_equalIn_int w 9998 e .i64 .i64 a b he;rw [Op.equalIn];simp only [Sem.run_bind,run_underlying ht,Result.andThen_ok,hs,Std.Legacy.Range.forIn_eq_forIn_range',Std.Legacy.Range.size,List.range',List.forIn_cons,List.forIn_nil];cases h1:(a==x)<;>cases h2:(b==y)<;>cases h3:(c==z)<;>simp [Sem.run_bind,Result.andThen,p0,p1,p2,q,h1,h2,h3]
theorem eqInt3 (t:TypeId) (a b c x y z:Int) (hg:prog.eqGuardType prog.depth t=false) (hr:∀ w,(Op.equalIn 10000 t (.agg #[.int .i64 a,.int .i64 b,.int .i64 c]) (.agg #[.int .i64 x,.int .i64 y,.int .i64 z])).run prog w=.ok (a==x&&b==y&&c==z) w)
  (D:Nat→Prop) (w:World) (xo yo:Operand) (u v:Value) (hu:Ra D w (.agg [aI a,aI b,aI c]) u) (hv:Ra D w (.agg [aI x,aI y,aI z]) v) :
  ∃ r,((do Go.eqGuard .eql t xo yo u v;Go.binOp .eql t u v):Sem Value).run prog w=.ok r w∧Ra D w (aB (a==x&&b==y&&c==z)) r:=by
 have e1:=Zbx (vs:=[.int .i64 a,.int .i64 b,.int .i64 c]) hu;have e2:=Zbx (vs:=[.int .i64 x,.int .i64 y,.int .i64 z]) hv;subst e1 e2;refine ⟨_,?_,.val _⟩;simp [run_eqGuard_agg _ _ _ _ _ _ _ hg,run_eql_struct,hr]
theorem Zko {x y:Ent} (h1:x.name=y.name) (h2:x.ino=y.ino):x=y:=by cases x;cases y;simp_all
theorem Zip (a b:List Ent) (ha:a.length≤8796093022207) (hb:b.length≤8796093022207):Qag prog 134 [.sl 2 false (a.map entA),.sl 2 false (b.map entA)] (aB (dP (a=b))):=by
 exact Qac func134 (let R:AV:=aB (dP (a=b));
 .r 1<|.r 2<|.lm 7 a entA<|.r 2<|.lm 9 b entA<|.r 1<|.bn 10 (a.length:Int) (b.length:Int) (fun p1=>.r 1<|.f (aB (dP (a=b))) [] (aB false) (by exact sF (fun h=>by have:=W1y List.length h;omega)))
 <| fun p1=>.r 2<|.lm 12 a entA<|.r 1<|let L1:Lp (Nat):=⟨fun a1=>⟨[(0,.sl 2 false (a.map entA)),(1,.sl 2 false (b.map entA)),(12,aI (a.length:Int)),(13,aI (a1:Int))],[]⟩,fun a1=>a.length-a1,fun a1=>a1≤a.length∧a.take a1=b.take a1⟩
 .lp L1 0 ⟨W0j _,rfl⟩ [(13,aI 0)] [] ⟨sR,sR,sR,sO,trivial⟩ trivial fun a1 ha1=>
 (fun (k:Nat) (hH1:k≤a.length∧a.take k=b.take k)=>.r 1<|.bd 14 ((k:Int)<(a.length:Int)) (fun p2=>.r 2<|.ord [0,1,2,3,4,5,6,7,8]<|.r 2<|.idxM a entA k (m:=(k:Int)) rfl (by omega) fun x1 hx1=>
 .r 3<|.idxM b entA k (m:=(k:Int)) rfl (by omega) fun x2 hx2=>
 .r 1<|.eqS<|.nbb 24 ((x1.name==x2.name)&&((x1.ino==x2.ino)&&(true))) (fun p3=>.r 1<|.f R [] (aB false) (by
  refine sF (fun h=>?_);rw [h,hx2] at hx1;obtain rfl:=W0c hx1;simp_all))
 <| fun p3=>.run 2 [rng .i64 ((k:Int)+1)] ⟨Qal,trivial⟩<|
 .bk L1 k (k+1) ⟨by omega,by rw [Qaq hx1,Qaq hx2,hH1.2];congr 2;exact Zko (by simp_all) (by simp_all)⟩ (show a.length-(k+1)<a.length-k from (by omega)) [(13,aI ((k:Int)+1))] [] ⟨sR,sR,sR,sO,trivial⟩ trivial)
 <| fun p2=>.r 1<|.f R [] (aB true) (by
  refine sT ?_;have h:=hH1.2;rw [Qap (by omega),Qap (by omega)] at h;exact h)) a1 ha1)
theorem Zbv (a b:List Ent) (ha:a.length≤8796093022207) (hb:b.length≤8796093022207):Qag prog 121 [.sl 2 false (a.map entA),.sl 2 false (b.map entA)] (aB (dP (a=b))):=by
 exact Qac func121 (let R:AV:=aB (dP (a=b));
 .r 1<|.r 2<|.lm 7 a entA<|.r 2<|.lm 9 b entA<|.r 1<|.bn 10 (a.length:Int) (b.length:Int) (fun p1=>.r 1<|.f (aB (dP (a=b))) [] (aB false) (by exact sF (fun h=>by have:=W1y List.length h;omega)))
 <| fun p1=>.r 1<|let L1:Lp (Nat):=⟨fun a1=>⟨[(0,.sl 2 false (a.map entA)),(1,.sl 2 false (b.map entA)),(5,aI (a1:Int))],[]⟩,fun a1=>a.length-a1,fun a1=>a1≤a.length∧a.take a1=b.take a1⟩
 .lp L1 0 ⟨W0j _,rfl⟩ [(5,aI 0)] [] ⟨sR,sR,sO,trivial⟩ trivial fun a1 ha1=>
 (fun (k:Nat) (hH1:k≤a.length∧a.take k=b.take k)=>.r 3<|.lm 13 a entA<|.r 1<|.bd 14 ((k:Int)<(a.length:Int)) (fun p2=>.ord [0,1,2,3,4,5,6,7,8]<|.r 2<|.idxM a entA k (m:=(k:Int)) rfl (by omega) fun x1 hx1=>
 .r 3<|.idxM b entA k (m:=(k:Int)) rfl (by omega) fun x2 hx2=>
 .r 1<|.eqS<|.nbb 25 ((x1.name==x2.name)&&((x1.ino==x2.ino)&&(true))) (fun p3=>.r 1<|.f R [] (aB false) (by
  refine sF (fun h=>?_);rw [h,hx2] at hx1;obtain rfl:=W0c hx1;simp_all))
 <| fun p3=>.run 3 [rng .i64 ((k:Int)+1)] ⟨Qal,trivial⟩<|
 .bk L1 k (k+1) ⟨by omega,by rw [Qaq hx1,Qaq hx2,hH1.2];congr 2;exact Zko (by simp_all) (by simp_all)⟩ (show a.length-(k+1)<a.length-k from (by omega)) [(5,aI ((k:Int)+1))] [] ⟨sR,sR,sO,trivial⟩ trivial)
 <| fun p2=>.r 1<|.f R [] (aB true) (by
  refine sT ?_;have h:=hH1.2;rw [Qap (by omega),Qap (by omega)] at h;exact h)) a1 ha1)
theorem Qr6 (n:Nod):Qag prog 133 [.agg (nodA n)] (.agg [aI n.ino,aI n.kind,aI n.links]):=by
 exact Qac func133 (let R:AV:=.agg [aI n.ino,aI n.kind,aI n.links];
 .new fun b1=>.new fun b2=>.u 8 [b1,b1,b1,b2]<|
 .fi R [b2])
theorem Zj6 {x y:Nod} (h1:x.ino=y.ino) (h2:x.kind=y.kind) (h3:x.links=y.links) (h4:x.text=y.text) (h5:x.l=y.l):x=y:=by cases x;cases y;simp_all
theorem Qok (a b:Nod) (oka:OkN a) (okb:OkN b):Qag prog 99 [.agg (nodA a),.agg (nodA b)] (aB (dP (a=b))):=by
 have ha:=oka.2.2.2.2.1;have hb:=okb.2.2.2.2.1;exact Qac func99 (let R:AV:=aB (dP (a=b));
 .new fun b1=>.new fun b2=>.r 1<|.r 1<|.ord [0,1,3,4,2,5,6,7,8,9,10,11,12,13,14,15,16,17,18,19,20,21]<|.u 4 [b1,b2]<|
 .call (Qr6 a)<|
 .call (Qr6 b)<|
 .binV .eql 191 (eqInt3 191 a.ino a.kind a.links b.ino b.kind b.links (by kernel_rfl) (Zg7 191 3 (by kernel_rfl) (by kernel_rfl) (fun _=>by kernel_rfl) a.ino a.kind a.links b.ino b.kind b.links))<|
 .r 1<|.br 13 (a.ino==b.ino&&a.kind==b.kind&&a.links==b.links) (fun q1=>have p1:=booT q1;.u 7 [b1,b2]<|
 .br 20 (a.text==b.text) (fun q2=>have p2:=beqT q2;.u 4 [b1,b2]<|
 .call (Zip a.l b.l (by assumption) (by assumption))<|
 .r 2<|.f R [] (aB (dP (a.l=b.l))) (by
  refine sE ?_;constructor
  ·intro h;simp only [W0r,beq_iff_eq,Qaf] at *;refine Zj6 ?_ ?_ ?_ ?_ ?_<;>simp_all
  ·intro h;subst h;simp_all [Qaf]))
 <| fun q2=>have p2:=beqF q2;.r 7<|.f R [] (aB false) (by
  refine sF (fun h=>?_);subst h;simp_all [Qaa]))
 <| fun q1=>have p1:=booF q1;.r 14<|.f R [] (aB false) (by
  refine sF (fun h=>?_);subst h;simp_all [Qaa]))
theorem Qfu (a b:Nod) (oka:OkN a) (okb:OkN b):Qag prog 63 [.agg (nodA a),.agg (nodA b)] (aB (dP (a=b))):=by
 have ha:=oka.2.2.2.2.1;have hb:=okb.2.2.2.2.1;exact Qac func63 (let R:AV:=aB (dP (a=b));
 .new fun b1=>.new fun b2=>.r 1<|.u 4 [b1,b2]<|
 .call (Zbv a.l b.l (by assumption) (by assumption))<|
 .r 1<|.r 2<|.bb 12 (dP (a.l=b.l)) (fun p1=>.u 7 [b1,b2]<|
 .be 19 a.ino b.ino (fun p2=>.u 7 [b1,b2]<|
 .be 26 a.kind b.kind (fun p3=>.u 7 [b1,b2]<|
 .be 33 a.links b.links (fun p4=>.u 7 [b1,b2]<|
 .f R [] (aB (a.text==b.text)) (by
  refine sE ?_;constructor
  ·intro h;simp only [W0r,beq_iff_eq,Qaf] at *;refine Zj6 ?_ ?_ ?_ ?_ ?_<;>simp_all
  ·intro h;subst h;simp_all [Qaf]))
 <| fun p4=>.r 7<|.f R [] (aB false) (by
  refine sF (fun h=>?_);subst h;simp_all [Qaa]))
 <| fun p3=>.r 14<|.f R [] (aB false) (by
  refine sF (fun h=>?_);subst h;simp_all [Qaa]))
 <| fun p2=>.r 21<|.f R [] (aB false) (by
  refine sF (fun h=>?_);subst h;simp_all [Qaa]))
 <| fun p1=>.r 28<|.f R [] (aB false) (by
  refine sF (fun h=>?_);subst h;simp_all [Qaa]))
end Go.Proofs.YtkhodpknpligpaaGreat

namespace Go.Proofs.YtkhodpknpligpaaGreat
open Go Go.RowKit Copyhold Go.Proofs.Tryz
section
variable {α:Type}
def Qd6 (f:α→Int) (l:List α) (n:Int):Nat:=(l.takeWhile fun c=>decide (f c<n)).length
def Qlx (f:α→Int) (l:List α) (n:Int):Bool:=match l[Qd6 f l n]? with | some c=>f c==n | none=>false
def Qtm (f:α→Int) (l:List α):Prop:=l.Pairwise fun c d=>f c<f d
theorem Zb1 (f:α→Int) (l:List α) (n:Int):Qd6 f l n≤l.length:=by
 have h:=W1y List.length (List.takeWhile_append_dropWhile (p:=fun c=>decide (f c<n)) (l:=l));rw [W0e] at h;unfold Qd6;omega
theorem Qr1 {f:α→Int} {n:Int}:∀ {l:List α} {k:Nat},k≤l.length→Qaz (fun _ c=>f c<n) l k→(∀ x,l[k]?=some x→¬ f x<n)→Qd6 f l n=k
 | [],k,hk,_,_=>by simp at hk;subst hk;rfl
 | x :: r,0,_,_,he=>by
  have:=he x rfl;unfold Qd6;simp [this]
 | x :: r,k+1,hk,h,he=>by
  have h1:=h 0 x (by omega) rfl;have h2:=Qr1 (l:=r) (k:=k) (by simpa using hk) (fun j e hj he=>h (j+1) e (by omega) (by simpa using he)) (fun y hy=>he y (by simpa using hy));unfold Qd6 at h2 ⊢;simp [h1,h2]
theorem Qlw {f:α→Int} {n:Int} {l:List α} {k:Nat} {x:α} (h:Qd6 f l n=k) (hx:l[k]?=some x):Qlx f l n=(f x==n):=by
 unfold Qlx;rw [h,hx]
theorem Qyh {f:α→Int} {n:Int} {l:List α} (h:Qd6 f l n=l.length):Qlx f l n=false:=by
 unfold Qlx;rw [h,W1h (W0m _)]
theorem Qfq {f:α→Int} {l:List α} {n:Int} (h:Qlx f l n=true):∃ c,l[Qd6 f l n]?=some c∧f c=n:=by
 unfold Qlx at h
 split at h
 ·rename_i c hc;exact ⟨c,hc,by simpa using h⟩
 ·cases h
theorem Qtm.le {f:α→Int} {l:List α} (h:Qtm f l) {i j:Nat} {c d:α} (hc:l[i]?=some c) (hd:l[j]?=some d) (hij:i≤j):f c≤f d:=by
 rcases Nat.lt_or_ge i j with hlt | hge
 ·have h3:=W1c.1 h;have l1:=Qan hc;have l2:=Qan hd;have:=h3 i j l1 l2 hlt;have e1:l[i]=c:=W0c ((W0d l1).symm.trans hc);have e2:l[j]=d:=W0c ((W0d l2).symm.trans hd);rw [e1,e2] at this;omega
 ·obtain rfl:i=j:=by omega
  rw [hc] at hd;obtain rfl:=W0c hd;exact W1q _
theorem Qtm.cut {f:α→Int} {l:List α} (h:Qtm f l) (n:Int):(∀ c∈l.take (Qd6 f l n),f c<n)∧∀ c∈l.drop (Qd6 f l n),¬ f c<n:=by
 induction l with
 | nil=>exact ⟨fun c hc=>by simp at hc,fun c hc=>by simp at hc⟩
 | cons x r ih=>
  obtain ⟨h1,h2⟩:=W1k.1 h;by_cases hx:f x<n
  ·have e:Qd6 f (x :: r) n=Qd6 f r n+1:=by unfold Qd6;simp [hx]
   rw [e];refine ⟨fun c hc=>?_,fun c hc=>(ih h2).2 c (by simpa using hc)⟩;rcases W0y.1 (by simpa using hc) with rfl | hc
   ·exact hx
   ·exact (ih h2).1 c hc
  ·have e:Qd6 f (x :: r) n=0:=by unfold Qd6;simp [hx]
   rw [e];refine ⟨fun c hc=>by simp at hc,fun c hc=>?_⟩;rcases W0y.1 (by simpa using hc) with rfl | hc
   ·exact hx
   ·have:=h1 c hc;omega
end
def cmpD (a b:Int):Int:=if a<b then -1 else if a>b then 1 else 0
theorem Zkv {a b:Int}:decide (cmpD a b<0)=decide (a<b):=by
 unfold cmpD;split
 ·simp [*]
 ·split<;>simp [*]
theorem cmp_eq {a b:Int}:(cmpD a b==0)=(a==b):=by
 unfold cmpD;split
 ·have:¬ a=b:=by omega
  simp [this]
 ·split
  ·have:¬ a=b:=by omega
   simp [this]
  ·have:a=b:=by omega
   simp [this]
theorem cmp1 {a b:Int} (h:a<b):cmpD a b = -1:=W1x h
theorem cmp2 {a b:Int} (h:¬ a<b) (h2:a>b):cmpD a b=1:=by unfold cmpD;rw [W1w h,W1x h2]
theorem cmp3 {a b:Int} (h:¬ a<b) (h2:¬ a>b):cmpD a b=0:=by unfold cmpD;rw [W1w h,W1w h2]
def nod0:Nod:=⟨0,0,0,[],[]⟩
theorem Qj1:OkN nod0:=⟨⟨by decide,by decide⟩,⟨by decide,by decide⟩,⟨by decide,by decide⟩,by show (0:Nat)≤_;omega,by show (0:Nat)≤_;omega,fun e h=>by cases h⟩
def isNo (i:Int) (n:Nod):Bool:=n.ino==i
def Qav (f:Fsy) (i:Int):Bool:=f.l.any (isNo i)
def Qab (f:Fsy) (i:Int):Nod:=(f.l.find? (isNo i)).getD nod0
theorem Qf0 {f:Fsy} (ok:OkF f) (i:Int):OkN (Qab f i):=by
 unfold Qab;cases h:f.l.find? (isNo i) with
 | none=>exact Qj1
 | some n=>exact ok.2.2 n (W1n h)
theorem Quz {i:Int}:∀ {l:List Nod} {k:Nat} {x:Nod},Qaz (fun _ n=>isNo i n=false) l k→l[k]?=some x→isNo i x=true→l.any (isNo i)=true∧l.find? (isNo i)=some x
 | y :: r,0,x,_,hx,hp=>by simp at hx;subst hx;simp [hp]
 | y :: r,k+1,x,h,hx,hp=>by
  have h1:=h 0 y (by omega) rfl;obtain ⟨h2,h3⟩:=Quz (l:=r) (k:=k) (fun j e hj he=>h (j+1) e (by omega) (by simpa using he)) (by simpa using hx) hp;simp [h1,h2,h3]
theorem Zd7 {i:Int} {l:List Nod} (h:AllQ (fun _ n=>isNo i n=false) l):l.any (isNo i)=false∧l.find? (isNo i)=none:=by
 have h0:∀ x∈l,isNo i x=false:=fun x hx=>by obtain ⟨j,hj⟩:=W0w hx;exact h j x hj
 constructor
 ·rw [W2c];intro x hx;simp [h0 x hx]
 ·rw [W10];intro x hx;simp [h0 x hx]
abbrev plN (l:List Nod) (n:Int):Nat:=Qd6 Nod.ino l n
abbrev thN (l:List Nod) (n:Int):Bool:=Qlx Nod.ino l n
abbrev Qbm (l:List Nod):Prop:=Qtm Nod.ino l
theorem Qo0 {l:List Nod} {i:Int} (hr:Qbm l) {x:Nod} (h:thN l i=true) (hx:l[plN l i]?=some x):l.any (isNo i)=true∧l.find? (isNo i)=some x:=by
 refine Quz (k:=plN l i) (fun j e hj he=>?_) hx ?_
 ·have:=(hr.cut i).1 e (W0h (i:=j) (by rw [W1b,W1x hj];exact he));have hne:¬ e.ino=i:=by omega
  simp [isNo,hne]
 ·have h2:(x.ino==i)=true:=(Qlw rfl hx).symm.trans h;exact h2
theorem Qnc {l:List Nod} {i:Int} (hr:Qbm l) (h:thN l i=false):l.any (isNo i)=false∧l.find? (isNo i)=none:=by
 refine Zd7 fun j e he=>?_;have hne:¬ e.ino=i:=fun hi=>by
  have hc:=hr.cut i;by_cases hj:j<plN l i
  ·have:=hc.1 e (W0h (i:=j) (by rw [W1b,W1x hj];exact he));omega
  ·obtain ⟨y,hy⟩:=Qdk (l:=l) (k:=plN l i) (by have:=Qan he;omega)
   replace h:(y.ino==i)=false:=(Qlw rfl hy).symm.trans h
   have h2:=hr.le hy he (by omega);have h3:=hc.2 y (W0h (i:=0) (by rw [W07,Nat.add_zero];exact hy));have:¬ y.ino=i:=by simpa using h
   omega
 simp [isNo,hne]
theorem Zil {f:Fsy} {i:Int} (hr:Qbm f.l):Qav f i=thN f.l i:=by
 cases h:thN f.l i with
 | false=>exact (Qnc hr h).1
 | true=>
  obtain ⟨c,hc,_⟩:=Qfq h;exact (Qo0 hr h hc).1
def Zln (f:Fsy) (i:Nat) (n:Nod):Prop:=nodP n∧n.ino<f.next∧∀ d,0<i→f.l[i-1]?=some d→d.ino<n.ino
def Qat (f:Fsy):Prop:=f.l.length≤256∧1≤f.next∧AllQ (Zln f) f.l
theorem Qbe {f:Fsy}:Qat f↔f.l.length≤256∧1≤f.next∧(∀ n∈f.l,nodP n∧n.ino<f.next)∧Qbm f.l:=by
 constructor
 ·rintro ⟨h1,h2,h3⟩;refine ⟨h1,h2,fun n hn=>?_,?_⟩
  ·obtain ⟨k,hk⟩:=W0w hn;exact ⟨(h3.at hk).1,(h3.at hk).2.1⟩
  ·have key:∀ (i j:Nat) (c d:Nod),i<j→f.l[i]?=some c→f.l[j]?=some d→c.ino<d.ino:=by
    intro i j
    induction j with
    | zero=>intro c d h;omega
    | succ j ih=>
     intro c d hij hc hd;obtain ⟨e,he⟩:=Qdk (l:=f.l) (k:=j) (by have:=Qan hd;omega);have h1:=(h3.at hd).2.2 e (by omega) (by simpa using he);rcases Nat.lt_or_ge i j with hij' | hij'
     ·have:=ih c e hij' hc he;omega
     ·obtain rfl:i=j:=by omega
      rw [hc] at he;obtain rfl:=W0c he;exact h1
   exact W1c.2 fun i j hi hj hij=>key i j _ _ hij (W0d hi) (W0d hj)
 ·rintro ⟨h1,h2,h3,h4⟩;refine ⟨h1,h2,fun i n hn=>⟨(h3 n (W0h hn)).1,(h3 n (W0h hn)).2,fun d h0 hd=>?_⟩⟩;have h5:=W1c.1 h4;have l1:=Qan hd;have l2:=Qan hn;have:=h5 (i-1) i l1 l2 (by omega);have e1:f.l[i-1]=d:=W0c ((W0d l1).symm.trans hd);have e2:f.l[i]=n:=W0c ((W0d l2).symm.trans hn);rw [e1,e2] at this;exact this
theorem Qah {f:Fsy} (h:Qat f):Qbm f.l:=(Qbe.1 h).2.2.2
def putN (l:List Nod) (n:Nod):List Nod:=l.take (plN l n.ino)++n :: l.drop (plN l n.ino+if thN l n.ino then 1 else 0)
def putF (f:Fsy) (n:Nod):Fsy:=⟨putN f.l n,if n.ino+1>f.next then n.ino+1 else f.next⟩
def outN (l:List Nod) (i:Int):List Nod:=if thN l i then l.take (plN l i)++l.drop (plN l i+1) else l
def outF (f:Fsy) (i:Int):Fsy:=⟨outN f.l i,f.next⟩
theorem Zl5:Elem prog 36 85 (.agg #[.int .i64 0,.int .i64 0,.int .i64 0,.string ByteArray.empty,.slice none 0 0]) 5 64:=⟨Tryz.underlying36,by kernel_rfl,by kernel_rfl,by decide⟩
theorem Zdu (n:Nat) (hn:n≤1000000) (w:World) :
  Calls prog 252 #[.slice none 0 0,.int .i64 (n:Int)] w (Qpe w 85 5 0 []):=by
 by_cases h0:0<n
 ·obtain ⟨G,w',hrun,hG1,hG2,hown,hb⟩:=Qge Zl5 Tryz.underlying3 n h0 (by omega) (by omega) w;have HO:=Lib.hid (And.intro hown hb);have hi0:(0:Int)<(n:Int):=by omega
  clear hown hb
  go_enter func252,Tryz.ntmps252
  go_wp2_with (at_builtin;refine Qb7 rfl _ _ _ _ rfl _ _ _ _ rfl rfl (hrun _) ?_)
  go_ret
  exact ⟨_,rfl,HO.out.1,HO.out.2⟩
 ·obtain rfl:n=0:=by omega
  go_enter func252,Tryz.ntmps252
  go_wp2_with fail
  go_ret
  exact ⟨_,rfl,World.ownsRow_nil _ _ _ _,Below.refl _ _⟩
def pc5 (p:List (List AV)):List AV:=[.sl 5 false p]
theorem Qf3 (ps:List (List (List AV))) (hl:ps.length≤100000) (ht:ps.flatten.length≤100000):Qag prog 218 [.sl 1 false (ps.map pc5)] (.sl 5 false ps.flatten):=by
 exact Qac func218 (
 .r 1<|.r 1<|.r 2<|.lm 10 ps pc5<|.r 1<|let L1:Lp (Nat):=⟨fun a1=>⟨[(0,.sl 1 false (ps.map pc5)),(9,.sl 1 false (ps.map pc5)),(10,aI (ps.length:Int)),(3,aI ((ps.take a1).flatten.length:Int)),(11,aI (a1:Int))],[]⟩,fun a1=>ps.length-a1,fun a1=>a1≤ps.length⟩
 .lp L1 0 (show 0≤ps.length from W0j _) [(3,aI 0),(11,aI 0)] [] ⟨sR,sR,sR,sO,sO,trivial⟩ trivial fun a1 ha1=>
 (fun (k:Nat) (hH1:k≤ps.length)=>.r 1<|.bd 12 ((k:Int)<(ps.length:Int)) (fun p1=>.idxM ps pc5 k (m:=(k:Int)) rfl (by omega) fun x1 hx1=>
 have tx1:=Qbd ps (k+1);have ux1:=W1y List.length (Qa9 hx1);have vx1:=(@W0e _ (ps.take k).flatten x1);.r 2<|.run 5 [rng .i64 (((ps.take k).flatten.length:Int)+((x1).length:Int))] ⟨Qal,trivial⟩<|
 .r 2<|.bd 20 ((((ps.take k).flatten.length:Int)+((x1).length:Int))<0) (fun p2=>.no (by omega))
 <| fun p2=>.run 2 [rng .i64 ((k:Int)+1)] ⟨Qal,trivial⟩<|
 .bk L1 k (k+1) (show (k+1)≤ps.length from (by show _≤_;omega)) (show ps.length-(k+1)<ps.length-k from (by omega)) [(3,aI (((ps.take k).flatten.length:Int)+((x1).length:Int))),(11,aI ((k:Int)+1))] [] ⟨sR,sR,sR,W2n (W1y aI (by rw [Qa9 hx1,W0e];omega)),sO,trivial⟩ trivial)
 <| fun p1=>.r 1<|.cw (args0:=[aN,aI ((ps.take k).flatten.length:Int)]) (Qgr (fun w=>Zdu ((ps.take k).flatten.length) (by have:=Qbd ps k;omega) w)) sr2 fun V1=>
 .r 1<|.r 2<|.lm 26 ps pc5<|.r 1<|let L2:Lp (Nat × Value):=⟨fun a2=>⟨[(25,.sl 1 false (ps.map pc5)),(26,aI (ps.length:Int)),(27,aI (a2.1:Int)),(6,.rw 24 a2.2 ((ps.take a2.1).flatten.length))],[(24,.row a2.2 85 5 ((ps.take a2.1).flatten))]⟩,fun a2=>ps.length-a2.1,fun a2=>a2.1≤ps.length⟩
 .lp L2 (0,V1) (show 0≤ps.length from W0j _) [(27,aI 0),(6,.rw 24 V1 0)] [(24,.row V1 85 5 ([]))] ⟨sR,sR,sO,W2n (W1y (AV.rw 24 V1) (by simp)),trivial⟩ ⟨⟨_,rfl,W2o (by simp)⟩,trivial⟩ fun a2 ha2=>
 (fun (j:Nat) (V:Value) (hH2:j≤ps.length)=>.r 1<|.bd 28 ((j:Int)<(ps.length:Int)) (fun p3=>.idxM ps pc5 j (m:=(j:Int)) rfl (by omega) fun x2 hx2=>
 have tx2:=Qbd ps (j+1);have ux2:=W1y List.length (Qa9 hx2);have vx2:=(@W0e _ (ps.take j).flatten x2);.r 2<|.r 2<|.app 64 V ((ps.take j).flatten) x2 (by omega) (by omega) fun V2=>
 .r 1<|.run 2 [rng .i64 ((j:Int)+1)] ⟨Qal,trivial⟩<|
 .bk L2 (j,V) ((j+1),V2) (show (j+1)≤ps.length from (by show _≤_;omega)) (show ps.length-(j+1)<ps.length-j from (by omega)) [(27,aI ((j:Int)+1)),(6,.rw 24 V2 (((ps.take j).flatten).length+x2.length))] [(24,.row V2 85 5 (((ps.take j).flatten)++x2))] ⟨sR,sR,sO,W2n (W1y (AV.rw 24 V2) (by rw [Qa9 hx2,W0e])),trivial⟩ ⟨⟨_,rfl,W2o (by rw [Qa9 hx2])⟩,trivial⟩)
 <| fun p3=>.r 2<|.frz 24 [2] [] [V=V,(ps.take j).flatten.length=((ps.take j).flatten).length] ⟨rfl,(by first | rfl | (simp;done) | (simp;omega)),trivial⟩<|
 .f (.sl 5 false ps.flatten) [] (.sl 5 false ((ps.take j).flatten)) (by exact W2n (by rw [Qap (by omega)]))) a2.1 a2.2 ha2) a1 ha1)
theorem Zb4 {t:Bool}:∀ {ps:List (List (List AV))} {qs:List (List AV)},qs.length=ps.length→(∀ (i:Nat) (q:List AV) (p:List (List AV)),qs[i]?=some q→ps[i]?=some p→Qc0 q (pc5 p))→Sub (.sl 1 t qs) (.sl 1 false (ps.map pc5)):=fun {ps qs} hl h=>
 (Sub.sl2 (by rw [hl,W0a]) (fun i a b ha hb=>by
  rw [W0v] at hb;cases hc:ps[i]? with
  | none=>rw [hc] at hb;cases hb
  | some p=>
   rw [hc] at hb;obtain rfl:=W0c hb;exact h i a p ha hc)).trans (W2p _ _ _)
theorem pcs3 {t t1 t2 t3:Bool} (A B C:List (List AV)):Sub (.sl 1 t [[.sl 5 t1 A],[.sl 5 t2 B],[.sl 5 t3 C]]) (.sl 1 false ([A,B,C].map pc5)):=Zb4 rfl fun i q p hq hp=>by
 match i,hq,hp with
 | 0,hq,hp=>simp at hq hp;subst hq hp;exact ⟨W2p _ _ _,trivial⟩
 | 1,hq,hp=>simp at hq hp;subst hq hp;exact ⟨W2p _ _ _,trivial⟩
 | 2,hq,hp=>simp at hq hp;subst hq hp;exact ⟨W2p _ _ _,trivial⟩
 | i+3,hq,_=>simp at hq
theorem pcs2 {t t1 t2:Bool} (A B:List (List AV)):Sub (.sl 1 t [[.sl 5 t1 A],[.sl 5 t2 B]]) (.sl 1 false ([A,B].map pc5)):=Zb4 rfl fun i q p hq hp=>by
 match i,hq,hp with
 | 0,hq,hp=>simp at hq hp;subst hq hp;exact ⟨W2p _ _ _,trivial⟩
 | 1,hq,hp=>simp at hq hp;subst hq hp;exact ⟨W2p _ _ _,trivial⟩
 | i+2,hq,_=>simp at hq
end Go.Proofs.YtkhodpknpligpaaGreat
