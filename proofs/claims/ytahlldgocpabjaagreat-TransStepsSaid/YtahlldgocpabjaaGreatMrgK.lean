import Derived.Test.YtahlldgocpabjaaGreatMrgJ
import Derived.Test.YtahlldgocpabjaaGreatMrgB
set_option maxRecDepth 100000
set_option maxHeartbeats 8000000
set_option linter.unusedVariables false
set_option linter.unusedSimpArgs false
namespace Go.Proofs.YtahlldgocpabjaaGreat
open Go Go.RowKit Copyhold Go.Proofs.Tryz
theorem Qju (s:Txt) (c:UInt8):Qaf prog 220 [aS s,aS [c]] (aB (s.contains c)):=Zdo fun D w vs h=>by
 obtain ⟨u,v,rfl,hu,hv⟩:=h.two;cases hu;cases hv;exact (Qh3 s c w).mono fun e w' ⟨h1,h2⟩=>⟨h1,h2 ▸ Below.refl _ _⟩
def Qnl (s:Txt):Prop:=s ≠ []∧s ≠ [46]∧s ≠ [46,46]∧s.length≤32∧(47:UInt8) ∉ s∧(0:UInt8) ∉ s
noncomputable def Qah (s:Txt):Int:=if dP (Qnl s) then 0 else 10
theorem Qqx {s:Txt} (h:Qnl s):Qah s=0:=by unfold Qah;rw [Qas.2 h];rfl
theorem Qdy {s:Txt} (h:¬ Qnl s):Qah s=10:=by unfold Qah;rw [Qab.2 h];rfl
theorem Qcd {s:Txt}:Qah s=0↔Qnl s:=⟨fun h=>Classical.byContradiction fun hn=>(by rw [Qdy hn] at h;cases h),Qqx⟩
def entP (l:List Ent) (i:Nat) (e:Ent):Prop:=Qnl e.name∧1≤e.ino∧∀ d,0<i→l[i-1]?=some d→Op.bytesLess d.name e.name=true
def rowP (l:List Ent):Prop:=l.length≤256∧AllQ (entP l) l
theorem Qb2:rowP []:=⟨Nat.zero_le _,fun i e h=>by simp at h⟩
def nodP (n:Nod):Prop:=1≤n.ino∧0≤n.links∧n.links≤64∧((n.kind=2∧n.text=[]∧rowP n.l)∨((n.kind=1∨n.kind=3)∧n.text.length≤4096∧n.l=[]))
theorem Qen (s:Txt) (hs:s.length≤140737488351232):Qaf prog 183 [aS s] (aI (Qah s)):=by
 exact Qac func183 (
 .r 1<|.r 3<|.br 3 (s==([])) (fun q1=>have p1:=beqT q1;.r 1<|.f (aI (Qah s)) [] (aI 10) (by exact Sub.of_eq (congrArg aI (Qdy (by rintro ⟨c1,c2,c3,c4,c5,c6⟩;first | contradiction | omega | (simp_all;done) | (simp_all;omega))).symm)))
 <| fun q1=>have p1:=beqF q1;.r 3<|.br 3 (s==([46])) (fun q2=>have p2:=beqT q2;.r 1<|.f (aI (Qah s)) [] (aI 10) (by exact Sub.of_eq (congrArg aI (Qdy (by rintro ⟨c1,c2,c3,c4,c5,c6⟩;first | contradiction | omega | (simp_all;done) | (simp_all;omega))).symm)))
 <| fun q2=>have p2:=beqF q2;.r 3<|.br 3 (s==([46,46])) (fun q3=>have p3:=beqT q3;.r 1<|.f (aI (Qah s)) [] (aI 10) (by exact Sub.of_eq (congrArg aI (Qdy (by rintro ⟨c1,c2,c3,c4,c5,c6⟩;first | contradiction | omega | (simp_all;done) | (simp_all;omega))).symm)))
 <| fun q3=>have p3:=beqF q3;.r 4<|.br 10 (decide (((s).length:Int)>32)) (fun q4=>have p4:=decT q4;.r 1<|.f (aI (Qah s)) [] (aI 10) (by exact Sub.of_eq (congrArg aI (Qdy (by rintro ⟨c1,c2,c3,c4,c5,c6⟩;first | contradiction | omega | (simp_all;done) | (simp_all;omega))).symm)))
 <| fun q4=>have p4:=decF q4;.r 1<|.call (Qju s 47)<|
 .r 1<|.br 10 (s.contains 47) (fun q5=>have p5:=booT q5;.r 1<|.f (aI (Qah s)) [] (aI 10) (by exact Sub.of_eq (congrArg aI (Qdy (by rintro ⟨c1,c2,c3,c4,c5,c6⟩;first | contradiction | omega | (simp_all;done) | (simp_all;omega))).symm)))
 <| fun q5=>have p5:=booF q5;.r 1<|.call (Qju s 0)<|
 .r 1<|.br 10 (s.contains 0) (fun q6=>have p6:=booT q6;.r 1<|.f (aI (Qah s)) [] (aI 10) (by exact Sub.of_eq (congrArg aI (Qdy (by rintro ⟨c1,c2,c3,c4,c5,c6⟩;first | contradiction | omega | (simp_all;done) | (simp_all;omega))).symm)))
 <| fun q6=>have p6:=booF q6;.r 1<|.f (aI (Qah s)) [] (aI 0) (by exact Sub.of_eq (congrArg aI (Qqx (by refine ⟨?_,?_,?_,?_,?_,?_⟩<;>first | assumption | omega | simp_all)).symm)))
def byP (_:Nat) (c:UInt8):Prop:=¬ (c.toNat:Int)=47∧¬ (c.toNat:Int)=0
theorem byP_no {s:Txt} (h:AllQ byP s):(47:UInt8) ∉ s∧(0:UInt8) ∉ s:=
 ⟨fun hm=>by obtain ⟨i,hi⟩:=List.getElem?_of_mem hm;exact (h i _ hi).1 rfl,fun hm=>by obtain ⟨i,hi⟩:=List.getElem?_of_mem hm;exact (h i _ hi).2 rfl⟩
theorem by47 {s:Txt} {c:UInt8} {k:Nat} (hc:s[k]?=some c) (h:(c.toNat:Int)=47):(47:UInt8)∈s:=by
 have:c=47:=UInt8.toNat_inj.1 (by show c.toNat=47;omega);exact this ▸ List.mem_of_getElem? hc
theorem by0 {s:Txt} {c:UInt8} {k:Nat} (hc:s[k]?=some c) (h:(c.toNat:Int)=0):(0:UInt8)∈s:=by
 have:c=0:=UInt8.toNat_inj.1 (by show c.toNat=0;omega);exact this ▸ List.mem_of_getElem? hc
theorem Qdw (s:Txt) (hs:s.length≤140737488351232):Qaf prog 114 [aS s] (aI (Qah s)):=by
 exact Qac func114 (
 .r 1<|.r 4<|.br 7 (decide (((s).length:Int)<1)) (fun q1=>have p1:=decT q1;.r 12<|.r 1<|.f (aI (Qah s)) [] (aI 10) (by exact Sub.of_eq (congrArg aI (Qdy (by rintro ⟨c1,c2,c3,c4,c5,c6⟩;first | contradiction | omega | exact c1 (List.eq_nil_of_length_eq_zero (by omega)) | (simp_all;done) | (simp_all;omega) | (cases s<;>simp_all))).symm)))
 <| fun q1=>have p1:=decF q1;.r 5<|.br 12 (decide (((s).length:Int)>32)) (fun q2=>have p2:=decT q2;.r 7<|.r 1<|.f (aI (Qah s)) [] (aI 10) (by exact Sub.of_eq (congrArg aI (Qdy (by rintro ⟨c1,c2,c3,c4,c5,c6⟩;first | contradiction | omega | exact c1 (List.eq_nil_of_length_eq_zero (by omega)) | (simp_all;done) | (simp_all;omega) | (cases s<;>simp_all))).symm)))
 <| fun q2=>have p2:=decF q2;.r 4<|.br 16 (s==([46])) (fun q3=>have p3:=beqT q3;.r 3<|.r 1<|.f (aI (Qah s)) [] (aI 10) (by exact Sub.of_eq (congrArg aI (Qdy (by rintro ⟨c1,c2,c3,c4,c5,c6⟩;first | contradiction | omega | exact c1 (List.eq_nil_of_length_eq_zero (by omega)) | (simp_all;done) | (simp_all;omega) | (cases s<;>simp_all))).symm)))
 <| fun q3=>have p3:=beqF q3;.r 3<|.br 19 (s==([46,46])) (fun q4=>have p4:=beqT q4;.r 1<|.f (aI (Qah s)) [] (aI 10) (by exact Sub.of_eq (congrArg aI (Qdy (by rintro ⟨c1,c2,c3,c4,c5,c6⟩;first | contradiction | omega | exact c1 (List.eq_nil_of_length_eq_zero (by omega)) | (simp_all;done) | (simp_all;omega) | (cases s<;>simp_all))).symm)))
 <| fun q4=>have p4:=beqF q4;.r 1<|let L1:Lp (Nat):=⟨fun a1=>⟨[(0,aS s),(3,aI (a1:Int))],[]⟩,fun a1=>s.length-a1,fun a1=>a1≤s.length∧Qa1 byP s a1⟩
 .lp L1 0 ⟨Nat.zero_le _,Qa1.zero _ _⟩ [(3,aI 0)] [] ⟨sR,sO,trivial⟩ trivial fun a1 ha1=>
 (fun (k:Nat) (hH1:k≤s.length∧Qa1 byP s k)=>.r 4<|.br 23 (decide ((k:Int)<((s).length:Int))) (fun q5=>have p5:=decT q5;.r 2<|.byte k (m:=(k:Int)) (tx:=s) rfl (by omega) fun c1 hc1=>
 .binV .eql 5 (eqlN (k:=.u8) (a:=(c1.toNat:Int)) (b:=47))<|
 .r 1<|.br 30 ((c1.toNat:Int)==47) (fun q6=>have p6:=beqT q6;.r 5<|.r 1<|.f (aI (Qah s)) [] (aI 10) (by exact Sub.of_eq (congrArg aI (Qdy (by rintro ⟨c1,c2,c3,c4,c5,c6⟩;first | exact c5 (by47 (by assumption) (by assumption)) | exact c6 (by0 (by assumption) (by assumption)) | first | contradiction | omega | exact c1 (List.eq_nil_of_length_eq_zero (by omega)) | (simp_all;done) | (simp_all;omega) | (cases s<;>simp_all))).symm)))
 <| fun q6=>have p6:=beqF q6;.r 2<|.byte k (m:=(k:Int)) (tx:=s) rfl (by omega) fun c2 hc2=>
 .binV .eql 5 (eqlN (k:=.u8) (a:=(c2.toNat:Int)) (b:=0))<|
 .r 1<|.br 35 ((c2.toNat:Int)==0) (fun q7=>have p7:=beqT q7;.r 1<|.f (aI (Qah s)) [] (aI 10) (by exact Sub.of_eq (congrArg aI (Qdy (by rintro ⟨c1,c2,c3,c4,c5,c6⟩;first | exact c5 (by47 (by assumption) (by assumption)) | exact c6 (by0 (by assumption) (by assumption)) | first | contradiction | omega | exact c1 (List.eq_nil_of_length_eq_zero (by omega)) | (simp_all;done) | (simp_all;omega) | (cases s<;>simp_all))).symm)))
 <| fun q7=>have p7:=beqF q7;.run 3 [rng .i64 ((k:Int)+1)] ⟨Qaj (by omega) (by omega),trivial⟩<|
 .bk L1 k (k+1) ⟨by omega,hH1.2.step hc1 ⟨by assumption,by simp_all⟩⟩ (show s.length-(k+1)<s.length-k from (by omega)) [(3,aI ((k:Int)+1))] [] ⟨sR,sO,trivial⟩ trivial)
 <| fun q5=>have p5:=decF q5;.r 1<|.f (aI (Qah s)) [] (aI 0) (by
  obtain ⟨n1,n2⟩:=byP_no (hH1.2.full (by omega));exact Sub.of_eq (congrArg aI (Qqx ⟨by (intro h;subst h;simp at *),by assumption,by assumption,by omega,n1,n2⟩).symm))) a1 ha1)
theorem Zav (l:List Ent) (hl:l.length≤8796093022207∧∀ e∈l,OkE e):Qaf prog 169 [.sl 2 false (l.map entA)] (aB (dP (rowP l))):=by
 exact Qac func169 (let R:AV:=aB (dP (rowP l));
 .r 1<|.r 2<|.lm 6 l entA<|.r 1<|.br 7 (decide ((l.length:Int)>256)) (fun q1=>have p1:=decT q1;.r 1<|.f (aB (dP (rowP l))) [] (aB false) (by exact sF (fun h=>by have:=h.1;omega)))
 <| fun q1=>have p1:=decF q1;.r 1<|let L1:Lp (Nat):=⟨fun a1=>⟨[(0,.sl 2 false (l.map entA)),(3,aI (a1:Int))],[]⟩,fun a1=>l.length-a1,fun a1=>a1≤l.length∧Qa1 (entP l) l a1⟩
 .lp L1 0 ⟨Nat.zero_le _,Qa1.zero _ _⟩ [(3,aI 0)] [] ⟨sR,sO,trivial⟩ trivial fun a1 ha1=>
 (fun (k:Nat) (hH1:k≤l.length∧Qa1 (entP l) l k)=>.r 3<|.lm 10 l entA<|.r 1<|.br 11 (decide ((k:Int)<(l.length:Int))) (fun q2=>have p2:=decT q2;.r 2<|.idxM l entA k (m:=(k:Int)) rfl (by omega) fun x1 hx1=>
 have hbx1:=hl.2 x1 (List.mem_of_getElem? hx1);have hnx1:=hbx1.1;.r 2<|.call (Qdw x1.name (by assumption))<|
 .r 1<|.ord [0,1,2,3,4,5,6,7,8,9,10,11,12,13,14,15,16,17,18,19,20,21,22,23,24,25,26,27]<|.r 3<|.br 22 ((Qah x1.name) != 0) (fun q3=>have p3:=bneT q3;.r 25<|.r 1<|.f R [] (aB false) (by
  refine sF (fun h=>?_);obtain ⟨g1,g2,g3⟩:=h.2.at hx1
  first | exact absurd (Qcd.2 g1) (by omega) | omega | (have:=g3 _ (by omega) (by assumption);simp_all)))
 <| fun q3=>have p3:=bneF q3;.r 2<|.idx k (m:=(k:Int)) (xs:=l.map entA) (e:=entA x1) rfl (map_some hx1)<|
 .r 5<|.br 30 (decide (x1.ino<1)) (fun q4=>have p4:=decT q4;.r 17<|.r 1<|.f R [] (aB false) (by
  refine sF (fun h=>?_);obtain ⟨g1,g2,g3⟩:=h.2.at hx1
  first | exact absurd (Qcd.2 g1) (by omega) | omega | (have:=g3 _ (by omega) (by assumption);simp_all)))
 <| fun q4=>have p4:=decF q4;.r 3<|.br 33 (decide ((k:Int)>0)) (fun q5=>have p5:=decT q5;.run 3 [rng .i64 ((k:Int)-1)] ⟨Qaj (by omega) (by omega),trivial⟩<|
 .idxM l entA (k-1) (m:=(k:Int)-1) (by omega) (by omega) fun x2 hx2=>
 have hbx2:=hl.2 x2 (List.mem_of_getElem? hx2);have hnx2:=hbx2.1;.r 4<|.idx k (m:=(k:Int)) (xs:=l.map entA) (e:=entA x1) rfl (map_some hx1)<|
 .r 2<|.binV .geq 9 (geqS (a:=x2.name) (b:=x1.name))<|
 .r 2<|.br 47 (!(Op.bytesLess x2.name x1.name)) (fun q6=>have q6:=notT q6;have p6:=booF q6;.r 1<|.f R [] (aB false) (by
  refine sF (fun h=>?_);obtain ⟨g1,g2,g3⟩:=h.2.at hx1
  first | exact absurd (Qcd.2 g1) (by omega) | omega | (have:=g3 _ (by omega) (by assumption);simp_all)))
 <| fun q6=>have q6:=notF q6;have p6:=booT q6;.run 3 [rng .i64 ((k:Int)+1)] ⟨Qaj (by omega) (by omega),trivial⟩<|
 .bk L1 k (k+1) ⟨by omega,hH1.2.step hx1 (by refine ⟨Qcd.1 (by omega),by omega,fun d h0 hd=>?_⟩;first | omega | (simp_all;done) | (rw [Nat.add_one_sub_one] at *;simp_all))⟩ (show l.length-(k+1)<l.length-k from (by omega)) [(3,aI ((k:Int)+1))] [] ⟨sR,sO,trivial⟩ trivial)
 <| fun q5=>have p5:=decF q5;.r 14<|.run 3 [rng .i64 ((k:Int)+1)] ⟨Qaj (by omega) (by omega),trivial⟩<|
 .bk L1 k (k+1) ⟨by omega,hH1.2.step hx1 (by refine ⟨Qcd.1 (by omega),by omega,fun d h0 hd=>?_⟩;first | omega | (simp_all;done) | (rw [Nat.add_one_sub_one] at *;simp_all))⟩ (show l.length-(k+1)<l.length-k from (by omega)) [(3,aI ((k:Int)+1))] [] ⟨sR,sO,trivial⟩ trivial)
 <| fun q2=>have p2:=decF q2;.r 1<|.f R [] (aB true) (by exact sT ⟨by omega,hH1.2.full (by omega)⟩)) a1 ha1)
theorem Zgb (l:List Ent) (hl:l.length≤8796093022207∧∀ e∈l,OkE e):Qaf prog 170 [.sl 2 false (l.map entA)] (aB (dP (rowP l))):=by
 exact Qac func170 (let R:AV:=aB (dP (rowP l));
 .r 1<|.r 2<|.lm 6 l entA<|.r 1<|.br 7 (decide ((l.length:Int)>256)) (fun q1=>have p1:=decT q1;.r 1<|.f (aB (dP (rowP l))) [] (aB false) (by exact sF (fun h=>by have:=h.1;omega)))
 <| fun q1=>have p1:=decF q1;.r 2<|.lm 9 l entA<|.r 1<|let L1:Lp (Nat):=⟨fun a1=>⟨[(0,.sl 2 false (l.map entA)),(8,.sl 2 false (l.map entA)),(9,aI (l.length:Int)),(10,aI (a1:Int))],[]⟩,fun a1=>l.length-a1,fun a1=>a1≤l.length∧Qa1 (entP l) l a1⟩
 .lp L1 0 ⟨Nat.zero_le _,Qa1.zero _ _⟩ [(10,aI 0)] [] ⟨sR,sR,sR,sO,trivial⟩ trivial fun a1 ha1=>
 (fun (k:Nat) (hH1:k≤l.length∧Qa1 (entP l) l k)=>.r 1<|.br 11 (decide ((k:Int)<(l.length:Int))) (fun q2=>have p2:=decT q2;.r 1<|.idxM l entA k (m:=(k:Int)) rfl (by omega) fun x1 hx1=>
 have hbx1:=hl.2 x1 (List.mem_of_getElem? hx1);have hnx1:=hbx1.1;.r 1<|.new fun b1=>.u 2 [b1]<|
 .u 2 [b1]<|
 .call (Qen x1.name (by assumption))<|
 .r 2<|.br 19 ((Qah x1.name) != 0) (fun q3=>have p3:=bneT q3;.r 4<|.r 1<|.f R [] (aB false) (by
  refine sF (fun h=>?_);obtain ⟨g1,g2,g3⟩:=h.2.at hx1
  first | exact absurd (Qcd.2 g1) (by omega) | omega | (have:=g3 _ (by omega) (by assumption);simp_all)))
 <| fun q3=>have p3:=bneF q3;.u 4 [b1]<|
 .br 23 (decide (x1.ino<1)) (fun q4=>have p4:=decT q4;.r 1<|.f R [] (aB false) (by
  refine sF (fun h=>?_);obtain ⟨g1,g2,g3⟩:=h.2.at hx1
  first | exact absurd (Qcd.2 g1) (by omega) | omega | (have:=g3 _ (by omega) (by assumption);simp_all)))
 <| fun q4=>have p4:=decF q4;.ord [0,1,2,3,4,5,6,7,8,9,10,11,12]<|.r 3<|.br 26 (decide ((k:Int)>0)) (fun q5=>have p5:=decT q5;.run 3 [rng .i64 ((k:Int)-1)] ⟨Qaj (by omega) (by omega),trivial⟩<|
 .idxM l entA (k-1) (m:=(k:Int)-1) (by omega) (by omega) fun x2 hx2=>
 have hbx2:=hl.2 x2 (List.mem_of_getElem? hx2);have hnx2:=hbx2.1;.u 4 [b1]<|
 .binV .geq 9 (geqS (a:=x2.name) (b:=x1.name))<|
 .r 1<|.br 36 (!(Op.bytesLess x2.name x1.name)) (fun q6=>have q6:=notT q6;have p6:=booF q6;.r 1<|.f R [] (aB false) (by
  refine sF (fun h=>?_);obtain ⟨g1,g2,g3⟩:=h.2.at hx1
  first | exact absurd (Qcd.2 g1) (by omega) | omega | (have:=g3 _ (by omega) (by assumption);simp_all)))
 <| fun q6=>have q6:=notF q6;have p6:=booT q6;.run 2 [rng .i64 ((k:Int)+1)] ⟨Qaj (by omega) (by omega),trivial⟩<|
 .bk L1 k (k+1) ⟨by omega,hH1.2.step hx1 (by refine ⟨Qcd.1 (by omega),by omega,fun d h0 hd=>?_⟩;first | omega | (simp_all;done) | (rw [Nat.add_one_sub_one] at *;simp_all))⟩ (show l.length-(k+1)<l.length-k from (by omega)) [(10,aI ((k:Int)+1))] [] ⟨sR,sR,sR,sO,trivial⟩ trivial)
 <| fun q5=>have p5:=decF q5;.r 10<|.run 2 [rng .i64 ((k:Int)+1)] ⟨Qaj (by omega) (by omega),trivial⟩<|
 .bk L1 k (k+1) ⟨by omega,hH1.2.step hx1 (by refine ⟨Qcd.1 (by omega),by omega,fun d h0 hd=>?_⟩;first | omega | (simp_all;done) | (rw [Nat.add_one_sub_one] at *;simp_all))⟩ (show l.length-(k+1)<l.length-k from (by omega)) [(10,aI ((k:Int)+1))] [] ⟨sR,sR,sR,sO,trivial⟩ trivial)
 <| fun q2=>have p2:=decF q2;.r 1<|.f R [] (aB true) (by exact sT ⟨by omega,hH1.2.full (by omega)⟩)) a1 ha1)
theorem Qih (n:Nod) (ok:OkN n):Qaf prog 127 [.agg (nodA n)] (aB (dP (nodP n))):=by
 obtain ⟨on1,on2,on3,on4,on5,on6⟩:=id ok;obtain ⟨on7,on8⟩:=id on1;obtain ⟨on9,on10⟩:=id on2;exact Qac func127 (
 .new fun b1=>.r 1<|.u 4 [b1]<|
 .br 6 (decide (n.ino<1)) (fun q1=>have p1:=decT q1;.r 9<|.r 1<|.f (aB (dP (nodP n))) [] (aB false) (by
  refine sF ?_;rintro ⟨g1,g2,g3,⟨g4,g5,g6⟩ | ⟨g4,g5,g6⟩⟩<;>first | omega | contradiction | exact absurd g6 (Qab.1 (by assumption)) | exact absurd (g6 ▸ Qb2) (Qab.1 (by assumption)) | (have h0:n.l.length=0:=(by rw [g6];rfl);omega) | (have h0:n.text.length=0:=(by rw [g5];rfl);omega) | (simp_all [Qab];done) | (simp_all [Qab];omega)))
 <| fun q1=>have p1:=decF q1;.u 5 [b1]<|
 .br 11 (decide (n.links<0)) (fun q2=>have p2:=decT q2;.r 4<|.r 1<|.f (aB (dP (nodP n))) [] (aB false) (by
  refine sF ?_;rintro ⟨g1,g2,g3,⟨g4,g5,g6⟩ | ⟨g4,g5,g6⟩⟩<;>first | omega | contradiction | exact absurd g6 (Qab.1 (by assumption)) | exact absurd (g6 ▸ Qb2) (Qab.1 (by assumption)) | (have h0:n.l.length=0:=(by rw [g6];rfl);omega) | (have h0:n.text.length=0:=(by rw [g5];rfl);omega) | (simp_all [Qab];done) | (simp_all [Qab];omega)))
 <| fun q2=>have p2:=decF q2;.u 4 [b1]<|
 .br 15 (decide (n.links>64)) (fun q3=>have p3:=decT q3;.r 1<|.f (aB (dP (nodP n))) [] (aB false) (by
  refine sF ?_;rintro ⟨g1,g2,g3,⟨g4,g5,g6⟩ | ⟨g4,g5,g6⟩⟩<;>first | omega | contradiction | exact absurd g6 (Qab.1 (by assumption)) | exact absurd (g6 ▸ Qb2) (Qab.1 (by assumption)) | (have h0:n.l.length=0:=(by rw [g6];rfl);omega) | (have h0:n.text.length=0:=(by rw [g5];rfl);omega) | (simp_all [Qab];done) | (simp_all [Qab];omega)))
 <| fun q3=>have p3:=decF q3;.u 2 [b1]<|
 .r 2<|.br 18 (n.kind==2) (fun q4=>have p4:=beqT q4;.u 4 [b1]<|
 .br 23 (n.text==([])) (fun q5=>have p5:=beqT q5;.u 2 [b1]<|
 .call (Zgb n.l (by exact ⟨by assumption,by assumption⟩))<|
 .r 2<|.f (aB (dP (nodP n))) [] (aB (dP (rowP n.l))) (by
  refine sE ?_;rw [Qas];constructor
  ·intro h;refine ⟨by omega,by omega,by omega,?_⟩
   first | exact .inl ⟨by omega,by assumption,by first | exact h | simp_all [Qas]⟩ | exact .inr ⟨by omega,by omega,List.eq_nil_of_length_eq_zero (by have:=beqT h;omega)⟩
  ·rintro ⟨g1,g2,g3,⟨g4,g5,g6⟩ | ⟨g4,g5,g6⟩⟩<;>first | exact g6 | omega | (rw [g6];rfl) | (simp [g6];done)))
 <| fun q5=>have p5:=beqF q5;.r 5<|.f (aB (dP (nodP n))) [] (aB false) (by
  refine sF ?_;rintro ⟨g1,g2,g3,⟨g4,g5,g6⟩ | ⟨g4,g5,g6⟩⟩<;>first | omega | contradiction | exact absurd g6 (Qab.1 (by assumption)) | exact absurd (g6 ▸ Qb2) (Qab.1 (by assumption)) | (have h0:n.l.length=0:=(by rw [g6];rfl);omega) | (have h0:n.text.length=0:=(by rw [g5];rfl);omega) | (simp_all [Qab];done) | (simp_all [Qab];omega)))
 <| fun q4=>have p4:=beqF q4;.r 2<|.br 28 (n.kind==1) (fun q6=>have p6:=beqT q6;.u 5 [b1]<|
 .br 35 (decide (((n.text).length:Int)≤4096)) (fun q7=>have p7:=decT q7;.u 3 [b1]<|
 .lm 38 n.l entA<|.r 3<|.f (aB (dP (nodP n))) [] (aB ((n.l.length:Int)==0)) (by
  refine sE ?_;constructor
  ·intro h;refine ⟨by omega,by omega,by omega,?_⟩
   first | exact .inl ⟨by omega,by assumption,by first | exact h | simp_all [Qas]⟩ | exact .inr ⟨by omega,by omega,List.eq_nil_of_length_eq_zero (by have:=beqT h;omega)⟩
  ·rintro ⟨g1,g2,g3,⟨g4,g5,g6⟩ | ⟨g4,g5,g6⟩⟩<;>first | exact g6 | omega | (rw [g6];rfl) | (simp [g6];done)))
 <| fun q7=>have p7:=decF q7;.r 6<|.f (aB (dP (nodP n))) [] (aB false) (by
  refine sF ?_;rintro ⟨g1,g2,g3,⟨g4,g5,g6⟩ | ⟨g4,g5,g6⟩⟩<;>first | omega | contradiction | exact absurd g6 (Qab.1 (by assumption)) | exact absurd (g6 ▸ Qb2) (Qab.1 (by assumption)) | (have h0:n.l.length=0:=(by rw [g6];rfl);omega) | (have h0:n.text.length=0:=(by rw [g5];rfl);omega) | (simp_all [Qab];done) | (simp_all [Qab];omega)))
 <| fun q6=>have p6:=beqF q6;.r 2<|.br 28 (n.kind==3) (fun q8=>have p8:=beqT q8;.u 5 [b1]<|
 .br 35 (decide (((n.text).length:Int)≤4096)) (fun q9=>have p9:=decT q9;.u 3 [b1]<|
 .lm 38 n.l entA<|.r 3<|.f (aB (dP (nodP n))) [] (aB ((n.l.length:Int)==0)) (by
  refine sE ?_;constructor
  ·intro h;refine ⟨by omega,by omega,by omega,?_⟩
   first | exact .inl ⟨by omega,by assumption,by first | exact h | simp_all [Qas]⟩ | exact .inr ⟨by omega,by omega,List.eq_nil_of_length_eq_zero (by have:=beqT h;omega)⟩
  ·rintro ⟨g1,g2,g3,⟨g4,g5,g6⟩ | ⟨g4,g5,g6⟩⟩<;>first | exact g6 | omega | (rw [g6];rfl) | (simp [g6];done)))
 <| fun q9=>have p9:=decF q9;.r 6<|.f (aB (dP (nodP n))) [] (aB false) (by
  refine sF ?_;rintro ⟨g1,g2,g3,⟨g4,g5,g6⟩ | ⟨g4,g5,g6⟩⟩<;>first | omega | contradiction | exact absurd g6 (Qab.1 (by assumption)) | exact absurd (g6 ▸ Qb2) (Qab.1 (by assumption)) | (have h0:n.l.length=0:=(by rw [g6];rfl);omega) | (have h0:n.text.length=0:=(by rw [g5];rfl);omega) | (simp_all [Qab];done) | (simp_all [Qab];omega)))
 <| fun q8=>have p8:=beqF q8;.r 1<|.f (aB (dP (nodP n))) [] (aB false) (by
  refine sF ?_;rintro ⟨g1,g2,g3,⟨g4,g5,g6⟩ | ⟨g4,g5,g6⟩⟩<;>first | omega | contradiction | exact absurd g6 (Qab.1 (by assumption)) | exact absurd (g6 ▸ Qb2) (Qab.1 (by assumption)) | (have h0:n.l.length=0:=(by rw [g6];rfl);omega) | (have h0:n.text.length=0:=(by rw [g5];rfl);omega) | (simp_all [Qab];done) | (simp_all [Qab];omega)))
theorem Qgn (n:Nod) (ok:OkN n):Qaf prog 126 [.agg (nodA n)] (aB (dP (nodP n))):=by
 obtain ⟨on1,on2,on3,on4,on5,on6⟩:=id ok;obtain ⟨on7,on8⟩:=id on1;obtain ⟨on9,on10⟩:=id on2;exact Qac func126 (
 .new fun b1=>.r 1<|.u 4 [b1]<|
 .br 7 (decide (n.ino<1)) (fun q1=>have p1:=decT q1;.r 25<|.r 1<|.f (aB (dP (nodP n))) [] (aB false) (by
  refine sF ?_;rintro ⟨g1,g2,g3,⟨g4,g5,g6⟩ | ⟨g4,g5,g6⟩⟩<;>first | omega | contradiction | exact absurd g6 (Qab.1 (by assumption)) | exact absurd (g6 ▸ Qb2) (Qab.1 (by assumption)) | (have h0:n.l.length=0:=(by rw [g6];rfl);omega) | (have h0:n.text.length=0:=(by rw [g5];rfl);omega) | (simp_all [Qab];done) | (simp_all [Qab];omega)))
 <| fun q1=>have p1:=decF q1;.u 5 [b1]<|
 .br 12 (decide (n.kind<1)) (fun q2=>have p2:=decT q2;.r 20<|.r 1<|.f (aB (dP (nodP n))) [] (aB false) (by
  refine sF ?_;rintro ⟨g1,g2,g3,⟨g4,g5,g6⟩ | ⟨g4,g5,g6⟩⟩<;>first | omega | contradiction | exact absurd g6 (Qab.1 (by assumption)) | exact absurd (g6 ▸ Qb2) (Qab.1 (by assumption)) | (have h0:n.l.length=0:=(by rw [g6];rfl);omega) | (have h0:n.text.length=0:=(by rw [g5];rfl);omega) | (simp_all [Qab];done) | (simp_all [Qab];omega)))
 <| fun q2=>have p2:=decF q2;.u 5 [b1]<|
 .br 17 (decide (n.kind>3)) (fun q3=>have p3:=decT q3;.r 15<|.r 1<|.f (aB (dP (nodP n))) [] (aB false) (by
  refine sF ?_;rintro ⟨g1,g2,g3,⟨g4,g5,g6⟩ | ⟨g4,g5,g6⟩⟩<;>first | omega | contradiction | exact absurd g6 (Qab.1 (by assumption)) | exact absurd (g6 ▸ Qb2) (Qab.1 (by assumption)) | (have h0:n.l.length=0:=(by rw [g6];rfl);omega) | (have h0:n.text.length=0:=(by rw [g5];rfl);omega) | (simp_all [Qab];done) | (simp_all [Qab];omega)))
 <| fun q3=>have p3:=decF q3;.u 5 [b1]<|
 .br 22 (decide (n.links<0)) (fun q4=>have p4:=decT q4;.r 10<|.r 1<|.f (aB (dP (nodP n))) [] (aB false) (by
  refine sF ?_;rintro ⟨g1,g2,g3,⟨g4,g5,g6⟩ | ⟨g4,g5,g6⟩⟩<;>first | omega | contradiction | exact absurd g6 (Qab.1 (by assumption)) | exact absurd (g6 ▸ Qb2) (Qab.1 (by assumption)) | (have h0:n.l.length=0:=(by rw [g6];rfl);omega) | (have h0:n.text.length=0:=(by rw [g5];rfl);omega) | (simp_all [Qab];done) | (simp_all [Qab];omega)))
 <| fun q4=>have p4:=decF q4;.u 5 [b1]<|
 .br 27 (decide (n.links>64)) (fun q5=>have p5:=decT q5;.r 5<|.r 1<|.f (aB (dP (nodP n))) [] (aB false) (by
  refine sF ?_;rintro ⟨g1,g2,g3,⟨g4,g5,g6⟩ | ⟨g4,g5,g6⟩⟩<;>first | omega | contradiction | exact absurd g6 (Qab.1 (by assumption)) | exact absurd (g6 ▸ Qb2) (Qab.1 (by assumption)) | (have h0:n.l.length=0:=(by rw [g6];rfl);omega) | (have h0:n.text.length=0:=(by rw [g5];rfl);omega) | (simp_all [Qab];done) | (simp_all [Qab];omega)))
 <| fun q5=>have p5:=decF q5;.u 5 [b1]<|
 .br 32 (decide (((n.text).length:Int)>4096)) (fun q6=>have p6:=decT q6;.r 1<|.f (aB (dP (nodP n))) [] (aB false) (by
  refine sF ?_;rintro ⟨g1,g2,g3,⟨g4,g5,g6⟩ | ⟨g4,g5,g6⟩⟩<;>first | omega | contradiction | exact absurd g6 (Qab.1 (by assumption)) | exact absurd (g6 ▸ Qb2) (Qab.1 (by assumption)) | (have h0:n.l.length=0:=(by rw [g6];rfl);omega) | (have h0:n.text.length=0:=(by rw [g5];rfl);omega) | (simp_all [Qab];done) | (simp_all [Qab];omega)))
 <| fun q6=>have p6:=decF q6;.u 2 [b1]<|
 .call (Zav n.l (by exact ⟨by assumption,by assumption⟩))<|
 .r 1<|.r 2<|.br 37 (dP (rowP n.l)) (fun q7=>have p7:=booT q7;.u 4 [b1]<|
 .br 41 (n.kind != 2) (fun q8=>have p8:=bneT q8;.u 10 [b1]<|
 .br 51 (n.kind==2) (fun q9=>have p9:=beqT q9;.r 7<|.f (aB (dP (nodP n))) [] (aB true) (by
  refine sT ⟨by omega,by omega,by omega,?_⟩
  first | exact .inl ⟨by omega,by assumption,by simp_all [Qas]⟩ | exact .inr ⟨by omega,by omega,List.eq_nil_of_length_eq_zero (by omega)⟩))
 <| fun q9=>have p9:=beqF q9;.u 3 [b1]<|
 .lm 54 n.l entA<|.r 4<|.f (aB (dP (nodP n))) [] (aB ((n.l.length:Int)==0)) (by
  refine sE ?_;constructor
  ·intro h;refine ⟨by omega,by omega,by omega,?_⟩
   first | exact .inl ⟨by omega,by assumption,by first | exact h | simp_all [Qas]⟩ | exact .inr ⟨by omega,by omega,List.eq_nil_of_length_eq_zero (by have:=beqT h;omega)⟩
  ·rintro ⟨g1,g2,g3,⟨g4,g5,g6⟩ | ⟨g4,g5,g6⟩⟩<;>first | exact g6 | omega | (rw [g6];rfl) | (simp [g6];done)))
 <| fun q8=>have p8:=bneF q8;.u 6 [b1]<|
 .br 47 (n.text==([])) (fun q10=>have p10:=beqT q10;.u 4 [b1]<|
 .br 51 (n.kind==2) (fun q11=>have p11:=beqT q11;.r 7<|.f (aB (dP (nodP n))) [] (aB true) (by
  refine sT ⟨by omega,by omega,by omega,?_⟩
  first | exact .inl ⟨by omega,by assumption,by simp_all [Qas]⟩ | exact .inr ⟨by omega,by omega,List.eq_nil_of_length_eq_zero (by omega)⟩))
 <| fun q11=>have p11:=beqF q11;.u 3 [b1]<|
 .lm 54 n.l entA<|.r 4<|.f (aB (dP (nodP n))) [] (aB ((n.l.length:Int)==0)) (by
  refine sE ?_;constructor
  ·intro h;refine ⟨by omega,by omega,by omega,?_⟩
   first | exact .inl ⟨by omega,by assumption,by first | exact h | simp_all [Qas]⟩ | exact .inr ⟨by omega,by omega,List.eq_nil_of_length_eq_zero (by have:=beqT h;omega)⟩
  ·rintro ⟨g1,g2,g3,⟨g4,g5,g6⟩ | ⟨g4,g5,g6⟩⟩<;>first | exact g6 | omega | (rw [g6];rfl) | (simp [g6];done)))
 <| fun q10=>have p10:=beqF q10;.r 11<|.f (aB (dP (nodP n))) [] (aB false) (by
  refine sF ?_;rintro ⟨g1,g2,g3,⟨g4,g5,g6⟩ | ⟨g4,g5,g6⟩⟩<;>first | omega | contradiction | exact absurd g6 (Qab.1 (by assumption)) | exact absurd (g6 ▸ Qb2) (Qab.1 (by assumption)) | (have h0:n.l.length=0:=(by rw [g6];rfl);omega) | (have h0:n.text.length=0:=(by rw [g5];rfl);omega) | (simp_all [Qab];done) | (simp_all [Qab];omega)))
 <| fun q7=>have p7:=booF q7;.r 21<|.f (aB (dP (nodP n))) [] (aB false) (by
  refine sF ?_;rintro ⟨g1,g2,g3,⟨g4,g5,g6⟩ | ⟨g4,g5,g6⟩⟩<;>first | omega | contradiction | exact absurd g6 (Qab.1 (by assumption)) | exact absurd (g6 ▸ Qb2) (Qab.1 (by assumption)) | (have h0:n.l.length=0:=(by rw [g6];rfl);omega) | (have h0:n.text.length=0:=(by rw [g5];rfl);omega) | (simp_all [Qab];done) | (simp_all [Qab];omega)))
theorem Zf7 (t e:TypeId) (ht:prog.underlying t=some (.array 3 e)) (he:prog.underlying e=some (.int .i64)) (hs:∀ w,(Go.sizeOf e).run prog w=.ok 1 w) (a b c x y z:Int) (w:World) :
  (Op.equalIn 10000 t (.agg #[.int .i64 a,.int .i64 b,.int .i64 c]) (.agg #[.int .i64 x,.int .i64 y,.int .i64 z])).run prog w=.ok (a==x&&b==y&&c==z) w:=by
 show (Op.equalIn (9999+1) _ _ _).run _ _=_;have p0:∀ (u0 u1 u2:Value) w,(part e #[u0,u1,u2] 0).run prog w=.ok u0 w:=fun _ _ _ _=>by simp [go_sem,part,hs,isAgg,run_underlying he]
 have p1:∀ (u0 u1 u2:Value) w,(part e #[u0,u1,u2] 1).run prog w=.ok u1 w:=fun _ _ _ _=>by simp [go_sem,part,hs,isAgg,run_underlying he]
 have p2:∀ (u0 u1 u2:Value) w,(part e #[u0,u1,u2] 2).run prog w=.ok u2 w:=fun _ _ _ _=>by simp [go_sem,part,hs,isAgg,run_underlying he]
 have q:∀ a b w,(Op.equalIn 9999 e (.int .i64 a) (.int .i64 b)).run prog w=.ok (a==b) w:=fun a b w=>run_equalIn_int w 9998 e .i64 .i64 a b he;rw [Op.equalIn];simp only [Sem.run_bind,run_underlying ht,Result.andThen_ok,hs,Std.Legacy.Range.forIn_eq_forIn_range',Std.Legacy.Range.size,List.range',List.forIn_cons,List.forIn_nil];cases h1:(a==x)<;>cases h2:(b==y)<;>cases h3:(c==z)<;>simp [Sem.run_bind,Result.andThen,p0,p1,p2,q,h1,h2,h3]
theorem eqInt3 (t:TypeId) (a b c x y z:Int) (hg:prog.eqGuardType prog.depth t=false) (hr:∀ w,(Op.equalIn 10000 t (.agg #[.int .i64 a,.int .i64 b,.int .i64 c]) (.agg #[.int .i64 x,.int .i64 y,.int .i64 z])).run prog w=.ok (a==x&&b==y&&c==z) w)
  (D:Nat→Prop) (w:World) (xo yo:Operand) (u v:Value) (hu:Ra D w (.agg [aI a,aI b,aI c]) u) (hv:Ra D w (.agg [aI x,aI y,aI z]) v) :
  ∃ r,((do Go.eqGuard .eql t xo yo u v;Go.binOp .eql t u v):Sem Value).run prog w=.ok r w∧Ra D w (aB (a==x&&b==y&&c==z)) r:=by
 have e1:=Zbm (vs:=[.int .i64 a,.int .i64 b,.int .i64 c]) hu;have e2:=Zbm (vs:=[.int .i64 x,.int .i64 y,.int .i64 z]) hv;subst e1 e2;refine ⟨_,?_,.val _⟩;simp [run_eqGuard_agg _ _ _ _ _ _ _ hg,run_eql_struct,hr]
theorem Zjy {x y:Ent} (h1:x.name=y.name) (h2:x.ino=y.ino):x=y:=by cases x;cases y;simp_all
theorem Zh1 (a b:List Ent) (ha:a.length≤8796093022207) (hb:b.length≤8796093022207):Qaf prog 159 [.sl 2 false (a.map entA),.sl 2 false (b.map entA)] (aB (dP (a=b))):=by
 exact Qac func159 (let R:AV:=aB (dP (a=b));
 .r 1<|.r 2<|.lm 7 a entA<|.r 2<|.lm 9 b entA<|.r 1<|.bn 10 (a.length:Int) (b.length:Int) (fun p1=>.r 1<|.f (aB (dP (a=b))) [] (aB false) (by exact sF (fun h=>by have:=congrArg List.length h;omega)))
 <| fun p1=>.r 2<|.lm 12 a entA<|.r 1<|let L1:Lp (Nat):=⟨fun a1=>⟨[(0,.sl 2 false (a.map entA)),(1,.sl 2 false (b.map entA)),(12,aI (a.length:Int)),(13,aI (a1:Int))],[]⟩,fun a1=>a.length-a1,fun a1=>a1≤a.length∧a.take a1=b.take a1⟩
 .lp L1 0 ⟨Nat.zero_le _,rfl⟩ [(13,aI 0)] [] ⟨sR,sR,sR,sO,trivial⟩ trivial fun a1 ha1=>
 (fun (k:Nat) (hH1:k≤a.length∧a.take k=b.take k)=>.r 1<|.bd 14 ((k:Int)<(a.length:Int)) (fun p2=>.r 2<|.ord [0,1,2,3,4,5,6,7,8]<|.r 2<|.idxM a entA k (m:=(k:Int)) rfl (by omega) fun x1 hx1=>
 .r 3<|.idxM b entA k (m:=(k:Int)) rfl (by omega) fun x2 hx2=>
 .r 1<|.eqS<|.nbb 24 ((x1.name==x2.name)&&((x1.ino==x2.ino)&&(true))) (fun p3=>.r 1<|.f R [] (aB false) (by
  refine sF (fun h=>?_);rw [h,hx2] at hx1;obtain rfl:=Option.some.inj hx1;simp_all))
 <| fun p3=>.run 2 [rng .i64 ((k:Int)+1)] ⟨Qaj (by omega) (by omega),trivial⟩<|
 .bk L1 k (k+1) ⟨by omega,by rw [Qak hx1,Qak hx2,hH1.2];congr 2;exact Zjy (by simp_all) (by simp_all)⟩ (show a.length-(k+1)<a.length-k from (by omega)) [(13,aI ((k:Int)+1))] [] ⟨sR,sR,sR,sO,trivial⟩ trivial)
 <| fun p2=>.r 1<|.f R [] (aB true) (by
  refine sT ?_;have h:=hH1.2;rw [Qav (by omega),Qav (by omega)] at h;exact h)) a1 ha1)
theorem Za8 (a b:List Ent) (ha:a.length≤8796093022207) (hb:b.length≤8796093022207):Qaf prog 101 [.sl 2 false (a.map entA),.sl 2 false (b.map entA)] (aB (dP (a=b))):=by
 exact Qac func101 (let R:AV:=aB (dP (a=b));
 .r 1<|.r 2<|.lm 7 a entA<|.r 2<|.lm 9 b entA<|.r 1<|.bn 10 (a.length:Int) (b.length:Int) (fun p1=>.r 1<|.f (aB (dP (a=b))) [] (aB false) (by exact sF (fun h=>by have:=congrArg List.length h;omega)))
 <| fun p1=>.r 1<|let L1:Lp (Nat):=⟨fun a1=>⟨[(0,.sl 2 false (a.map entA)),(1,.sl 2 false (b.map entA)),(5,aI (a1:Int))],[]⟩,fun a1=>a.length-a1,fun a1=>a1≤a.length∧a.take a1=b.take a1⟩
 .lp L1 0 ⟨Nat.zero_le _,rfl⟩ [(5,aI 0)] [] ⟨sR,sR,sO,trivial⟩ trivial fun a1 ha1=>
 (fun (k:Nat) (hH1:k≤a.length∧a.take k=b.take k)=>.r 3<|.lm 13 a entA<|.r 1<|.bd 14 ((k:Int)<(a.length:Int)) (fun p2=>.ord [0,1,2,3,4,5,6,7,8]<|.r 2<|.idxM a entA k (m:=(k:Int)) rfl (by omega) fun x1 hx1=>
 .r 3<|.idxM b entA k (m:=(k:Int)) rfl (by omega) fun x2 hx2=>
 .r 1<|.eqS<|.nbb 25 ((x1.name==x2.name)&&((x1.ino==x2.ino)&&(true))) (fun p3=>.r 1<|.f R [] (aB false) (by
  refine sF (fun h=>?_);rw [h,hx2] at hx1;obtain rfl:=Option.some.inj hx1;simp_all))
 <| fun p3=>.run 3 [rng .i64 ((k:Int)+1)] ⟨Qaj (by omega) (by omega),trivial⟩<|
 .bk L1 k (k+1) ⟨by omega,by rw [Qak hx1,Qak hx2,hH1.2];congr 2;exact Zjy (by simp_all) (by simp_all)⟩ (show a.length-(k+1)<a.length-k from (by omega)) [(5,aI ((k:Int)+1))] [] ⟨sR,sR,sO,trivial⟩ trivial)
 <| fun p2=>.r 1<|.f R [] (aB true) (by
  refine sT ?_;have h:=hH1.2;rw [Qav (by omega),Qav (by omega)] at h;exact h)) a1 ha1)
theorem Qrz (n:Nod):Qaf prog 158 [.agg (nodA n)] (.agg [aI n.ino,aI n.kind,aI n.links]):=by
 exact Qac func158 (let R:AV:=.agg [aI n.ino,aI n.kind,aI n.links];
 .new fun b1=>.new fun b2=>.u 8 [b1,b1,b1,b2]<|
 .fi R [b2])
theorem Zjj {x y:Nod} (h1:x.ino=y.ino) (h2:x.kind=y.kind) (h3:x.links=y.links) (h4:x.text=y.text) (h5:x.l=y.l):x=y:=by cases x;cases y;simp_all
theorem Qor (a b:Nod) (oka:OkN a) (okb:OkN b):Qaf prog 100 [.agg (nodA a),.agg (nodA b)] (aB (dP (a=b))):=by
 have ha:=oka.2.2.2.2.1;have hb:=okb.2.2.2.2.1;exact Qac func100 (let R:AV:=aB (dP (a=b));
 .new fun b1=>.new fun b2=>.r 1<|.r 1<|.ord [0,1,3,4,2,5,6,7,8,9,10,11,12,13,14,15,16,17,18,19,20,21]<|.u 4 [b1,b2]<|
 .call (Qrz a)<|
 .call (Qrz b)<|
 .binV .eql 189 (eqInt3 189 a.ino a.kind a.links b.ino b.kind b.links (by kernel_rfl) (Zf7 189 3 (by kernel_rfl) (by kernel_rfl) (fun _=>by kernel_rfl) a.ino a.kind a.links b.ino b.kind b.links))<|
 .r 1<|.br 13 (a.ino==b.ino&&a.kind==b.kind&&a.links==b.links) (fun q1=>have p1:=booT q1;.u 7 [b1,b2]<|
 .br 20 (a.text==b.text) (fun q2=>have p2:=beqT q2;.u 4 [b1,b2]<|
 .call (Zh1 a.l b.l (by assumption) (by assumption))<|
 .r 2<|.f R [] (aB (dP (a.l=b.l))) (by
  refine sE ?_;constructor
  ·intro h;simp only [Bool.and_eq_true,beq_iff_eq,Qas] at *;refine Zjj ?_ ?_ ?_ ?_ ?_<;>simp_all
  ·intro h;subst h;simp_all [Qas]))
 <| fun q2=>have p2:=beqF q2;.r 7<|.f R [] (aB false) (by
  refine sF (fun h=>?_);subst h;simp_all [Qab]))
 <| fun q1=>have p1:=booF q1;.r 14<|.f R [] (aB false) (by
  refine sF (fun h=>?_);subst h;simp_all [Qab]))
theorem Qib (a b:Nod) (oka:OkN a) (okb:OkN b):Qaf prog 57 [.agg (nodA a),.agg (nodA b)] (aB (dP (a=b))):=by
 have ha:=oka.2.2.2.2.1;have hb:=okb.2.2.2.2.1;exact Qac func57 (let R:AV:=aB (dP (a=b));
 .new fun b1=>.new fun b2=>.r 1<|.u 4 [b1,b2]<|
 .call (Za8 a.l b.l (by assumption) (by assumption))<|
 .r 1<|.r 2<|.bb 12 (dP (a.l=b.l)) (fun p1=>.u 7 [b1,b2]<|
 .be 19 a.ino b.ino (fun p2=>.u 7 [b1,b2]<|
 .be 26 a.kind b.kind (fun p3=>.u 7 [b1,b2]<|
 .be 33 a.links b.links (fun p4=>.u 7 [b1,b2]<|
 .f R [] (aB (a.text==b.text)) (by
  refine sE ?_;constructor
  ·intro h;simp only [Bool.and_eq_true,beq_iff_eq,Qas] at *;refine Zjj ?_ ?_ ?_ ?_ ?_<;>simp_all
  ·intro h;subst h;simp_all [Qas]))
 <| fun p4=>.r 7<|.f R [] (aB false) (by
  refine sF (fun h=>?_);subst h;simp_all [Qab]))
 <| fun p3=>.r 14<|.f R [] (aB false) (by
  refine sF (fun h=>?_);subst h;simp_all [Qab]))
 <| fun p2=>.r 21<|.f R [] (aB false) (by
  refine sF (fun h=>?_);subst h;simp_all [Qab]))
 <| fun p1=>.r 28<|.f R [] (aB false) (by
  refine sF (fun h=>?_);subst h;simp_all [Qab]))
end Go.Proofs.YtahlldgocpabjaaGreat
