import Derived.Test.YtahlldgocpabjaaGreatTreV13
import Derived.Test.YtahlldgocpabjaaGreatVc
import Derived.Test.YtahlldgocpabjaaGreatMrgI
import Derived.Test.YtahlldgocpabjaaGreatMrgJ
import Derived.MapKept
set_option maxRecDepth 100000
set_option maxHeartbeats 8000000
set_option linter.unusedVariables false
set_option linter.unusedSimpArgs false
namespace Go.Proofs.YtahlldgocpabjaaGreat
open Go Go.RowKit Copyhold Go.Proofs.Tryz
theorem Zaw (f:Fsy) (okf:OkF f):Qaf prog 79 [.agg (fsyA f)] (aB (dP (Qam f))):=by
 have hfl:=okf.2.1;exact Qac func79 (let R:AV:=aB (dP (Qam f));
 .new fun b1=>.r 1<|.u 3 [b1]<|
 .lm 7 f.l nodA<|.r 2<|.br 9 (decide ((f.l.length:Int)>256)) (fun q1=>have p1:=decT q1;.r 4<|.r 1<|.f R [] (aB false) (by
  refine sF (fun h=>?_);obtain ⟨g1,g2,g3⟩:=h;omega))
 <| fun q1=>have p1:=decF q1;.u 4 [b1]<|
 .br 13 (decide (f.next<1)) (fun q2=>have p2:=decT q2;.r 1<|.f R [] (aB false) (by
  refine sF (fun h=>?_);obtain ⟨g1,g2,g3⟩:=h;omega))
 <| fun q2=>have p2:=decF q2;.u 3 [b1]<|
 .lm 16 f.l nodA<|.r 1<|let L1:Lp (Nat):=⟨fun a1=>⟨[(1,.ptr 1 b1 0),(15,.sl 5 false (f.l.map nodA)),(16,aI (f.l.length:Int)),(17,aI (a1:Int))],[(1,.box b1 28 (fsyA f))]⟩,fun a1=>f.l.length-a1,fun a1=>a1≤f.l.length∧Qa1 (Za1 f) f.l a1⟩
 .lp L1 0 ⟨Nat.zero_le _,Qa1.zero _ _⟩ [(17,aI 0)] [] ⟨sR,sR,sR,sO,trivial⟩ bb1 fun a1 ha1=>
 (fun (k:Nat) (hH1:k≤f.l.length∧Qa1 (Za1 f) f.l k)=>.r 1<|.br 18 (decide ((k:Int)<(f.l.length:Int))) (fun q3=>have p3:=decT q3;.r 1<|.idxM f.l nodA k (m:=(k:Int)) rfl (by omega) fun x1 hx1=>
 have okx1:=okf.2.2 x1 (List.mem_of_getElem? hx1);.r 1<|.new fun b2=>.u 2 [b2]<|
 .u 1 [b2]<|
 .call (Qih x1 okx1)<|
 .r 2<|.br 25 (!(dP (nodP x1))) (fun q4=>have q4:=notT q4;have p4:=booF q4;.r 6<|.r 1<|.f R [] (aB false) (by
  refine sF (fun h=>?_);obtain ⟨g1,g2,g3⟩:=h.2.2.at hx1
  first | omega | exact Qab.1 (by assumption) g1 ))
 <| fun q4=>have q4:=notF q4;have p4:=booT q4;.u 6 [b2,b1]<|
 .br 31 (decide (x1.ino≥f.next)) (fun q5=>have p5:=decT q5;.r 1<|.f R [] (aB false) (by
  refine sF (fun h=>?_);obtain ⟨g1,g2,g3⟩:=h.2.2.at hx1
  first | omega | exact Qab.1 (by assumption) g1 ))
 <| fun q5=>have p5:=decF q5;.ord [0,1,2,3,4,5,6,7,8,9,10,11,12,13]<|.r 3<|.br 34 (decide ((k:Int)>0)) (fun q6=>have p6:=decT q6;.run 4 [b1=b1,rng .i64 ((k:Int)-1)] ⟨rfl,Qaj (by omega) (by omega),trivial⟩<|
 .idxM f.l nodA (k-1) (m:=(k:Int)-1) (by omega) (by omega) fun x2 hx2=>
 have okx2:=okf.2.2 x2 (List.mem_of_getElem? hx2);.u 6 [b2]<|
 .br 45 (decide (x2.ino≥x1.ino)) (fun q7=>have p7:=decT q7;.r 1<|.f R [] (aB false) (by
  refine sF (fun h=>?_);obtain ⟨g1,g2,g3⟩:=h.2.2.at hx1
  first | omega | exact Qab.1 (by assumption) g1 | (have:=g3 _ (by omega) hx2;omega)))
 <| fun q7=>have p7:=decF q7;.run 2 [rng .i64 ((k:Int)+1)] ⟨Qaj (by omega) (by omega),trivial⟩<|
 .bk L1 k (k+1) ⟨by omega,hH1.2.step hx1 ⟨Qas.1 (by assumption),by omega,by intro d h0 hd;first | omega | (rw [hd] at hx2;obtain rfl:=Option.some.inj hx2;omega)⟩⟩ (show f.l.length-(k+1)<f.l.length-k from (by omega)) [(17,aI ((k:Int)+1))] [] ⟨sR,sR,sR,sO,trivial⟩ bb1)
 <| fun q6=>have p6:=decF q6;.r 11<|.run 2 [rng .i64 ((k:Int)+1)] ⟨Qaj (by omega) (by omega),trivial⟩<|
 .bk L1 k (k+1) ⟨by omega,hH1.2.step hx1 ⟨Qas.1 (by assumption),by omega,by intro d h0 hd;omega⟩⟩ (show f.l.length-(k+1)<f.l.length-k from (by omega)) [(17,aI ((k:Int)+1))] [] ⟨sR,sR,sR,sO,trivial⟩ bb1)
 <| fun q3=>have p3:=decF q3;.r 1<|.f R [] (aB true) (by exact sT ⟨by omega,by omega,hH1.2.full (by omega)⟩)) a1 ha1)
theorem Qyb (f:Fsy) (okf:OkF f):Qaf prog 84 [.agg (fsyA f)] (aB (dP (Qam f))):=by
 have hfl:=okf.2.1;exact Qac func84 (let R:AV:=aB (dP (Qam f));
 .new fun b1=>.r 1<|.u 3 [b1]<|
 .lm 7 f.l nodA<|.r 2<|.br 9 (decide ((f.l.length:Int)>256)) (fun q1=>have p1:=decT q1;.r 4<|.r 1<|.f R [] (aB false) (by
  refine sF (fun h=>?_);obtain ⟨g1,g2,g3⟩:=h;omega))
 <| fun q1=>have p1:=decF q1;.u 4 [b1]<|
 .br 13 (decide (f.next<1)) (fun q2=>have p2:=decT q2;.r 1<|.f R [] (aB false) (by
  refine sF (fun h=>?_);obtain ⟨g1,g2,g3⟩:=h;omega))
 <| fun q2=>have p2:=decF q2;.r 1<|let L1:Lp (Nat):=⟨fun a1=>⟨[(1,.ptr 1 b1 0),(3,aI (a1:Int))],[(1,.box b1 28 (fsyA f))]⟩,fun a1=>f.l.length-a1,fun a1=>a1≤f.l.length∧Qa1 (Za1 f) f.l a1⟩
 .lp L1 0 ⟨Nat.zero_le _,Qa1.zero _ _⟩ [(3,aI 0)] [] ⟨sR,sO,trivial⟩ bb1 fun a1 ha1=>
 (fun (k:Nat) (hH1:k≤f.l.length∧Qa1 (Za1 f) f.l k)=>.u 4 [b1]<|
 .lm 17 f.l nodA<|.r 1<|.br 18 (decide ((k:Int)<(f.l.length:Int))) (fun q3=>have p3:=decT q3;.u 3 [b1]<|
 .idxM f.l nodA k (m:=(k:Int)) rfl (by omega) fun x1 hx1=>
 have okx1:=okf.2.2 x1 (List.mem_of_getElem? hx1);.r 1<|.call (Qgn x1 okx1)<|
 .r 1<|.ord [0,1,2,3,4,5,6,7,8,9,10,11,12,13,14,15,16,17,18,19,20,21,22,23,24,25,26,27,28,29,30,31,32]<|.r 3<|.br 29 (!(dP (nodP x1))) (fun q4=>have q4:=notT q4;have p4:=booF q4;.r 30<|.r 1<|.f R [] (aB false) (by
  refine sF (fun h=>?_);obtain ⟨g1,g2,g3⟩:=h.2.2.at hx1
  first | omega | exact Qab.1 (by assumption) g1 ))
 <| fun q4=>have q4:=notF q4;have p4:=booT q4;.u 3 [b1]<|
 .idx k (m:=(k:Int)) (xs:=f.l.map nodA) (e:=nodA x1) rfl (map_some hx1)<|
 .u 7 [b1]<|
 .br 40 (decide (x1.ino≥f.next)) (fun q5=>have p5:=decT q5;.r 19<|.r 1<|.f R [] (aB false) (by
  refine sF (fun h=>?_);obtain ⟨g1,g2,g3⟩:=h.2.2.at hx1
  first | omega | exact Qab.1 (by assumption) g1 ))
 <| fun q5=>have p5:=decF q5;.r 3<|.br 43 (decide ((k:Int)>0)) (fun q6=>have p6:=decT q6;.run 4 [b1=b1,rng .i64 ((k:Int)-1)] ⟨rfl,Qaj (by omega) (by omega),trivial⟩<|
 .idxM f.l nodA (k-1) (m:=(k:Int)-1) (by omega) (by omega) fun x2 hx2=>
 have okx2:=okf.2.2 x2 (List.mem_of_getElem? hx2);.u 5 [b1]<|
 .idx k (m:=(k:Int)) (xs:=f.l.map nodA) (e:=nodA x1) rfl (map_some hx1)<|
 .r 5<|.br 59 (decide (x2.ino≥x1.ino)) (fun q7=>have p7:=decT q7;.r 1<|.f R [] (aB false) (by
  refine sF (fun h=>?_);obtain ⟨g1,g2,g3⟩:=h.2.2.at hx1
  first | omega | exact Qab.1 (by assumption) g1 | (have:=g3 _ (by omega) hx2;omega)))
 <| fun q7=>have p7:=decF q7;.run 3 [rng .i64 ((k:Int)+1)] ⟨Qaj (by omega) (by omega),trivial⟩<|
 .bk L1 k (k+1) ⟨by omega,hH1.2.step hx1 ⟨Qas.1 (by assumption),by omega,by intro d h0 hd;first | omega | (rw [hd] at hx2;obtain rfl:=Option.some.inj hx2;omega)⟩⟩ (show f.l.length-(k+1)<f.l.length-k from (by omega)) [(3,aI ((k:Int)+1))] [] ⟨sR,sO,trivial⟩ bb1)
 <| fun q6=>have p6:=decF q6;.r 16<|.run 3 [rng .i64 ((k:Int)+1)] ⟨Qaj (by omega) (by omega),trivial⟩<|
 .bk L1 k (k+1) ⟨by omega,hH1.2.step hx1 ⟨Qas.1 (by assumption),by omega,by intro d h0 hd;omega⟩⟩ (show f.l.length-(k+1)<f.l.length-k from (by omega)) [(3,aI ((k:Int)+1))] [] ⟨sR,sO,trivial⟩ bb1)
 <| fun q3=>have p3:=decF q3;.r 1<|.f R [] (aB true) (by exact sT ⟨by omega,by omega,hH1.2.full (by omega)⟩)) a1 ha1)
theorem Qa9 (f:Fsy) (i:Int) (hl:f.l.length≤8796093022207):Qaf prog 67 [.agg (fsyA f),aI i] (.tup [.agg (nodA (Qaa f i)),aB (Qau f i)]):=by
 exact Qac func67 (
 .new fun b1=>.new fun b2=>.r 1<|.r 1<|let L1:Lp (Nat):=⟨fun a1=>⟨[(1,aI i),(2,.ptr 2 b1 0),(4,.ptr 4 b2 0),(6,aI (a1:Int))],[(2,.box b1 28 (fsyA f)),(4,.box b2 84 [aI 0,aI 0,aI 0,aS ([]),aN])]⟩,fun a1=>f.l.length-a1,fun a1=>a1≤f.l.length∧Qa1 (fun _ n=>isNo i n=false) f.l a1⟩
 .lp L1 0 ⟨Nat.zero_le _,Qa1.zero _ _⟩ [(6,aI 0)] [] ⟨sR,sR,sR,sO,trivial⟩ bb2 fun a1 ha1=>
 (fun (k:Nat) (hH1:k≤f.l.length∧Qa1 (fun _ n=>isNo i n=false) f.l k)=>.u 4 [b1]<|
 .lm 10 f.l nodA<|.r 1<|.br 11 (decide ((k:Int)<(f.l.length:Int))) (fun q1=>have p1:=decT q1;.u 3 [b1]<|
 .idxM f.l nodA k (m:=(k:Int)) rfl (by omega) fun x1 hx1=>
 .r 4<|.br 21 (x1.ino==i) (fun q2=>have p2:=beqT q2;.u 3 [b1]<|
 .idx k (m:=(k:Int)) (xs:=f.l.map nodA) (e:=nodA x1) rfl (map_some hx1)<|
 .u 3 [b2]<|
 .f (.tup [.agg (nodA (Qaa f i)),aB (Qau f i)]) [b2] (.tup [.agg (nodA x1),aB true]) (by
  obtain ⟨e1,e2⟩:=Qu4 hH1.2 hx1 (by assumption);rw [show Qaa f i=x1 from by unfold Qaa;rw [e2];rfl,show Qau f i=true from e1];exact sR))
 <| fun q2=>have p2:=beqF q2;.run 3 [rng .i64 ((k:Int)+1)] ⟨Qaj (by omega) (by omega),trivial⟩<|
 .bk L1 k (k+1) ⟨by omega,hH1.2.step hx1 (by assumption)⟩ (show f.l.length-(k+1)<f.l.length-k from (by omega)) [(6,aI ((k:Int)+1))] [] ⟨sR,sR,sR,sO,trivial⟩ bb2)
 <| fun q1=>have p1:=decF q1;.u 3 [b2]<|
 .f (.tup [.agg (nodA (Qaa f i)),aB (Qau f i)]) [b2] (.tup [.agg [aI 0,aI 0,aI 0,aS ([]),aN],aB false]) (by
  obtain ⟨e1,e2⟩:=Zds (hH1.2.full (by omega));rw [show Qaa f i=nod0 from by unfold Qaa;rw [e2];rfl,show Qau f i=false from e1];exact Sub.tups ⟨Sub.aggs ⟨sR,sR,sR,sR,Sub.nil _ _,trivial⟩,sR,trivial⟩)) a1 ha1)
theorem Zjv {x y:Fsy} (h1:x.l=y.l) (h2:x.next=y.next):x=y:=by cases x;cases y;simp_all
theorem Qkl (f g:Fsy) (okf:OkF f) (okg:OkF g):Qaf prog 29 [.agg (fsyA f),.agg (fsyA g)] (aB (dP (f=g))):=by
 have hb1:=okf.2.1;have hb2:=okg.2.1;exact Qac func29 (let R:AV:=aB (dP (f=g));
 .new fun b1=>.new fun b2=>.r 1<|.u 6 [b1,b2]<|
 .br 12 (f.next != g.next) (fun q1=>have p1:=bneT q1;.r 8<|.r 1<|.f R [] (aB false) (by exact sF (fun h=>by subst h;omega)))
 <| fun q1=>have p1:=bneF q1;.u 3 [b1]<|
 .lm 15 f.l nodA<|.u 3 [b2]<|
 .lm 18 g.l nodA<|.r 2<|.br 20 ((f.l.length:Int) != (g.l.length:Int)) (fun q2=>have p2:=bneT q2;.r 1<|.f R [] (aB false) (by exact sF (fun h=>by subst h;omega)))
 <| fun q2=>have p2:=bneF q2;.r 1<|let L1:Lp (Nat):=⟨fun a1=>⟨[(2,.ptr 2 b1 0),(3,.ptr 3 b2 0),(5,aI (a1:Int))],[(2,.box b1 28 (fsyA f)),(3,.box b2 28 (fsyA g))]⟩,fun a1=>f.l.length-a1,fun a1=>a1≤f.l.length∧f.l.take a1=g.l.take a1⟩
 .lp L1 0 ⟨Nat.zero_le _,rfl⟩ [(5,aI 0)] [] ⟨sR,sR,sO,trivial⟩ bb2 fun a1 ha1=>
 (fun (k:Nat) (hH1:k≤f.l.length∧f.l.take k=g.l.take k)=>.u 4 [b1]<|
 .lm 24 f.l nodA<|.r 1<|.br 25 (decide ((k:Int)<(f.l.length:Int))) (fun q3=>have p3:=decT q3;.ord [0,1,2,3,4,5,6,7,8,9,10,11]<|.u 3 [b1]<|
 .idxM f.l nodA k (m:=(k:Int)) rfl (by omega) fun x1 hx1=>
 have okx1:=okf.2.2 x1 (List.mem_of_getElem? hx1);.u 4 [b2]<|
 .idxM g.l nodA k (m:=(k:Int)) rfl (by omega) fun x2 hx2=>
 have okx2:=okg.2.2 x2 (List.mem_of_getElem? hx2);.r 1<|.call (Qib x1 x2 okx1 okx2)<|
 .r 1<|.r 2<|.br 40 (!(dP (x1=x2))) (fun q4=>have q4:=notT q4;have p4:=booF q4;.r 1<|.f R [] (aB false) (by
  refine sF (fun h=>?_);rw [h,hx2] at hx1;obtain rfl:=Option.some.inj hx1;simp_all [Qas,Qab]))
 <| fun q4=>have q4:=notF q4;have p4:=booT q4;.run 3 [rng .i64 ((k:Int)+1)] ⟨Qaj (by omega) (by omega),trivial⟩<|
 .bk L1 k (k+1) ⟨by omega,by rw [Qak hx1,Qak hx2,hH1.2];first | (congr 2;done) | (congr 2;exact Qas.1 (by assumption))⟩ (show f.l.length-(k+1)<f.l.length-k from (by omega)) [(5,aI ((k:Int)+1))] [] ⟨sR,sR,sO,trivial⟩ bb2)
 <| fun q3=>have p3:=decF q3;.r 1<|.f R [] (aB true) (by
  refine sT (Zjv ?_ (by omega));have h:=hH1.2;rw [Qav (by omega),Qav (by omega)] at h;exact h)) a1 ha1)
def wN (n:Nod):Nat:=n.l.length
def fewF (f:Fsy):Prop:=f.l.length+(f.l.map wN).sum≤200∧∀ n∈f.l,n.text.length≤5000
def FewK (f:Fsy) (k n:Nat):Prop:=k≤f.l.length∧n=f.l.length+((f.l.take k).map wN).sum∧(∀ m∈f.l.take k,m.text.length≤5000)∧n≤100000000000000
theorem few0 {f:Fsy} (h:f.l.length≤8796093022207):FewK f 0 f.l.length:=⟨Nat.zero_le _,by simp,fun m h=>by simp at h,by omega⟩
theorem Zhz {f:Fsy} {k n:Nat} {x:Nod} (h:FewK f k n) (hx:f.l[k]?=some x) (hn:n≤200) (ht:x.text.length≤5000) (hb:x.l.length≤8796093022207):FewK f (k+1) (n+x.l.length):=by
 obtain ⟨h1,h2,h3,_⟩:=h;refine ⟨Qan hx,by rw [Qlf wN hx,h2];simp only [wN];omega,fun m hm=>?_,by omega⟩;rcases Qgw hx hm with h | rfl
 ·exact h3 m h
 ·exact ht
theorem Zdv {f:Fsy} {k n:Nat} (h:FewK f k n) (h3:¬ (k:Int)<f.l.length∨¬ (n:Int)≤200):decide ((n:Int)≤200)=true↔fewF f:=by
 obtain ⟨hk,h1,h2,_⟩:=h;rw [decide_eq_true_iff];refine ⟨fun hn=>?_,fun hf=>?_⟩
 ·have hk':f.l.length≤k:=by omega
  rw [Qav hk'] at h1 h2;exact ⟨by omega,h2⟩
 ·have:=hf.1;have:=Qeq wN f.l k;omega
theorem Qjs (f:Fsy) (okf:OkF f):Qaf prog 12 [.agg (fsyA f)] (aB (dP (fewF f))):=by
 have hfl:=okf.2.1;exact Qac func12 (let R:AV:=aB (dP (fewF f));
 .new fun b1=>.r 1<|.u 3 [b1]<|
 .lm 7 f.l nodA<|.r 1<|.r 1<|let L1:Lp (Nat × Nat):=⟨fun a1=>⟨[(1,.ptr 1 b1 0),(4,aI (a1.1:Int)),(3,aI (a1.2:Int))],[(1,.box b1 28 (fsyA f))]⟩,fun a1=>f.l.length-a1.1,fun a1=>FewK f a1.1 a1.2⟩
 .lp L1 (0,f.l.length) (show FewK f 0 f.l.length from (few0 hfl)) [(4,aI 0)] [] ⟨sR,sO,sR,trivial⟩ bb1 fun a1 ha1=>
 (fun (k:Nat) (n:Nat) (hH1:FewK f k n)=>have hk1:=hH1.1;have hk2:=hH1.2.2.2;.u 4 [b1]<|
 .lm 11 f.l nodA<|.r 2<|.bd 13 ((k:Int)<(f.l.length:Int)) (fun p1=>.r 3<|.bd 16 ((n:Int)≤200) (fun p2=>.u 4 [b1]<|
 .idxM f.l nodA k (m:=(k:Int)) rfl (by omega) fun x1 hx1=>
 have okx1:=okf.2.2 x1 (List.mem_of_getElem? hx1);have blx1:=okx1.2.2.2.2.1;.r 3<|.lm 26 x1.l entA<|.run 2 [rng .i64 ((n:Int)+(x1.l.length:Int))] ⟨Qaj (by omega) (by omega),trivial⟩<|
 .u 3 [b1]<|
 .idx k (m:=(k:Int)) (xs:=f.l.map nodA) (e:=nodA x1) rfl (map_some hx1)<|
 .r 4<|.bd 35 (((x1.text).length:Int)>5000) (fun p3=>.r 1<|.f (aB (dP (fewF f))) [] (aB false) (by exact sF (fun h=>by have:=h.2 _ (List.mem_of_getElem? hx1);omega)))
 <| fun p3=>.run 3 [rng .i64 ((k:Int)+1)] ⟨Qaj (by omega) (by omega),trivial⟩<|
 .bk L1 (k,n) ((k+1),(n+x1.l.length)) (show FewK f (k+1) (n+x1.l.length) from (Zhz hH1 hx1 (by omega) (by omega) (by omega))) (show f.l.length-(k+1)<f.l.length-k from (by omega)) [(4,aI ((k:Int)+1)),(3,aI ((n:Int)+(x1.l.length:Int)))] [] ⟨sR,sO,sO,trivial⟩ bb1)
 <| fun p2=>.r 3<|.f R [] (aB (decide ((n:Int)≤200))) (by exact sE (Zdv hH1 (by omega))))
 <| fun p1=>.r 3<|.r 3<|.f R [] (aB (decide ((n:Int)≤200))) (by exact sE (Zdv hH1 (by omega)))) a1.1 a1.2 ha1)
def hasB (U:List Int) (i:Int):Bool:=U.any fun z=>z==i
theorem has_no {U:List Int} {i:Int} (h:AllQ (fun _ z=>(z==i)=false) U):hasB U i=false:=by
 unfold hasB;rw [List.any_eq_false];intro x hx;obtain ⟨j,hj⟩:=List.getElem?_of_mem hx;rw [h j x hj];simp
theorem Zlt {U:List Int} {k:Nat} {x i:Int} (hx:U[k]?=some x) (h:(x==i)=true):hasB U i=true:=
 List.any_eq_true.2 ⟨x,List.mem_of_getElem? hx,h⟩
theorem Qhq {U:List Int} {i:Int}:hasB U i=true↔i∈U:=by
 unfold hasB;rw [List.any_eq_true];exact ⟨fun ⟨x,hx,he⟩=>by rw [beq_iff_eq] at he;exact he ▸ hx,fun h=>⟨i,h,by simp⟩⟩
def addE (U:List Int) (l:List Ent):List Int:=l.foldl (fun U e=>if hasB U e.ino then U else U++[e.ino]) U
theorem Qh2 {U:List Int} {l:List Ent} {k:Nat} {x:Ent} (h:l[k]?=some x) (q:hasB (addE U (l.take k)) x.ino=true):addE U (l.take (k+1))=addE U (l.take k):=by
 unfold addE at q ⊢;rw [Qak h,List.foldl_append];simp [q]
theorem Qku {U:List Int} {l:List Ent} {k:Nat} {x:Ent} (h:l[k]?=some x) (q:hasB (addE U (l.take k)) x.ino=false):addE U (l.take (k+1))=addE U (l.take k)++[x.ino]:=by
 unfold addE at q ⊢;rw [Qak h,List.foldl_append];simp [q]
theorem Qxr (l:List Ent):∀ U:List Int,U.length≤(addE U l).length:=by
 induction l with
 | nil=>exact fun U=>Nat.le_refl _
 | cons e r ih=>
  intro U;show _≤(addE (if hasB U e.ino then U else U++[e.ino]) r).length;refine Nat.le_trans ?_ (ih _)
  split
  ·exact Nat.le_refl _
  ·simp
def Qij (f:Fsy):List Int:=f.l.flatMap fun n=>n.l.map Ent.ino
theorem Qwy (f:Fsy):(Qij f).length=(f.l.map wN).sum:=by
 unfold Qij;rw [List.length_flatMap];congr 1;refine List.map_congr_left fun n _=>?_;rw [List.length_map];rfl
theorem Qp1:∀ {U A:List Int},U.Nodup→(∀ z∈U,z∈A)→U.length≤A.length
 | [],A,_,_=>Nat.zero_le _
 | x :: r,A,hn,hs=>by
  obtain ⟨h1,h2⟩:=List.nodup_cons.1 hn;have hx:x∈A:=hs x (by simp);have:=Qp1 (U:=r) (A:=A.erase x) h2 fun z hz=>(List.mem_erase_of_ne (a:=z) (b:=x) (fun e=>h1 (by rw [← e];exact hz))).2 (hs z (by simp [hz]));rw [List.length_erase_of_mem hx] at this;have:=List.length_pos_of_mem hx;simp only [List.length_cons];omega
def Dst (f:Fsy) (U:List Int):Prop:=U.Nodup∧∀ z∈U,z∈Qij f
theorem Dst.le {f:Fsy} {U:List Int} (h:Dst f U) (hf:fewF f):U.length≤200:=by
 have:=Qp1 h.1 h.2;rw [Qwy] at this;have:=hf.1;omega
theorem Dst.nil (f:Fsy):Dst f []:=⟨List.nodup_nil,fun z h=>by cases h⟩
theorem Qfc {f:Fsy}:∀ {l:List Ent} {U:List Int},Dst f U→(∀ e∈l,e.ino∈Qij f)→Dst f (addE U l)
 | [],U,h,_=>h
 | e :: r,U,h,hl=>by
  show Dst f (addE (if hasB U e.ino then U else U++[e.ino]) r);refine Qfc ?_ fun e' he=>hl e' (by simp [he]);cases hq:hasB U e.ino with
  | true=>exact h
  | false=>
   have hne:e.ino ∉ U:=fun hm=>by rw [Qhq.2 hm] at hq;cases hq
   refine ⟨?_,fun z hz=>?_⟩
   ·show (U++[e.ino]).Nodup;rw [List.nodup_append];exact ⟨h.1,by simp,fun a ha b hb=>by obtain rfl:=List.mem_singleton.1 hb;exact fun e=>hne (e ▸ ha)⟩
   ·rcases List.mem_append.1 hz with hz | hz
    ·exact h.2 z hz
    ·obtain rfl:=List.mem_singleton.1 hz;exact hl e (by simp)
theorem Qfb {f:Fsy} {i:Int} {e:Ent} (h:e∈(Qaa f i).l):e.ino∈Qij f:=by
 unfold Qaa at h;cases hf:f.l.find? (isNo i) with
 | none=>rw [hf] at h;cases h
 | some n=>
  rw [hf] at h;exact List.mem_flatMap.2 ⟨n,List.mem_of_find?_eq_some hf,List.mem_map_of_mem h⟩
theorem Qdg {f:Fsy} {U:List Int} (h:Dst f U) (i:Int) (k:Nat):Dst f (addE U ((Qaa f i).l.take k)):=
 Qfc h fun e he=>Qfb (List.mem_of_mem_take he)
def goU (f:Fsy):Nat→List Int→Nat→List Int
 | 0,U,_=>U
 | n+1,U,p=>
  match U[p]? with
  | some i=>goU f n (addE U (Qaa f i).l) (p+1)
  | none=>U
def Qcr (f:Fsy) (i:Int):List Int:=goU f 300 (addE [] (Qaa f i).l) 0
def UH (f:Fsy) (i:Int) (U:List Int) (p:Nat):Prop:=Dst f U∧p≤U.length∧goU f (300-p) U p=Qcr f i
theorem UH.zero (f:Fsy) (i:Int) {j:Nat} (h:(Qaa f i).l.length≤j):UH f i (addE [] ((Qaa f i).l.take j)) 0:=by
 refine ⟨Qdg (Dst.nil f) i j,Nat.zero_le _,?_⟩;rw [Qav h];rfl
theorem UH.step {f:Fsy} {i:Int} {U:List Int} {p j:Nat} {z:Int} (hf:fewF f) (h:UH f i U p) (hz:U[p]?=some z) (hj:(Qaa f z).l.length≤j):UH f i (addE U ((Qaa f z).l.take j)) (p+1):=by
 obtain ⟨h1,h2,h3⟩:=h;have hp:=Qan hz;have hl:=h1.le hf;refine ⟨Qdg h1 z j,by have:=Qxr ((Qaa f z).l.take j) U;omega,?_⟩;rw [Qav hj,← h3,show 300-p=(300-(p+1))+1 from by omega];simp only [goU,hz]
theorem UH.done {f:Fsy} {i:Int} {U:List Int} {p:Nat} (h:UH f i U p) (hp:U.length≤p):Qcr f i=U:=by
 rw [← h.2.2];cases 300-p with
 | zero=>rfl
 | succ n=>simp only [goU,List.getElem?_eq_none hp]
theorem Zdi {f:Fsy}:∀ (n:Nat) {U:List Int} (p:Nat),Dst f U→Dst f (goU f n U p)
 | 0,U,p,h=>h
 | n+1,U,p,h=>by
  simp only [goU]
  split
  ·exact Zdi n (p+1) (Qfc h fun e he=>Qfb he)
  ·exact h
def isE (i:Int) (e:Ent):Bool:=e.ino==i
def cntE (i:Int) (n:Nod):Nat:=n.l.countP (isE i)
def Qou (f:Fsy) (i:Int):Nat:=(f.l.map (cntE i)).sum
def cntK (i:Int) (l:List Ent) (j:Nat):Nat:=(l.take j).countP (isE i)
theorem Zio {i:Int} {l:List Ent} {j:Nat} {x:Ent} (h:l[j]?=some x) (q:(x.ino==i)=true):cntK i l (j+1)=cntK i l j+1:=by
 unfold cntK;rw [Qak h,List.countP_append];simp [isE,q]
theorem Zmb {i:Int} {l:List Ent} {j:Nat} {x:Ent} (h:l[j]?=some x) (q:(x.ino==i)=false):cntK i l (j+1)=cntK i l j:=by
 unfold cntK;rw [Qak h,List.countP_append];simp [isE,q]
theorem Zip {i:Int} {n:Nod} {j:Nat} (h:n.l.length≤j):cntK i n.l j=cntE i n:=by unfold cntK cntE;rw [Qav h]
theorem Zmc (i:Int) (l:List Ent) (j:Nat):cntK i l j≤l.length:=Nat.le_trans List.countP_le_length (by rw [List.length_take];omega)
theorem Zei (i:Int):∀ l:List Nod,(l.map (cntE i)).sum≤(l.map wN).sum
 | []=>Nat.le_refl _
 | n :: r=>by
  have:=Zei i r;have:cntE i n≤wN n:=List.countP_le_length;simp only [List.map_cons,List.sum_cons];omega
def Qk9 (f:Fsy) (i:Nat) (n:Nod):Bool:=!(decide ((i:Int)>0)&&(decide (n.links<1)||(n.kind==2&&(decide (n.links>1)||!(hasB (Qcr f 1) n.ino)))))
def Qus (f:Fsy) (i:Nat) (n:Nod):Prop:=n.links=(Qou f n.ino:Int)∧Qk9 f i n=true∧AllQ (fun _ e=>Qau f e.ino=true) n.l
def Qeu (f:Fsy):Prop:=Qam f∧(∃ n,f.l[0]?=some n∧n.ino=1∧n.kind=2∧n.links=0)∧AllQ (Qus f) f.l
def Qq4 (P:Program) (f:FuncId) (args:List AV) (y:Bx) (r:AV):Prop:=
 ∀ (D:Nat→Prop) (w:World) (vs:Array Value),(∀ b,D b→b<w.heap.size)→Qc0 D w args vs→BoxR D w y→(∀ g,y.blk=some g→¬ D g) →
  Calls P f vs w (fun e w'=>∃ v,∃ D':Nat→Prop,e=.returned v∧Below 0 w w'∧(∀ k,y.blk ≠ some k→k<w.heap.size→w'.heap[k]?=w.heap[k]?)∧(∀ b,D b→D' b) ∧
   (∀ b,D' b→b<w'.heap.size∧(D b∨y.blk=some b∨w.heap.size≤b))∧Ra D' w' r v)
theorem Zg6 {P:Program} {f:FuncId} {F:Func} {code:Code} {args:List AV} {q:Nat} {y:Bx} {r:AV} (n:Nat) (ct:Ct P) (hf:P.funcs[f]?=some F) (hb:F.body=some code)
  (hk:(decide (args.length≤F.ntmps)&&(P.follows .mixedOrders&&(F.results.toList.all fun rv=>decide ((match rv with | .tmp t=>t | .cell t _=>t)<F.ntmps))))=true)
  (h:vcC ct=vc P F (.val r) n ct (.code code) [] ⟨Qcn args 0,[(q,y)]⟩):Qq4 P f args y r:=by
 simp only [Bool.and_eq_true] at hk;have hsz:args.length≤F.ntmps:=of_decide_eq_true hk.1;have hn:=hk.2.2;have hv:vc P F (.val r) n ct (.code code) [] ⟨Qcn args 0,[(q,y)]⟩:=h ▸ Qaw ct;intro D w vs hD hvs hy hyD;refine calls_of_wp hf hb ?_
 let c:Cx:=⟨w.heap.size,w,F.ntmps,D,fun k=>y.blk=some k⟩
 have hawp:AWp c P code (FinG P F (.val r)) (LS.mk (Qcn args 0) [(q,y)]).fs:=Qaz (c:=c) rfl hk.2.1 n ct (.code code) [] _ hv;have htm:∀ t,(LS.mk (Qcn args 0) [(q,y)]).fs.tm t=args.getD t .any:=fun t=>by
  show lget (Qcn args 0) t=_;rw [Qej];simp
 have hbx:∀ i x,(LS.mk (Qcn args 0) [(q,y)]).fs.bx i=some x→i=q∧x=y:=fun i x hx=>by
  have hx':bget [(q,y)] i=some x:=hx;simp only [bget] at hx';cases hb:Nat.beq q i with
  | true=>
   rw [hb] at hx';exact ⟨(Nat.eq_of_beq_eq_true hb).symm,(Option.some.inj hx').symm⟩
  | false=>rw [hb] at hx';cases hx'
 have hrel:Rel c (LS.mk (Qcn args 0) [(q,y)]).fs { tmps:=vs++Array.replicate (F.ntmps-vs.size) undef,defers:=[] } w:=by
  refine ⟨Nat.le_refl _,D,rfl,?_,BelowL.refl (c:=c),hD,⟨fun _ h=>h,fun _ h=>.inl h⟩,fun t v hv=>?_,fun id x h=>?_,fun i j x z hx hz hij=>?_⟩
  ·have:=hvs.1;simp [c];omega
  ·rw [htm];by_cases ht:t<vs.size
   ·rw [Array.getElem?_append_left ht] at hv;have hta:t<args.length:=by rw [hvs.1];exact ht
    have:=hvs.2 t args[t] v (List.getElem?_eq_getElem hta) hv;simpa [List.getD,List.getElem?_eq_getElem hta] using this
   ·have hta:args.length≤t:=by rw [hvs.1];omega
    have:args.getD t .any=.any:=by simp [List.getD,List.getElem?_eq_none hta]
    rw [this];exact .any v
  ·obtain ⟨_,rfl⟩:=hbx id x h;exact ⟨fun g hg=>⟨.inr hg,hyD g hg⟩,hy⟩
  ·exact absurd ((hbx i x hx).1.trans (hbx j z hz).1.symm) hij
 refine wp_mono (hawp _ _ hrel) fun e' a' w' ⟨s',hq,hc,D',hR⟩=>?_;obtain ⟨he,hd⟩:=hq;have hn':∀ rv∈F.results.toList,(match rv with | .tmp t=>t | .cell t _=>t)<c.n:=fun rv hrv=>by
  have:=List.all_eq_true.1 hn rv hrv;simpa using this
 obtain ⟨v,hv1,hrv⟩:=Qet hR hn' hd;have fin:∃ u,∃ D'':Nat→Prop,Ending.returned v=.returned u∧Below 0 w w'∧(∀ k,y.blk ≠ some k→k<w.heap.size→w'.heap[k]?=w.heap[k]?)∧(∀ b,D b→D'' b) ∧
   (∀ b,D'' b→b<w'.heap.size∧(D b∨y.blk=some b∨w.heap.size≤b))∧Ra D'' w' r u:=
  ⟨v,D',rfl,⟨hR.below.os,hR.below.tape,hR.below.output,hR.below.size,fun k hk=>absurd hk (by omega)⟩,fun k hk hl=>hR.below.block k hl hk,hR.old.1,
   fun b hb=>⟨hR.dlt b hb,(hR.old.2 b hb).imp id fun h=>h.symm⟩,hrv⟩
 rcases he with rfl | rfl
 ·exact ⟨hR.defers,v,hv1,fin⟩
 ·exact ⟨hR.defers,v,hv1,fin⟩
def gone:Bx:=.row (.slice none 0 0) 0 0 []
def lcR (P:Program) (q:Nat) (ops:Array Oper) (s:LS) (i:Nat):Option ((FuncId × List AV × Option Tmp) × Bx):=
 match Qlc ops s i,bget s.bx q with
 | some (f,args,d),some y=>bif entB P f then some ((f,args,d),y) else none
 | _,_=>none
theorem Zlv (D:Nat→Prop) (w:World):BoxR D w gone:=by
 show BoxR D w (.row (.slice none 0 0) 0 0 []);refine ⟨fun l h=>(by cases h),[],World.ownsRow_nil _ _ _ _,fun u h=>(by cases h),fun j a u h=>(by simp at h)⟩
theorem Qci {P:Program} {q:Nat} {f:FuncId} {args args':List AV} {d:Option Tmp} {y:Bx} {r:AV} (hs:Qc2 args args') (hsp:Qq4 P f args' y r) :
  ∀ (ops:Array Oper) (i:Nat) (s:LS) (K:FS→Prop),lcR P q ops s i=some ((f,args,d),y)→(∀ a:Unit,K ((s.put d r).setB q gone).fs)→Qtk P ops i s.fs K:=by
 intro ops i s K h kk;unfold lcR at h
 split at h
 ·rename_i f' args0 d' y' hc hr;cases he:entB P f' with
  | false=>rw [he] at h;cases h
  | true=>
   rw [he] at h;simp only [cond_true,Option.some.injEq,Prod.mk.injEq] at h;obtain ⟨⟨rfl,rfl,rfl⟩,rfl⟩:=h;obtain ⟨o,hi,hg,hrd,hd,hrun⟩:=Qjz (P:=P) hc;refine ⟨o,hi,hg,.inl ⟨q,fun x z=>x=r∧z=gone,?_,?_⟩⟩
   ·intro D w a Q K' hD hops hbx hnd hcont;obtain ⟨hl,hsa⟩:=hs.ok;obtain ⟨vs,h1,h2⟩:=hrun D w a.eval hops;have hra:Qc0 D w args' vs:=by
     refine ⟨by rw [← hl];exact h2.1,fun j x v hx hv=>?_⟩;have hj:j<args0.length:=by have:=(List.getElem?_eq_some_iff.1 hx).1;omega
     exact hsa j args0[j] x (List.getElem?_eq_getElem hj) hx D w v (h2.2 j args0[j] v (List.getElem?_eq_getElem hj) hv)
    unfold Oper.wp;rw [h1,Qil he,Oper.upon_enter];refine (hsp D w _ hD hra (hbx q _ hr) (fun g hg=>hnd _ g hr hg)).mono ?_;rintro e' w' ⟨v,D',rfl,g1,g2,g3,g4,g5⟩;exact hcont v w' r _ gone D' ⟨rfl,rfl⟩ hr g1 g2 g3 g4 (fun g h=>by cases h) (Zlv D' w') g5
   ·rintro x z ⟨rfl,rfl⟩;rw [hd,LS.fs_put,LS.fs_setB];exact kk ()
 ·cases h
theorem Qjg {P:Program} {f:FuncId} {F:Func} {code:Code} {args:List AV} {q:Nat} {y:Bx} {r:AV} (hf:P.funcs[f]?=some F) (ct:Ct P) (n:Nat:=400) (hb:F.body=some code:=by rfl)
  (hk:(decide (args.length≤F.ntmps)&&(P.follows .mixedOrders&&(F.results.toList.all fun rv=>decide ((match rv with | .tmp t=>t | .cell t _=>t)<F.ntmps))))=true:=by kernel_rfl)
  (h:vcC ct=vc P F (.val r) n ct (.code code) [] ⟨Qcn args 0,[(q,y)]⟩:=by kernel_rfl):Qq4 P f args y r:=Zg6 n ct hf hb hk h
theorem Qeo {P:Program} {ops:Array Oper} {Q:Exit→Act→World→Prop} {i:Nat} {rest:List Nat} {a:Act} {w w':World} {o:Oper} {v:Value} (ho:ops[i]?=some o) (hg:o.guard=none)
  (hx:(execOp a.eval o).run P w=.ok (.value v) w') (k:wpOps P ops Q rest (a.put o.dst v) w'):wpOps P ops Q (i :: rest) a w:=by
 simp only [wpOps,ho];rw [if_pos (by unfold Region.wanted;rw [hg])];left;unfold Oper.wp;rw [hx,Oper.upon_value];exact k
theorem Qlr {a:Act} {d:Nat} {v:Value} (h:d<a.tmps.size):(a.put (some d) v).eval (.tmp d)=v:=by
 simp [Act.put,Act.eval,h]
theorem Qv2 (a:Act) (d:Option Tmp) (v:Value):(a.put d v).tmps.size=a.tmps.size:=by
 cases d<;>simp [Act.put]
end Go.Proofs.YtahlldgocpabjaaGreat
