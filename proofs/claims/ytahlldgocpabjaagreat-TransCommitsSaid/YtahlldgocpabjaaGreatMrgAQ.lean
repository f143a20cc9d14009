import Derived.Test.YtahlldgocpabjaaGreatMrgAP
import Derived.Test.YtahlldgocpabjaaGreatMrgAL
import Derived.Test.YtahlldgocpabjaaGreatMrgQ
import Derived.Scope
import Derived.Test.YtahlldgocpabjaaGreatMrgAI
set_option maxRecDepth 100000
set_option maxHeartbeats 8000000
set_option linter.unusedVariables false
set_option linter.unusedSimpArgs false
namespace Go.Proofs.YtahlldgocpabjaaGreat
open Go Go.RowKit Copyhold Go.Proofs.Tryz
theorem Zfq (a b:List Nod) (ha:a.length≤8796093022207) (hb:b.length≤8796093022207) (oka:∀ v∈a,OkN v) (okb:∀ v∈b,OkN v):Qah prog 99 [.sl 5 false (a.map nodA),.sl 5 false (b.map nodA),.val (.func (.func 100) #[] #[])] (aB (dP (a=b))):=by
 exact Qac func99 (let R:AV:=aB (dP (a=b));
 .r 1<|.r 2<|.lm 11 a nodA<|.r 2<|.lm 13 b nodA<|.r 1<|.br 14 ((a.length:Int) != (b.length:Int)) (fun q1=>have p1:=bneT q1;.r 1<|.f (aB (dP (a=b))) [] (aB false) (by exact sF (fun h=>by have:=congrArg List.length h;omega)))
 <| fun q1=>have p1:=bneF q1;.r 2<|.lm 16 a nodA<|.r 1<|let L1:Lp (Nat):=⟨fun a1=>⟨[(1,.sl 5 false (b.map nodA)),(2,.val (.func (.func 100) #[] #[])),(15,.sl 5 false (a.map nodA)),(16,aI (a.length:Int)),(17,aI (a1:Int))],[]⟩,fun a1=>a.length-a1,fun a1=>a1≤a.length∧a.take a1=b.take a1⟩
 .lp L1 0 ⟨Nat.zero_le _,rfl⟩ [(17,aI 0)] [] ⟨sR,sR,sR,sR,sO,trivial⟩ trivial fun a1 ha1=>
 (fun (k:Nat) (hH1:k≤a.length∧a.take k=b.take k)=>.r 1<|.br 18 (decide ((k:Int)<(a.length:Int))) (fun q2=>have p2:=decT q2;.r 1<|.idxM a nodA k (m:=(k:Int)) rfl (by omega) fun x1 hx1=>
 have okx1:=oka x1 (List.mem_of_getElem? hx1);.r 1<|.new fun b1=>.u 2 [b1]<|
 .r 2<|.idxM b nodA k (m:=(k:Int)) rfl (by omega) fun x2 hx2=>
 have okx2:=okb x2 (List.mem_of_getElem? hx2);.r 1<|.new fun b2=>.u 1 [b2]<|
 .u 3 [b1,b2]<|
 .call (Qpd x1 x2 okx1 okx2)<|
 .r 1<|.br 30 (!(dP (x1=x2))) (fun q3=>have q3:=notT q3;have p3:=booF q3;.r 1<|.f R [] (aB false) (by
  refine sF (fun h=>?_);rw [h,hx2] at hx1;obtain rfl:=Option.some.inj hx1;simp_all [Qaw,Qab]))
 <| fun q3=>have q3:=notF q3;have p3:=booT q3;.run 2 [rng .i64 ((k:Int)+1)] ⟨Qai (by omega) (by omega),trivial⟩<|
 .bk L1 k (k+1) ⟨by omega,by rw [Qam hx1,Qam hx2,hH1.2];first | (congr 2;done) | (congr 2;exact Qaw.1 (by assumption))⟩ (show a.length-(k+1)<a.length-k from (by omega)) [(17,aI ((k:Int)+1))] [] ⟨sR,sR,sR,sR,sO,trivial⟩ trivial)
 <| fun q2=>have p2:=decF q2;.r 1<|.f R [] (aB true) (by
  refine sT ?_;have h:=hH1.2;rw [Qat (by omega),Qat (by omega)] at h;exact h)) a1 ha1)
theorem Qy9 (f g:Fsy) (okf:OkF f) (okg:OkF g):Qah prog 55 [.agg (fsyA f),.agg (fsyA g)] (aB (dP (f=g))):=by
 exact Qac func55 (let R:AV:=aB (dP (f=g));
 .new fun b1=>.new fun b2=>.r 1<|.u 6 [b1,b2]<|
 .be 10 f.next g.next (fun p1=>.u 4 [b1,b2]<|
 .call (Zfq f.l g.l okf.2.1 okg.2.1 okf.2.2 okg.2.2)<|
 .r 2<|.f R [] (aB (dP (f.l=g.l))) (by
  refine sE ?_;constructor
  ·intro h;simp only [Bool.and_eq_true,beq_iff_eq,Qaw] at *;refine Zlb ?_ ?_<;>simp_all
  ·intro h;subst h;simp_all [Qaw]))
 <| fun p1=>.r 7<|.f R [] (aB false) (by
  refine sF (fun h=>?_);subst h;simp_all [Qab]))
structure OkT (t:Txn):Prop where
 stamp:I64 t.stamp
 was:OkF t.was
 now:OkF t.now
 len:t.looks.length≤140737488351232
theorem Qtk (t:Txn) (okt:OkT t):Qah prog 28 [.agg (txnA t)] (aB (dP (t.was=t.now))):=by
 exact Qac func28 (let R:AV:=aB (dP (t.was=t.now));
 .new fun b1=>.r 1<|.u 4 [b1,b1]<|
 .call (Qy9 t.was t.now okt.was okt.now)<|
 .r 1<|.fi R [])
def Qag (s:Sto):Txn:=⟨s.stamp,Qck s s.stamp,Qck s s.stamp,[]⟩
theorem Qe4 (s:Sto) (oks:OkS s) (hf:s.l.length≤100000):Qah prog 22 [.agg (stoA s)] (.agg (txnA (Qag s))):=by
 exact Qac func22 (let R:AV:=.agg (txnA (Qag s));
 .new fun b1=>.new fun b2=>.ord [0,1,2,3,4,6,7,8,5,9,10,11]<|.u 8 [b1,b1,b1,b1,b1]<|
 .call (Qr9 s s.stamp oks hf)<|
 .call (Qr9 s s.stamp oks hf)<|
 .u 2 [b2]<|
 .f R [b2] (.agg [aI s.stamp,.sl 5 false ((Qck s s.stamp).l.map nodA),aI ((Qck s s.stamp).next),.sl 5 false ((Qck s s.stamp).l.map nodA),aI ((Qck s s.stamp).next),aN]) (by exact Sub.aggs ⟨sR,sR,sR,sR,sR,Sub.nil _ _,trivial⟩))
theorem Qvm (s:Sto) (oks:OkS s) (hf:s.l.length≤100000):Qah prog 23 [.agg (stoA s)] (.agg (txnA (Qag s))):=by
 exact Qac func23 (let R:AV:=.agg (txnA (Qag s));
 .new fun b1=>.new fun b2=>.u 3 [b1,b1]<|
 .call (Qo2 s s.stamp oks hf)<|
 .new fun b3=>.u 1 [b3]<|
 .u 6 [b1,b3,b3,b2]<|
 .f R [b2] (.agg [aI s.stamp,.sl 5 false ((Qck s s.stamp).l.map nodA),aI ((Qck s s.stamp).next),.sl 5 false ((Qck s s.stamp).l.map nodA),aI ((Qck s s.stamp).next),aN]) (by exact Sub.aggs ⟨sR,sR,sR,sR,sR,Sub.nil _ _,trivial⟩))
def Zcr (l:List Int) (i:Nat) (x:Int):Prop:=0≤x∧∀ y,0<i→l[i-1]?=some y→y<x
def txnP (t:Txn):Prop:=(Asc t.looks∧∀ x∈t.looks,0≤x)∧Qhb t.was∧Qhb t.now∧t.was.next≤t.now.next∧1≤t.stamp
theorem Qii:∀ {l:List Int},(Asc l∧∀ x∈l,0≤x)↔AllQ (Zcr l) l:=by
 intro l;constructor
 ·rintro ⟨h1,h2⟩ i x hx;refine ⟨h2 x (List.mem_of_getElem? hx),fun y h0 hy=>?_⟩;have l1:=Qan hx;have l2:=Qan hy;have:=List.pairwise_iff_getElem.1 h1 (i-1) i l2 l1 (by omega);rw [List.getElem?_eq_getElem l1] at hx;rw [List.getElem?_eq_getElem l2] at hy;obtain rfl:=Option.some.inj hx;obtain rfl:=Option.some.inj hy;exact this
 ·intro h;have key:∀ (j i:Nat) (hi:i<l.length) (hj:j<l.length),i<j→l[i]<l[j]:=by
   intro j
   induction j with
   | zero=>intro i hi hj h0;omega
   | succ j ih=>
    intro i hi hj hij;have h1:=(h.at (List.getElem?_eq_getElem hj)).2 (l[j]'(by omega)) (by omega) (by simp);by_cases e:i=j
    ·subst e;exact h1
    ·have:=ih i hi (by omega) (by omega);omega
  refine ⟨List.pairwise_iff_getElem.2 fun i j hi hj hij=>key j i hi hj hij,fun x hx=>?_⟩;obtain ⟨k,hk⟩:=List.getElem?_of_mem hx;exact (h.at hk).1
theorem Qsp (t:Txn) (okt:OkT t) (hmw:midF t.was) (hmn:midF t.now):Qah prog 15 [.agg (txnA t)] (aB (dP (txnP t))):=by
 have hbl:=okt.len;exact Qac func15 (let R:AV:=aB (dP (txnP t));
 .new fun b1=>.r 1<|.r 1<|let L1:Lp (Nat):=⟨fun a1=>⟨[(1,.ptr 1 b1 0),(3,aI (a1:Int))],[(1,.box b1 31 (txnA t))]⟩,fun a1=>t.looks.length-a1,fun a1=>a1≤t.looks.length∧Qa3 (Zcr t.looks) t.looks a1⟩
 .lp L1 0 ⟨Nat.zero_le _,Qa3.zero _ _⟩ [(3,aI 0)] [] ⟨sR,sO,trivial⟩ bb1 fun a1 ha1=>
 (fun (k:Nat) (hH1:k≤t.looks.length∧Qa3 (Zcr t.looks) t.looks k)=>.u 4 [b1]<|
 .lm 9 t.looks intA<|.r 1<|.bd 10 ((k:Int)<(t.looks.length:Int)) (fun p1=>.ord [0,1,2,3,4,5,6,7,8,9,10,11,12,13,14,15,16,17,18,19,20,21,22,23]<|.u 3 [b1]<|
 .idxM t.looks intA k (m:=(k:Int)) rfl (by omega) fun x1 hx1=>
 .r 3<|.bd 19 (x1<0) (fun p2=>.r 17<|.r 1<|.f R [] (aB false) (by
  refine sF (fun h=>?_);have g:=(Qii.1 h.1).at hx1;have:=g.1;omega))
 <| fun p2=>.r 3<|.bd 22 ((k:Int)>0) (fun p3=>.run 4 [b1=b1,rng .i64 ((k:Int)-1)] ⟨rfl,Qai (by omega) (by omega),trivial⟩<|
 .idxM t.looks intA (k-1) (m:=(k:Int)-1) (show (k:Int)-1=((k-1:Nat):Int) from by omega) (by omega) fun x2 hx2=>
 .u 4 [b1]<|
 .idx k (m:=(k:Int)) (xs:=t.looks.map intA) (e:=intA x1) rfl (map_some hx1)<|
 .r 4<|.bd 36 (x2≥x1) (fun p4=>.r 1<|.f R [] (aB false) (by
  refine sF (fun h=>?_);have g:=(Qii.1 h.1).at hx1;have:=g.2 x2 (by omega) hx2;have:=g.1;omega))
 <| fun p4=>.run 3 [rng .i64 ((k:Int)+1)] ⟨Qai (by omega) (by omega),trivial⟩<|
 .bk L1 k (k+1) ⟨by omega,hH1.2.step hx1 (⟨by omega,fun z h0 hz=>by rw [hx2] at hz;obtain rfl:=Option.some.inj hz;omega⟩)⟩ (show t.looks.length-(k+1)<t.looks.length-k from (by omega)) [(3,aI ((k:Int)+1))] [] ⟨sR,sO,trivial⟩ bb1)
 <| fun p3=>.r 14<|.run 3 [rng .i64 ((k:Int)+1)] ⟨Qai (by omega) (by omega),trivial⟩<|
 .bk L1 k (k+1) ⟨by omega,hH1.2.step hx1 (⟨by omega,fun z h0 hz=>absurd h0 (by omega)⟩)⟩ (show t.looks.length-(k+1)<t.looks.length-k from (by omega)) [(3,aI ((k:Int)+1))] [] ⟨sR,sO,trivial⟩ bb1)
 <| fun p1=>.u 2 [b1]<|
 .call (Qjb t.was okt.was hmw)<|
 .r 1<|.u 2 [b1]<|
 .call (Qjb t.now okt.now hmn)<|
 .r 1<|.r 2<|.bb 44 (dP (Qhb t.was)) (fun p5=>.r 3<|.bb 47 (dP (Qhb t.now)) (fun p6=>.u 9 [b1,b1]<|
 .bd 56 (t.now.next≥t.was.next) (fun p7=>.u 5 [b1]<|
 .f (aB (dP (txnP t))) [] (aB (decide (t.stamp≥1))) (by
  have hall:=Qii.2 (hH1.2.full (by omega));refine sE ?_;unfold txnP;simp only [Bool.and_eq_true,decide_eq_true_eq,Qaw] at *;constructor
  ·intro h;simp_all
  ·intro h;simp_all))
 <| fun p7=>.r 5<|.f (aB (dP (txnP t))) [] (aB false) (by
  have hall:=Qii.2 (hH1.2.full (by omega));refine sF (fun h=>?_);obtain ⟨_,h1,h2,h3,h4⟩:=h;simp_all [Qab]))
 <| fun p6=>.r 14<|.f (aB (dP (txnP t))) [] (aB false) (by
  have hall:=Qii.2 (hH1.2.full (by omega));refine sF (fun h=>?_);obtain ⟨_,h1,h2,h3,h4⟩:=h;simp_all [Qab]))
 <| fun p5=>.r 17<|.f (aB (dP (txnP t))) [] (aB false) (by
  have hall:=Qii.2 (hH1.2.full (by omega));refine sF (fun h=>?_);obtain ⟨_,h1,h2,h3,h4⟩:=h;simp_all [Qab])) a1 ha1)
theorem Qvy {f:Fsy} (hf:fewF f):midF f:=by
 have:=hf.1;unfold midF;omega
def fewT (t:Txn):Prop:=fewF t.was∧fewF t.now∧t.looks.length≤300∧t.now.next<1152921504606846976∧txnP t
def Ze9 (s:Sto):Prop:=few s∧Qch s∧s.stamp<1152921504606846976∧fewF (Qck s s.stamp)∧Qhb (Qck s s.stamp)∧(Qck s s.stamp).next<1152921504606846976
def Qes (s:Sto) (t:Txn):Prop:=∃ x∈Qby s t.stamp,x∈t.looks
theorem Qsl (s:Sto) (st:Int):(Qby s st).length≤s.l.length+1:=Zhr s st
theorem Qzo (t:Txn) (okt:OkT t):Qah prog 17 [.agg (txnA t)] (aB (dP (fewT t))):=by
 have hbl:=okt.len;exact Qac func17 (let R:AV:=aB (dP (fewT t));
 .new fun b1=>.r 1<|.u 2 [b1]<|
 .call (Qrc t.was okt.was)<|
 .r 2<|.br 7 (!(dP (fewF t.was))) (fun q1=>have q1:=notT q1;have p1:=booF q1;.r 17<|.r 1<|.f R [] (aB false) (by
  refine sF (fun h=>?_);obtain ⟨h1,h2,h3,h4,h5⟩:=h
  first | omega | (simp_all [Qab];done) | (simp_all [Qab];omega)))
 <| fun q1=>have q1:=notF q1;have p1:=booT q1;.u 2 [b1]<|
 .call (Qrc t.now okt.now)<|
 .r 3<|.br 13 (!(dP (fewF t.now))) (fun q2=>have q2:=notT q2;have p2:=booF q2;.r 11<|.r 1<|.f R [] (aB false) (by
  refine sF (fun h=>?_);obtain ⟨h1,h2,h3,h4,h5⟩:=h
  first | omega | (simp_all [Qab];done) | (simp_all [Qab];omega)))
 <| fun q2=>have q2:=notF q2;have p2:=booT q2;.u 3 [b1]<|
 .lm 16 t.looks intA<|.r 3<|.br 19 (decide ((t.looks.length:Int)>300)) (fun q3=>have p3:=decT q3;.r 5<|.r 1<|.f R [] (aB false) (by
  refine sF (fun h=>?_);obtain ⟨h1,h2,h3,h4,h5⟩:=h
  first | omega | (simp_all [Qab];done) | (simp_all [Qab];omega)))
 <| fun q3=>have p3:=decF q3;.u 5 [b1]<|
 .br 24 (decide (t.now.next≥1152921504606846976)) (fun q4=>have p4:=decT q4;.r 1<|.f R [] (aB false) (by
  refine sF (fun h=>?_);obtain ⟨h1,h2,h3,h4,h5⟩:=h
  first | omega | (simp_all [Qab];done) | (simp_all [Qab];omega)))
 <| fun q4=>have p4:=decF q4;.u 1 [b1]<|
 .call (Qsp t okt (Qvy (Qaw.1 q1)) (Qvy (Qaw.1 q2)))<|
 .r 1<|.f R [] (aB (dP (txnP t))) (by
  refine sE ?_;unfold fewT;simp only [Qaw] at *;constructor
  ·intro h;exact ⟨by assumption,by assumption,by omega,by omega,h⟩
  ·intro h;exact h.2.2.2.2))
theorem Qzw (s:Sto) (oks:OkS s):Qah prog 16 [.agg (stoA s)] (aB (dP (Ze9 s))):=by
 exact Qac func16 (let R:AV:=aB (dP (Ze9 s));
 .new fun b1=>.r 1<|.u 1 [b1]<|
 .call (Zfp s oks)<|
 .r 2<|.br 7 (!(dP (few s))) (fun q1=>have q1:=notT q1;have p1:=booF q1;.r 9<|.r 1<|.f R [] (aB false) (by
  refine sF (fun h=>?_);obtain ⟨h1,h2,h3,h4,h5,h6⟩:=h
  first | omega | (simp_all [Qab];done) | (simp_all [Qab];omega)))
 <| fun q1=>have q1:=notF q1;have p1:=booT q1;.u 1 [b1]<|
 .call (Qu9 s oks)<|
 .r 3<|.br 12 (!(dP (Qch s))) (fun q2=>have q2:=notT q2;have p2:=booF q2;.r 4<|.r 1<|.f R [] (aB false) (by
  refine sF (fun h=>?_);obtain ⟨h1,h2,h3,h4,h5,h6⟩:=h
  first | omega | (simp_all [Qab];done) | (simp_all [Qab];omega)))
 <| fun q2=>have q2:=notF q2;have p2:=booT q2;.u 4 [b1]<|
 .br 16 (decide (s.stamp≥1152921504606846976)) (fun q3=>have p3:=decT q3;.r 1<|.f R [] (aB false) (by
  refine sF (fun h=>?_);obtain ⟨h1,h2,h3,h4,h5,h6⟩:=h
  first | omega | (simp_all [Qab];done) | (simp_all [Qab];omega)))
 <| fun q3=>have p3:=decF q3;.u 3 [b1,b1]<|
 .call (Qo2 s s.stamp oks (by have:=Qyh (Qaw.1 q1);omega))<|
 .new fun b2=>.u 1 [b2]<|
 .u 1 [b2]<|
 .call (Qrc (Qck s s.stamp) (Qp2 oks _))<|
 .r 1<|.br 23 (dP (fewF (Qck s s.stamp))) (fun q4=>have p4:=booT q4;.u 1 [b2]<|
 .call (Qjb (Qck s s.stamp) (Qp2 oks _) (Qvy (Qaw.1 q4)))<|
 .r 2<|.br 27 (dP (Qhb (Qck s s.stamp))) (fun q5=>have p5:=booT q5;.u 5 [b2]<|
 .f R [] (aB (decide (((Qck s s.stamp).next)<1152921504606846976))) (by
  refine sE ?_;unfold Ze9;simp only [Qaw,decide_eq_true_eq] at *;constructor
  ·intro h;exact ⟨by assumption,by assumption,by omega,by assumption,by assumption,h⟩
  ·intro h;exact h.2.2.2.2.2))
 <| fun q5=>have p5:=booF q5;.r 5<|.f R [] (aB false) (by
  refine sF (fun h=>?_);obtain ⟨h1,h2,h3,h4,h5,h6⟩:=h
  first | omega | (simp_all [Qab];done) | (simp_all [Qab];omega)))
 <| fun q4=>have p4:=booF q4;.r 9<|.f R [] (aB false) (by
  refine sF (fun h=>?_);obtain ⟨h1,h2,h3,h4,h5,h6⟩:=h
  first | omega | (simp_all [Qab];done) | (simp_all [Qab];omega)))
theorem Qm0 (s:Sto) (t:Txn) (oks:OkS s) (hf:s.l.length≤100000) (okt:OkT t):Qah prog 37 [.agg (stoA s),.agg (txnA t)] (aB (dP (Qes s t))):=by
 have hbl:=okt.len;have hsl:=Qsl s t.stamp;exact Qac func37 (let R:AV:=aB (dP (Qes s t));
 .new fun b1=>.new fun b2=>.r 1<|.u 3 [b1,b2]<|
 .call (Qu8 s t.stamp oks hf)<|
 .r 1<|.r 1<|let L1:Lp (Nat):=⟨fun a1=>⟨[(3,.ptr 3 b2 0),(5,.sl 1 false ((Qby s t.stamp).map intA)),(6,aI (a1:Int))],[(3,.box b2 31 (txnA t))]⟩,fun a1=>(Qby s t.stamp).length-a1,fun a1=>a1≤(Qby s t.stamp).length∧Qa3 (fun _ x=>¬ x∈t.looks) (Qby s t.stamp) a1⟩
 .lp L1 0 ⟨Nat.zero_le _,Qa3.zero _ _⟩ [(6,aI 0)] [] ⟨sR,sR,sO,trivial⟩ bb1 fun a1 ha1=>
 (fun (k:Nat) (hH1:k≤(Qby s t.stamp).length∧Qa3 (fun _ x=>¬ x∈t.looks) (Qby s t.stamp) k)=>.r 3<|.lm 14 (Qby s t.stamp) intA<|.r 1<|.bd 15 ((k:Int)<((Qby s t.stamp).length:Int)) (fun p1=>.r 1<|.ex (Qdo (l:=(Qby s t.stamp)) (k:=k) (by omega)) fun x1 hx1=>
 let L2:Lp (Nat):=⟨fun a2=>⟨[(3,.ptr 3 b2 0),(5,.sl 1 false ((Qby s t.stamp).map intA)),(6,aI (k:Int)),(7,aI (a2:Int))],[(3,.box b2 31 (txnA t))]⟩,fun a2=>t.looks.length-a2,fun a2=>a2≤t.looks.length∧Qa3 (fun _ y=>¬ x1=y) t.looks a2⟩
 .lp L2 0 ⟨Nat.zero_le _,Qa3.zero _ _⟩ [(7,aI 0)] [] ⟨sR,sR,sR,sO,trivial⟩ bb1 fun a2 ha2=>
 (fun (j:Nat) (hH2:j≤t.looks.length∧Qa3 (fun _ y=>¬ x1=y) t.looks j)=>.u 4 [b2]<|
 .lm 21 t.looks intA<|.r 1<|.bd 22 ((j:Int)<(t.looks.length:Int)) (fun p2=>.ord [0,1,2,3,4,5,6,7,8,9]<|.r 2<|.idx k (m:=(k:Int)) (xs:=(Qby s t.stamp).map intA) (e:=intA x1) rfl (map_some hx1)<|
 .u 4 [b2]<|
 .idxM t.looks intA j (m:=(j:Int)) rfl (by omega) fun x2 hx2=>
 .r 2<|.be 34 x1 x2 (fun p3=>.r 1<|.f (aB (dP (Qes s t))) [] (aB true) (by
  refine sT ?_;refine ⟨x1,List.mem_of_getElem? hx1,?_⟩;have e:x1=x2:=by simp_all
  rw [e];exact List.mem_of_getElem? hx2))
 <| fun p3=>.run 3 [rng .i64 ((j:Int)+1)] ⟨Qai (by omega) (by omega),trivial⟩<|
 .bk L2 j (j+1) ⟨by omega,hH2.2.step hx2 (by simp_all;try omega)⟩ (show t.looks.length-(j+1)<t.looks.length-j from (by omega)) [(7,aI ((j:Int)+1))] [] ⟨sR,sR,sR,sO,trivial⟩ bb1)
 <| fun p2=>.run 3 [rng .i64 ((k:Int)+1)] ⟨Qai (by omega) (by omega),trivial⟩<|
 .bk L1 k (k+1) ⟨by omega,hH1.2.step hx1 (fun hm=>by obtain ⟨i,hi⟩:=List.getElem?_of_mem hm;exact (hH2.2.full (by omega)) i _ hi rfl)⟩ (show (Qby s t.stamp).length-(k+1)<(Qby s t.stamp).length-k from (by omega)) [(6,aI ((k:Int)+1))] [] ⟨sR,sR,sO,trivial⟩ bb1) a2 ha2)
 <| fun p1=>.r 1<|.f R [] (aB false) (by
  refine sF (fun h=>?_);obtain ⟨x,h1,h2⟩:=h;obtain ⟨i,hi⟩:=List.getElem?_of_mem h1;exact (hH1.2.full (by omega)) i x hi h2)) a1 ha1)
end Go.Proofs.YtahlldgocpabjaaGreat

namespace Go.Proofs.YtahlldgocpabjaaGreat
open Go Go.RowKit Go.Shelf Copyhold
attribute [local go_sem] Oper.semAt_some
theorem Qtg {D:Nat→Prop} {W:World} {t:Bool} {L:List Int} {A:Option Addr} {c:Nat} (h:Ra D W (.sl 1 t (L.map intA)) (.slice A L.length c)) {k:Nat} (hk:k<L.length) :
  ∃ b off,A=some ⟨b,off,none⟩∧b<W.heap.size∧D b∧W.cell? ⟨b,off+k,none⟩=some (.int .i64 L[k]):=by
 generalize hv:Value.slice A L.length c=v at h;cases h with
 | sl _ _ _ A' c' b off vs h1 h2 h3 h4 h5 h6=>
  injection hv with e1 e2 e3
  subst e1;obtain ⟨a1,a2,a3⟩:=h3 (by rw [List.length_map];omega);have hx:(L.map intA)[k]?=some (intA L[k]):=by rw [List.getElem?_map,List.getElem?_eq_getElem hk];rfl
  have q:=h5 k _ 0 (aI L[k]) hx rfl;have r:=h6 k _ 0 (aI L[k]) hx rfl;have e:vs k 0=.int .i64 L[k]:=by generalize vs k 0=u at r;cases r;rfl
  refine ⟨b,off,a1,a3,a2,?_⟩;rw [e,Nat.mul_one,Nat.add_zero] at q;exact q.1
theorem Zm0 (n:Nat) (hn:1≤n) (l Bs n₀ c:Nat) (A:Option Addr) (L:List Int) (hlen:L.length≤140737488351232) (D:Nat→Prop) (J Jx:List Int→World→Prop)
  (hY:∀ pre x W,J pre W→pre.length<L.length→YieldAt Fence.wide (n-1) Tryz.prog l #[.int .i64 x] W fun e W'=>
   (e=.returned (.bool true)∧J (pre++[x]) W'∧Below n₀ W W')∨(e=.returned (.bool false)∧Jx (pre++[x]) W'))
  (W:World) (hn0:n₀≤W.heap.size) (hBs:W.cell? ⟨Bs,5,none⟩=some (.slice A L.length c)) (hE:Ra D W (.sl 1 false (L.map intA)) (.slice A L.length c)) (hD:∀ b,D b→b<n₀) (h0:J [] W) :
  CallsIn Fence.wide n Tryz.prog 83 #[.func (.yield l) #[] #[],.pointer (some ⟨Bs,0,none⟩)] W fun e W'=>(∃ v,e=.returned v) ∧
   ((∃ ys,ys=L∧J ys W')∨(∃ pre,pre <+: L∧Jx pre W')):=by
 have HE:=Lib.hid hE;have HD:=Lib.hid hD;clear hE hD;refine callsIn_of_wp Tryz.func83 rfl trivial ?_ rfl;simp only [Tryz.ntmps83,List.size_toArray,List.length_cons,List.length_nil,Nat.reduceAdd,Nat.reduceSub,Array.replicate_succ,Array.replicate_zero,List.push_toArray,List.append_toArray,List.nil_append,List.cons_append]
 gi_wp2
 gi_loopw [8] (fun i wr=>∃ k:Nat,k≤L.length∧i=.int .i64 k∧J (L.take k) wr∧Below n₀ W wr∧W.heap.size≤wr.heap.size)
  (fun i _=>L.length-(intOf i).toNat)
 case atStart=>exact ⟨0,Nat.zero_le _,rfl,by simpa using h0,Below.refl _ _,Nat.le_refl _⟩
 case round=>
  obtain ⟨k,hk,rfl,hJs,hnx,hsz⟩:=hrel;by_cases hlt:k<L.length
  ·have hE':Ra D wr (.sl 1 false (L.map intA)) (.slice A L.length c):=HE.out.frame (fun _ h=>h) hsz (fun b hb _=>hnx.block b (HD.out b hb));obtain ⟨b,off,hA,hbk,_,hc1⟩:=Qtg hE' hlt;subst hA;have hst:L.take (k+1)=L.take k++[L[k]]:=List.take_succ_eq_append_getElem hlt;have HST:=Lib.hid hst;have hll:(L.take k).length<L.length:=by simp;omega
   obtain ⟨fn,tmps,assign,body,hy,hR⟩:=hY _ L[k] _ hJs hll;have HR:=Lib.hid hR;have HNX:=Lib.hid hnx;have HPP:Hid (L.take (k+1) <+: L):=Lib.hid (List.take_prefix _ _);clear hE' hst hll hR hnx hJs hY;generalize L[k]=x at *
   gi_wp2
   refine HR.out.mono ?_;rintro e W3 (⟨rfl,hJ3,hk3⟩ | ⟨rfl,hJx3⟩)
   ·have hn3:Below n₀ W W3:=HNX.out.trans hk3;have hs3:=hk3.size
    gi_wp2
    go_roundw
    case rel=>exact ⟨k+1,by omega,by go_num,by rw [HST.out];exact hJ3,hn3,by omega⟩
    case measure=>simp [intOf];omega
   ·gi_wp2
    refine bodyPost_ret (results_none rfl _ _ _) rfl ?_;exact ⟨⟨_,rfl⟩,.inr ⟨_,by rw [← HST.out];exact HPP.out,hJx3⟩⟩
  ·obtain rfl:k=L.length:=by omega
   have hfin:L.take L.length=L:=List.take_length;have HF:=Lib.hid hfin;clear hfin
   gi_wp2
   go_end0
   exact ⟨⟨_,rfl⟩,.inl (by rw [← HF.out];exact ⟨_,rfl,hJs⟩)⟩
theorem Zk2 (n:Nat) (st n1 n2:Int) (s1 s2 v:Value) (w:World) :
  CallsIn Fence.wide n Tryz.prog 45 #[.agg #[.int .i64 st,s1,.int .i64 n1,s2,.int .i64 n2,v]] w fun e w'=>e=.returned (.func (.func 83) #[] #[.pointer (some ⟨w.heap.size,0,none⟩)])∧w'=w.alloc (.cells #[.int .i64 st,s1,.int .i64 n1,s2,.int .i64 n2,v] 31):=by
 refine callsIn_of_wp Tryz.func45 rfl trivial ?_ rfl;simp only [Tryz.ntmps45,List.size_toArray,List.length_cons,List.length_nil,Nat.reduceAdd,Nat.reduceSub,Array.replicate_succ,Array.replicate_zero,List.push_toArray,List.append_toArray,List.nil_append,List.cons_append]
 gi_wp2
 go_ret
 exact ⟨rfl,rfl⟩
theorem Zee (n:Nat) (hn:1≤n) (Bs n₀ c:Nat) (A:Option Addr) (L:List Int) (hlen:L.length≤140737488351232) (D:Nat→Prop) (hD:∀ b,D b→b<n₀) (w:World) (hBs:Bs<w.heap.size) (hn₀:n₀≤w.heap.size)
  (hc:w.cell? ⟨Bs,5,none⟩=some (.slice A L.length c)) (hE:Ra D w (.sl 1 false (L.map intA)) (.slice A L.length c)) :
  SeqStopsK Fence.wide n Tryz.prog 83 #[.pointer (some ⟨Bs,0,none⟩)] (fun x:Int=>#[Value.int .i64 x]) (Below n₀) (fun ys=>ys=L) (fun pre=>pre <+: L) L.length w:=fun l J Jx W hW hJ _ hY h0=>
 Zm0 n hn l Bs n₀ c A L hlen D J Jx hY W (Nat.le_trans hn₀ hW.size) ((hW.cell (p:=⟨Bs,5,none⟩) hBs).trans hc) (hE.frame (fun _ h=>h) hW.size (fun b hb hl=>hW.block b hl)) hD h0
end Go.Proofs.YtahlldgocpabjaaGreat

namespace Go.Proofs.YtahlldgocpabjaaGreat
open Go Go.RowKit Go.Shelf Copyhold
attribute [local go_sem] Oper.semAt_some
theorem Zka (n:Nat) (hn:3≤n) (q0 q1 q2:Value) (st n1 n2:Int) (s1 s2:Value) (A:Option Addr) (c:Nat) (L R:List Int) (hlL:L.length≤140737488351232) (hlR:R.length≤1000000) (w:World) (D:Nat→Prop) (hD:∀ b,D b→b<w.heap.size)
  (hL:Ra D w (.sl 1 false (L.map intA)) (.slice A L.length c))
  (hS:∀ W,Below w.heap.size w W→CallsIn Fence.wide (n-1) Tryz.prog 62 #[.agg #[q0,q1,q2],.int .i64 st] W fun e W'=>∃ A' c',∃ D':Nat→Prop,e=.returned (.slice A' R.length c')∧Below W.heap.size W W'∧Ra D' W' (.sl 1 false (R.map intA)) (.slice A' R.length c')∧∀ b,D' b→b<W'.heap.size) :
  CallsIn Fence.wide n Tryz.prog 36 #[.agg #[q0,q1,q2],.agg #[.int .i64 st,s1,.int .i64 n1,s2,.int .i64 n2,.slice A L.length c]] w fun e W'=>e=.returned (.bool (decide (∃ x∈L,x∈R)))∧Below w.heap.size w W':=by
 have h1:1≤n:=by omega
 have HL:=Lib.hid hL;have HS:=Lib.hid hS;have HD:=Lib.hid hD;clear hL hS hD;refine callsIn_of_wp_marks Tryz.func36 rfl trivial ?_ rfl;simp only [Tryz.ntmps36,List.size_toArray,List.length_cons,List.length_nil,Nat.reduceAdd,Nat.reduceSub,Array.replicate_succ,Array.replicate_zero,List.push_toArray,List.append_toArray,List.nil_append,List.cons_append]
 gi_wp2
 refine wpIn_wide.2 (wp_scope_straight ((wpIn_wide (n:=n)).1 ?_))
 gi_wp2_with (first
  | (
    refine ⟨trivial,?_⟩;gi_at_call 62;refine (HS.out _ (((Below.refl _ w).alloc (Nat.le_refl _) _).alloc (by simp) _)).mono ?_;rintro e w1 ⟨A',c',D',rfl,hb1,hR,hD'⟩;have hsz:w.heap.size+1+1≤w1.heap.size:=by have:=hb1.size;simpa using this
    have hlt3:w.heap.size+1<w1.heap.size:=by omega
    have hblk:w1.heap[w.heap.size+1]?=some (.cells #[.int .i64 st,s1,.int .i64 n1,s2,.int .i64 n2,.slice A L.length c] 31):=by
     rw [hb1.block (w.heap.size+1) (by simp)];have:=heap_alloc_new (w.alloc (.cells #[q0,q1,q2] 25)) (.cells #[.int .i64 st,s1,.int .i64 n1,s2,.int .i64 n2,.slice A L.length c] 31);simpa using this
    have e0:w1.cell? ⟨w.heap.size+1,0,none⟩=some (.int .i64 st):=by simp [World.cell?,hblk]
    have e1:w1.cell? ⟨w.heap.size+1,1,none⟩=some s1:=by simp [World.cell?,hblk]
    have e2:w1.cell? ⟨w.heap.size+1,2,none⟩=some (.int .i64 n1):=by simp [World.cell?,hblk]
    have e3:w1.cell? ⟨w.heap.size+1,3,none⟩=some s2:=by simp [World.cell?,hblk]
    have e4:w1.cell? ⟨w.heap.size+1,4,none⟩=some (.int .i64 n2):=by simp [World.cell?,hblk]
    have e5:w1.cell? ⟨w.heap.size+1,5,none⟩=some (.slice A L.length c):=by simp [World.cell?,hblk]
    have HB1:=Lib.hid hb1;have HR:=Lib.hid (And.intro hR hD');clear hb1 hR hD' hblk)
  | (refine ⟨trivial,?_⟩;gi_at_call 45;refine (Zk2 (n-1) st n1 n2 s1 s2 (.slice A L.length c) _).mono ?_;rintro e w' ⟨rfl,rfl⟩))
 rename_i K0 hK0;refine wpIn_label (hK0 _ _ ?_);clear hK0 K0;obtain ⟨W3,hW3⟩:∃ W,W=(w1.alloc (.cells #[.slice A' R.length c'] 29)).alloc (.cells #[.bool false] 4):=⟨_,rfl⟩
 have hbW:Below w1.heap.size w1 W3:=by rw [hW3];exact ((Below.refl _ w1).alloc (Nat.le_refl _) _).alloc (by simp) _
 have hs3:W3.heap.size=w1.heap.size+1+1:=by rw [hW3];simp
 have bS:Boxed W3 w1.heap.size 29 (.slice A' R.length c'):=by rw [hW3];exact (Boxed.new w1 _ _).alloc _
 have bF:Boxed W3 (w1.heap.size+1) 4 (.bool false):=by
  rw [hW3];have:=Boxed.new (w1.alloc (.cells #[.slice A' R.length c'] 29)) 4 (.bool false);simpa using this
 have f0:=(hbW.cell (p:=⟨w.heap.size+1,0,none⟩) hlt3).trans e0;have f1:=(hbW.cell (p:=⟨w.heap.size+1,1,none⟩) hlt3).trans e1;have f2:=(hbW.cell (p:=⟨w.heap.size+1,2,none⟩) hlt3).trans e2;have f3:=(hbW.cell (p:=⟨w.heap.size+1,3,none⟩) hlt3).trans e3;have f4:=(hbW.cell (p:=⟨w.heap.size+1,4,none⟩) hlt3).trans e4;have f5:=(hbW.cell (p:=⟨w.heap.size+1,5,none⟩) hlt3).trans e5;have hB13:Below w.heap.size w w1:=(((Below.refl w.heap.size w).alloc (Nat.le_refl _) _).alloc (by simp) _).trans (HB1.out.mono (by simp;omega));have hB0:Below w.heap.size w W3:=hB13.trans (hbW.mono (by omega));have hR3:Ra D' W3 (.sl 1 false (R.map intA)) (.slice A' R.length c'):=HR.out.1.frame (fun _ h=>h) hbW.size (fun b hb hl=>hbW.block b hl);have hL3:Ra D W3 (.sl 1 false (L.map intA)) (.slice A L.length c):=HL.out.frame (fun _ h=>h) hB0.size (fun b hb hl=>hB0.block b hl);rw [← hW3];clear hW3;have HBX:=Lib.hid (And.intro bS (And.intro bF (And.intro hB0 (And.intro hR3 hL3))));clear e0 e1 e2 e3 e4 e5 bS bF hB0 hR3 hL3 hbW hB13
 gi_wp2_with (refine ⟨trivial,?_⟩;gi_at_call 45;refine (Zk2 (n-1) st n1 n2 s1 s2 (.slice A L.length c) _).mono ?_;rintro e w' ⟨rfl,rfl⟩)
 rename_i K0 hK0;have HK0:=Lib.hid hK0;clear hK0 hsz hlt3 f0 f1 f2 f3 f4;obtain ⟨bS,bF,hB0,hR3,hL3⟩:=HBX.out;obtain ⟨W4,hW4⟩:∃ W,W=W3.alloc (.cells #[.int .i64 st,s1,.int .i64 n1,s2,.int .i64 n2,.slice A L.length c] 31):=⟨_,rfl⟩
 have hb34:Below W3.heap.size W3 W4:=by rw [hW4];exact (Below.refl _ W3).alloc (Nat.le_refl _) _
 have hs4:W4.heap.size=w1.heap.size+1+1+1:=by rw [hW4];simp [hs3]
 have bS4:Boxed W4 w1.heap.size 29 (.slice A' R.length c'):=by rw [hW4];exact bS.alloc _
 have bF4:Boxed W4 (w1.heap.size+1) 4 (.bool false):=by rw [hW4];exact bF.alloc _
 have hR4:Ra D' W4 (.sl 1 false (R.map intA)) (.slice A' R.length c'):=hR3.frame (fun _ h=>h) hb34.size (fun b hb hl=>hb34.block b hl);have hL4:Ra D W4 (.sl 1 false (L.map intA)) (.slice A L.length c):=hL3.frame (fun _ h=>h) hb34.size (fun b hb hl=>hb34.block b hl);have hc5:W4.cell? ⟨w1.heap.size+1+1,5,none⟩=some (.slice A L.length c):=by
  rw [hW4];have:=heap_alloc_new W3 (.cells #[.int .i64 st,s1,.int .i64 n1,s2,.int .i64 n2,.slice A L.length c] 31);rw [hs3] at this;simp [World.cell?,this]
 have hB04:Below w.heap.size w W4:=hB0.trans (hb34.mono (by have:=hB0.size;omega));have hww1:w.heap.size≤w1.heap.size:=by have:=HB1.out.size;simp at this;omega
 have hDn:∀ b,D b→b<w1.heap.size+1:=fun b hb=>by have:=HD.out b hb;omega
 have hDn':∀ b,D' b→b<w1.heap.size+1:=fun b hb=>by have:=HR.out.2 b hb;omega
 rw [← hW4];clear hW4 bS bF hB0 hR3 hL3 HBX hb34 f5 hs3 HL HS HR HB1 HD;refine wpIn_rangeFunc_ownG rfl h1 (gf:=83) (lb:=#[.pointer (some ⟨w1.heap.size+1+1,0,none⟩)]) rfl trivial (enters_of Tryz.func83 (by kernel_rfl) rfl)
  (Zee (n-1) (by omega) (w1.heap.size+1+1) (w1.heap.size+1) c A L hlL D hDn W4 (by omega) (by omega) hc5 hL4) belowK_t (belowK_b (by omega)) (Below.refl _ _) (fun _=>rfl)
  (fun (pre:List Int) W=>(Boxed W (w1.heap.size+1) 4 (.bool false)∧(∀ x∈pre,x ∉ R))∧Below (w1.heap.size+1) W4 W)
  (fun c (pre:List Int) W=>(c=.exit 0∧(∃ x∈pre,x∈R)∧Boxed W (w1.heap.size+1) 4 (.bool true))∧Below (w1.heap.size+1) W4 W)
  (OwnFrom.and (Own.from (fun s X Y row hs hg hr=>⟨boxed_own (w1.heap.size+1) 4 (fun (_:List Int)=>.bool false) s X Y row hs.1 hg hr,hs.2⟩) _) (ownFrom_below (by omega) (by omega)))
  (fun c=>OwnFrom.and (Own.from (fun s X Y row hs hg hr=>⟨hs.1,hs.2.1,boxed_own (w1.heap.size+1) 4 (fun (_:List Int)=>.bool true) s X Y row hs.2.2 hg hr⟩) _) (ownFrom_below (by omega) (by omega)))
  ⟨⟨bF4,by simp⟩,Below.refl _ _⟩
  (fun (x:Int)=>{ tmps:=#[.agg #[q0,q1,q2],.agg #[.int .i64 st,s1,.int .i64 n1,s2,.int .i64 n2,.slice A L.length c],.pointer (some ⟨w.heap.size,0,none⟩),.pointer (some ⟨w.heap.size+1,0,none⟩),.bool false,.pointer (some ⟨w1.heap.size,0,none⟩),.pointer (some ⟨w1.heap.size+1,0,none⟩),.int .i64 x,undef,undef,.agg #[q0,q1,q2],.pointer (some ⟨w.heap.size+1,0,none⟩),.int .i64 st,.slice A' R.length c',.agg #[.int .i64 st,s1,.int .i64 n1,s2,.int .i64 n2,.slice A L.length c],.func (.func 83) #[] #[.pointer (some ⟨w1.heap.size+1+1,0,none⟩)],.int .i64 x,undef,undef,undef,undef,undef,undef,undef,undef,undef,undef,undef],defers:=[] }) ?assign ?body ?done ?stop
 case assign=>
  intro l x W K hK
  gi_wp2
  exact hK
 case body=>
  rintro l pre x W ⟨⟨hF,hall⟩,hB⟩ hlt;have cS:=(hB.cell (p:=⟨w1.heap.size,0,none⟩) (Nat.lt_succ_self _)).trans bS4.cell;have cF:=hF.cell;have fF:=hF.frozen;have hRW:Ra D' W (.sl 1 false (R.map intA)) (.slice A' R.length c'):=hR4.frame (fun _ h=>h) hB.size (fun b hb hl=>hB.block b (hDn' b hb));have HRW:=Lib.hid hRW;have HKK:=Lib.hid HK0;clear hRW hR4 hL4 hc5 hB04 bS4 bF4 HK0
  gi_wp2
  gi_loopw [19] (fun i wr=>∃ k:Nat,k≤R.length∧i=.int .i64 k∧(∀ y∈R.take k,y ≠ x)∧wr=W)
   (fun i _=>R.length-(intOf i).toNat)
  case atStart=>exact ⟨0,Nat.zero_le _,rfl,by simp,rfl⟩
  case round=>
   obtain ⟨k,hk,rfl,hne,rfl⟩:=hrel;by_cases hlt2:k<R.length
   ·obtain ⟨b,off,hA,hbk,_,hc1⟩:=Qtg HRW.out hlt2;subst hA;have hst:R.take (k+1)=R.take k++[R[k]]:=List.take_succ_eq_append_getElem hlt2;have HST:=Lib.hid hst;have HM:Hid (R[k]∈R):=Lib.hid (List.getElem_mem hlt2);clear hst;generalize R[k]=y at *;by_cases hxy:y=x
    ·subst hxy
     gi_wp2
     exact ⟨(KeepsOthers.setCell wr ⟨w1.heap.size+1,0,none⟩ (.bool true)).from _,⟨rfl,⟨y,by simp,HM.out⟩,hF.set _⟩,hB.setCell (p:=⟨w1.heap.size+1,0,none⟩) (Nat.le_refl _) _⟩
    ·gi_wp2
     go_roundw
     case rel=>exact ⟨k+1,by omega,by go_num,by rw [HST.out];intro z hz;rcases List.mem_append.1 hz with hz | hz;exact hne z hz;rw [List.mem_singleton.1 hz];exact hxy,trivial⟩
     case measure=>simp [intOf];omega
   ·obtain rfl:k=R.length:=by omega
    gi_wp2
    exact ⟨KeepsFrom.refl _ _,Below.refl _ _,⟨hF,fun z hz=>(List.mem_append.1 hz).elim (hall z) (fun h hR=>by rw [List.mem_singleton.1 h] at hR;exact hne x (by rw [List.take_length];exact hR) rfl)⟩,hB⟩
 case done=>
  rintro D1 ys W hD1 rfl ⟨⟨hF,hall⟩,hB⟩ hK;have cF:=hF.cell;have hcc:=cell_kept cF (grownBy_putObj' _ D1 (.deferred none)) (fun r e=>by cases e;exact ⟨_,hK,rfl⟩)
  gi_wp2
  refine HK0.out _ _ ?_
  gi_wp2
  refine ⟨by simp,.inl ⟨_,_,rfl,run_takeDeferred hK,?_⟩⟩;refine ⟨_,results_tmp rfl _ _ _,?_,(hB04.trans (hB.mono (by omega))).trans (belowK_b (w:=w) (Nat.le_refl _) W D1 _ _ (by omega) hK rfl rfl)⟩;have hh:(∃ x,x∈ys∧x∈R)=False:=by simp only [eq_iff_iff,iff_false];rintro ⟨x,hx,hr⟩;exact hall x hx hr
  simp [hh]
 case stop=>
  rintro D1 c pre W hD1 hpre ⟨⟨rfl,⟨x,hxm,hx⟩,hF⟩,hB⟩ hK;have cF:=hF.cell;have hcc:=cell_kept cF (grownBy_putObj' _ D1 (.deferred none)) (fun r e=>by cases e;exact ⟨_,hK,rfl⟩)
  gi_wp2
  refine HK0.out _ _ ?_
  gi_wp2
  refine ⟨by simp,.inl ⟨_,_,rfl,run_takeDeferred hK,?_⟩⟩;refine ⟨_,results_tmp rfl _ _ _,?_,(hB04.trans (hB.mono (by omega))).trans (belowK_b (w:=w) (Nat.le_refl _) W D1 _ _ (by omega) hK rfl rfl)⟩;have hh:(∃ x,x∈L∧x∈R)=True:=eq_true ⟨x,hpre.subset hxm,hx⟩;simp [hh]
end Go.Proofs.YtahlldgocpabjaaGreat

namespace Go.Proofs.YtahlldgocpabjaaGreat
open Go Go.RowKit Copyhold Go.Proofs.Tryz
theorem Zc8 {D:Nat→Prop} {w:World} {cs:List AV} {v:Value} (h:Ra D w (.agg cs) v):∃ vs:Array Value,v=.agg vs∧cs.length=vs.size∧∀ (j:Nat) (x:AV) (u:Value),cs[j]?=some x→vs[j]?=some u→Ra D w x u:=by
 cases h with
 | agg cs vs h1 h2 h3=>exact ⟨vs,rfl,h1,h3⟩
theorem Qxi {D:Nat→Prop} {w:World} {L:List Int} {t:Bool} {v:Value} (h:Ra D w (.sl 1 t (L.map intA)) v):∃ A c,v=.slice A L.length c:=by
 generalize hx:(AV.sl 1 t (L.map intA))=x at h;cases h<;>cases hx;exact ⟨_,_,by rw [List.length_map]⟩
theorem Qvn {D:Nat→Prop} {w:World} {u v:Value} (h:Ra D w (.val u) v):v=u:=by
 cases h;rfl
theorem arr2 {vs:Array Value} (h:2=vs.size):∃ a b,vs=#[a,b]:=by
 rcases vs with ⟨l⟩
 match l,h with
 | [a,b],_=>exact ⟨a,b,rfl⟩
theorem arr3 {vs:Array Value} (h:3=vs.size):∃ a b c,vs=#[a,b,c]:=by
 rcases vs with ⟨l⟩
 match l,h with
 | [a,b,c],_=>exact ⟨a,b,c,rfl⟩
theorem arr6 {vs:Array Value} (h:6=vs.size):∃ a b c d e f,vs=#[a,b,c,d,e,f]:=by
 rcases vs with ⟨l⟩
 match l,h with
 | [a,b,c,d,e,f],_=>exact ⟨a,b,c,d,e,f,rfl⟩
theorem Qlh (s:Sto) (t:Txn) (oks:OkS s) (hf:s.l.length≤100000) (okt:OkT t):Qah prog 36 [.agg (stoA s),.agg (txnA t)] (aB (dP (Qes s t))):=by
 intro D w vs hD hvs;obtain ⟨hlen,hv⟩:=hvs;obtain ⟨v0,v1,rfl⟩:=arr2 hlen;have r0:=hv 0 _ v0 rfl rfl;obtain ⟨vs1,rfl,hl1,h1⟩:=Zc8 (hv 1 _ v1 rfl rfl);obtain ⟨vs0,rfl,hl0,h0⟩:=Zc8 r0;obtain ⟨q0,q1,q2,rfl⟩:=arr3 hl0;obtain ⟨a0,a1,a2,a3,a4,a5,rfl⟩:=arr6 hl1;obtain rfl:=Qvn (h1 0 _ a0 rfl rfl);obtain rfl:=Qvn (h1 2 _ a2 rfl rfl);obtain rfl:=Qvn (h1 4 _ a4 rfl rfl);have r5:=h1 5 _ a5 rfl rfl;obtain ⟨A,c,rfl⟩:=Qxi r5;have hbl:=okt.len;have hsl:=Qsl s t.stamp;refine (callsIn_wide (n:=3)).1 ((Zka 3 (Nat.le_refl _) q0 q1 q2 t.stamp t.was.next t.now.next a1 a3 A c t.looks (Qby s t.stamp) (by omega) (by omega) w D hD r5 ?_).mono ?_)
 ·intro W hW;refine (callsIn_wide.2 (Qzi s t.stamp oks hf D W #[.agg #[q0,q1,q2],.int .i64 t.stamp] (fun b hb=>Nat.lt_of_lt_of_le (hD b hb) hW.size) ⟨rfl,fun j x v hj hvj=>?_⟩)).mono ?_
  ·match j,hj,hvj with
   | 0,hj,hvj=>cases hj;cases hvj;exact r0.frame (fun _ h=>h) hW.size (fun b hb hl=>hW.block b hl)
   | 1,hj,hvj=>cases hj;cases hvj;exact .val _
  ·rintro e W' ⟨v,D',rfl,hb,_,hD',hr⟩;obtain ⟨A',c',rfl⟩:=Qxi hr;exact ⟨A',c',D',rfl,hb,hr,fun b hb=>(hD' b hb).1⟩
 ·rintro e w' ⟨rfl,hb⟩;refine ⟨_,D,rfl,hb,fun _ h=>h,fun b h=>⟨Nat.lt_of_lt_of_le (hD b h) hb.size,.inl h⟩,?_⟩;have e:decide (∃ x∈t.looks,x∈Qby s t.stamp)=dP (Qes s t):=by
   by_cases h:∃ x∈t.looks,x∈Qby s t.stamp
   ·obtain ⟨x,h1,h2⟩:=h;rw [Qaw.2 ⟨x,h2,h1⟩];exact decide_eq_true ⟨x,h1,h2⟩
   ·rw [decide_eq_false h];exact (Qab.2 (fun ⟨x,h2,h1⟩=>h ⟨x,h1,h2⟩)).symm
  rw [e];exact .val _
end Go.Proofs.YtahlldgocpabjaaGreat
