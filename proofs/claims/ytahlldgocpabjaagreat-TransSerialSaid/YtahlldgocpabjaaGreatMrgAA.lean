import Derived.Test.YtahlldgocpabjaaGreatAl
import Derived.Test.YtahlldgocpabjaaGreatMrgZ
set_option maxRecDepth 100000
set_option maxHeartbeats 8000000
set_option linter.unusedVariables false
set_option linter.unusedSimpArgs false
namespace Go.Proofs.YtahlldgocpabjaaGreat
open Go Go.RowKit Copyhold Go.Proofs.Tryz
theorem Ziw (v:Ver):Qai prog 154 [.agg (verA v)] (aI v.stamp):=by
 exact Qae func154 (
 .new fun b1=>.r 1<|.u 3 [b1]<|
 .fi (aI v.stamp) [])
theorem Ziv (c:Cnt):Qai prog 155 [.agg [aI c.stamp,aI c.next]] (aI c.stamp):=by
 exact Qae func155 (
 .new fun b1=>.r 1<|.u 3 [b1]<|
 .fi (aI c.stamp) [])
theorem Qv8 :Qai prog 92 [] (.tup [.val (.func (.func 154) #[] #[]),.val (.func (.func 155) #[] #[])]):=by
 exact Qae func92 (let R:AV:=.tup [.val (.func (.func 154) #[] #[]),.val (.func (.func 155) #[] #[])];
 .r 2<|.r 2<|.fi R [])
theorem Qlj {ino:Int} {v:Ver} (h1:v.gone=true→v.n=nod0) (h2:v.gone=false→nodP v.n∧v.n.ino=ino):verP ino v:=⟨h1,h2⟩
theorem Zcs (c:Chn) (last:Int) (okc:OkC c):Qai prog 77 [.agg [aI c.ino,.sl 7 false (c.l.map verA)],aI last] (aB (dP (Qqs last c))):=by
 have hcl:=okc.2.1;exact Qae func77 (let R:AV:=aB (dP (Qqs last c));
 .new fun b1=>.r 1<|.u 4 [b1]<|
 .bd 12 (c.ino<1) (fun p1=>.r 5<|.r 1<|.f R [] (aB false) (by
  refine sF (fun h=>?_);obtain ⟨g1,⟨g2,_⟩,g3⟩:=h;omega))
 <| fun p1=>.u 3 [b1]<|
 .lm 15 c.l verA<|.r 2<|.bd 17 ((c.l.length:Int)<1) (fun p2=>.r 1<|.f R [] (aB false) (by
  refine sF (fun h=>?_);obtain ⟨g1,⟨g2,_⟩,g3⟩:=h;omega))
 <| fun p2=>.r 1<|let L1:Lp (Nat):=⟨fun a1=>⟨[(1,aI last),(2,.ptr 2 b1 0),(5,aI (a1:Int))],[(2,.box b1 98 [aI c.ino,.sl 7 false (c.l.map verA)])]⟩,fun a1=>c.l.length-a1,fun a1=>a1≤c.l.length∧Qba (Zdm Ver.stamp last c.l) c.l a1∧Qba (fun _ v=>verP c.ino v) c.l a1⟩
 .lp L1 0 ⟨W0j _,Qba.zero _ _,Qba.zero _ _⟩ [(5,aI 0)] [] ⟨sR,sR,sO,trivial⟩ bb1 fun a1 ha1=>
 (fun (k:Nat) (hH1:k≤c.l.length∧Qba (Zdm Ver.stamp last c.l) c.l k∧Qba (fun _ v=>verP c.ino v) c.l k)=>.u 4 [b1]<|
 .lm 21 c.l verA<|.r 1<|.bd 22 ((k:Int)<(c.l.length:Int)) (fun p3=>.u 3 [b1]<|
 .idxM c.l verA k (m:=(k:Int)) rfl (by omega) fun x1 hx1=>
 have okx1:=okc.2.2 x1 (W0h hx1);.r 1<|.new fun b2=>.u 1 [b2]<|
 .u 2 [b2]<|
 .call (Qh4 x1.n (okx1).2)<|
 .r 1<|.bb 33 (dP (nodP x1.n)) (fun p4=>.u 8 [b2,b1]<|
 .u 3 [b2]<|
 .cs (args0:=[.agg (nodA x1.n),.agg [aI 0,aI 0,aI 0,aS ([]),aN]]) (Qem x1.n nod0 (okx1).2 Qlr) ⟨sR,W2t ⟨sR,sR,sR,sR,Sub.nil _ _,trivial⟩,trivial⟩<|
 .r 1<|.ord [0,1,2,3,4,5,6,7,8,9,10,11,12,13,14,15,16,17,18,19,20,21,22,23,24,25,26,27,28,29,30,31,32,33,34,35,36,37,38,39,40,41]<|.u 4 [b2]<|
 .bd 48 (x1.stamp<1) (fun p5=>.r 38<|.r 1<|.f R [] (aB false) (by
  refine sF (fun h=>?_);obtain ⟨g1,g2,g3⟩:=h.2.1.2.at hx1;obtain ⟨g4,g5⟩:=h.2.2.at hx1
  first | omega | (simp_all [Qad];done) | (simp_all [Qad];omega)))
 <| fun p5=>.u 6 [b2]<|
 .bd 54 (x1.stamp>last) (fun p6=>.r 32<|.r 1<|.f R [] (aB false) (by
  refine sF (fun h=>?_);obtain ⟨g1,g2,g3⟩:=h.2.1.2.at hx1;obtain ⟨g4,g5⟩:=h.2.2.at hx1
  first | omega | (simp_all [Qad];done) | (simp_all [Qad];omega)))
 <| fun p6=>.r 3<|.bd 57 ((k:Int)>0) (fun p7=>.run 4 [b1=b1,rng .i64 ((k:Int)-1)] ⟨rfl,Qah,trivial⟩<|
 .idxM c.l verA (k-1) (m:=(k:Int)-1) (by omega) (by omega) fun x2 hx2=>
 have okx2:=okc.2.2 x2 (W0h hx2);.u 8 [b2]<|
 .bd 70 (x2.stamp≥x1.stamp) (fun p8=>.r 16<|.r 1<|.f R [] (aB false) (by
  refine sF (fun h=>?_);obtain ⟨g1,g2,g3⟩:=h.2.1.2.at hx1;obtain ⟨g4,g5⟩:=h.2.2.at hx1
  first | omega | (have:=g3 _ (by omega) hx2;omega) | (simp_all [Qad];done) | (simp_all [Qad];omega)))
 <| fun p8=>.u 3 [b2]<|
 .br 73 (x1.gone) (fun q9=>have p9:=booT q9;.r 5<|.nbb 78 (dP (x1.n=nod0)) (fun p10=>.r 8<|.r 1<|.f R [] (aB false) (by
  refine sF (fun h=>?_);obtain ⟨g1,g2,g3⟩:=h.2.1.2.at hx1;obtain ⟨g4,g5⟩:=h.2.2.at hx1
  first | omega | (have:=g3 _ (by omega) hx2;omega) | (simp_all [Qad];done) | (simp_all [Qad];omega)))
 <| fun p10=>.u 4 [b2]<|
 .is 82 (show (!x1.gone)=false from by rw [q9];rfl)<|.r 4<|.run 3 [rng .i64 ((k:Int)+1)] ⟨Qah,trivial⟩<|
 .bk L1 k (k+1) ⟨by omega,hH1.2.1.step hx1 ⟨by omega,by omega,by intro d h0 hd;first | omega | (rw [hd] at hx2;obtain rfl:=W0c hx2;omega)⟩,hH1.2.2.step hx1 (by first | exact Qlj (by simp_all [Qau,Qad]) (by simp_all [Qau,Qad]) | skip)⟩ (show c.l.length-(k+1)<c.l.length-k from (by omega)) [(5,aI ((k:Int)+1))] [] ⟨sR,sR,sO,trivial⟩ bb1)
 <| fun q9=>have p9:=booF q9;.u 9 [b2]<|
 .is 82 (show (!x1.gone)=true from by rw [q9];rfl)<|.r 4<|.nbe 86 x1.n.ino c.ino (fun p11=>.r 1<|.f R [] (aB false) (by
  refine sF (fun h=>?_);obtain ⟨g1,g2,g3⟩:=h.2.1.2.at hx1;obtain ⟨g4,g5⟩:=h.2.2.at hx1
  first | omega | (have:=g3 _ (by omega) hx2;omega) | (simp_all [Qad];done) | (simp_all [Qad];omega)))
 <| fun p11=>.run 3 [rng .i64 ((k:Int)+1)] ⟨Qah,trivial⟩<|
 .bk L1 k (k+1) ⟨by omega,hH1.2.1.step hx1 ⟨by omega,by omega,by intro d h0 hd;first | omega | (rw [hd] at hx2;obtain rfl:=W0c hx2;omega)⟩,hH1.2.2.step hx1 (by first | exact Qlj (by simp_all [Qau,Qad]) (by simp_all [Qau,Qad]) | skip)⟩ (show c.l.length-(k+1)<c.l.length-k from (by omega)) [(5,aI ((k:Int)+1))] [] ⟨sR,sR,sO,trivial⟩ bb1)
 <| fun p7=>.u 16 [b2]<|
 .br 73 (x1.gone) (fun q12=>have p12:=booT q12;.r 5<|.nbb 78 (dP (x1.n=nod0)) (fun p13=>.r 8<|.r 1<|.f R [] (aB false) (by
  refine sF (fun h=>?_);obtain ⟨g1,g2,g3⟩:=h.2.1.2.at hx1;obtain ⟨g4,g5⟩:=h.2.2.at hx1
  first | omega | (simp_all [Qad];done) | (simp_all [Qad];omega)))
 <| fun p13=>.u 4 [b2]<|
 .is 82 (show (!x1.gone)=false from by rw [q12];rfl)<|.r 4<|.run 3 [rng .i64 ((k:Int)+1)] ⟨Qah,trivial⟩<|
 .bk L1 k (k+1) ⟨by omega,hH1.2.1.step hx1 ⟨by omega,by omega,by intro d h0 hd;omega⟩,hH1.2.2.step hx1 (by first | exact Qlj (by simp_all [Qau,Qad]) (by simp_all [Qau,Qad]) | skip)⟩ (show c.l.length-(k+1)<c.l.length-k from (by omega)) [(5,aI ((k:Int)+1))] [] ⟨sR,sR,sO,trivial⟩ bb1)
 <| fun q12=>have p12:=booF q12;.u 9 [b2]<|
 .is 82 (show (!x1.gone)=true from by rw [q12];rfl)<|.r 4<|.nbe 86 x1.n.ino c.ino (fun p14=>.r 1<|.f R [] (aB false) (by
  refine sF (fun h=>?_);obtain ⟨g1,g2,g3⟩:=h.2.1.2.at hx1;obtain ⟨g4,g5⟩:=h.2.2.at hx1
  first | omega | (simp_all [Qad];done) | (simp_all [Qad];omega)))
 <| fun p14=>.run 3 [rng .i64 ((k:Int)+1)] ⟨Qah,trivial⟩<|
 .bk L1 k (k+1) ⟨by omega,hH1.2.1.step hx1 ⟨by omega,by omega,by intro d h0 hd;omega⟩,hH1.2.2.step hx1 (by first | exact Qlj (by simp_all [Qau,Qad]) (by simp_all [Qau,Qad]) | skip)⟩ (show c.l.length-(k+1)<c.l.length-k from (by omega)) [(5,aI ((k:Int)+1))] [] ⟨sR,sR,sO,trivial⟩ bb1)
 <| fun p4=>.r 8<|.u 3 [b2]<|
 .cs (args0:=[.agg (nodA x1.n),.agg [aI 0,aI 0,aI 0,aS ([]),aN]]) (Qem x1.n nod0 (okx1).2 Qlr) ⟨sR,W2t ⟨sR,sR,sR,sR,Sub.nil _ _,trivial⟩,trivial⟩<|
 .r 1<|.ord [0,1,2,3,4,5,6,7,8,9,10,11,12,13,14,15,16,17,18,19,20,21,22,23,24,25,26,27,28,29,30,31,32,33,34,35,36,37,38,39,40,41]<|.u 4 [b2]<|
 .bd 48 (x1.stamp<1) (fun p15=>.r 38<|.r 1<|.f R [] (aB false) (by
  refine sF (fun h=>?_);obtain ⟨g1,g2,g3⟩:=h.2.1.2.at hx1;obtain ⟨g4,g5⟩:=h.2.2.at hx1
  first | omega | (simp_all [Qad];done) | (simp_all [Qad];omega)))
 <| fun p15=>.u 6 [b2]<|
 .bd 54 (x1.stamp>last) (fun p16=>.r 32<|.r 1<|.f R [] (aB false) (by
  refine sF (fun h=>?_);obtain ⟨g1,g2,g3⟩:=h.2.1.2.at hx1;obtain ⟨g4,g5⟩:=h.2.2.at hx1
  first | omega | (simp_all [Qad];done) | (simp_all [Qad];omega)))
 <| fun p16=>.r 3<|.bd 57 ((k:Int)>0) (fun p17=>.run 4 [b1=b1,rng .i64 ((k:Int)-1)] ⟨rfl,Qah,trivial⟩<|
 .idxM c.l verA (k-1) (m:=(k:Int)-1) (by omega) (by omega) fun x3 hx3=>
 have okx3:=okc.2.2 x3 (W0h hx3);.u 8 [b2]<|
 .bd 70 (x3.stamp≥x1.stamp) (fun p18=>.r 16<|.r 1<|.f R [] (aB false) (by
  refine sF (fun h=>?_);obtain ⟨g1,g2,g3⟩:=h.2.1.2.at hx1;obtain ⟨g4,g5⟩:=h.2.2.at hx1
  first | omega | (have:=g3 _ (by omega) hx3;omega) | (simp_all [Qad];done) | (simp_all [Qad];omega)))
 <| fun p18=>.u 3 [b2]<|
 .br 73 (x1.gone) (fun q19=>have p19:=booT q19;.r 5<|.nbb 78 (dP (x1.n=nod0)) (fun p20=>.r 8<|.r 1<|.f R [] (aB false) (by
  refine sF (fun h=>?_);obtain ⟨g1,g2,g3⟩:=h.2.1.2.at hx1;obtain ⟨g4,g5⟩:=h.2.2.at hx1
  first | omega | (have:=g3 _ (by omega) hx3;omega) | (simp_all [Qad];done) | (simp_all [Qad];omega)))
 <| fun p20=>.u 4 [b2]<|
 .is 82 (show (!x1.gone)=false from by rw [q19];rfl)<|.r 4<|.run 3 [rng .i64 ((k:Int)+1)] ⟨Qah,trivial⟩<|
 .bk L1 k (k+1) ⟨by omega,hH1.2.1.step hx1 ⟨by omega,by omega,by intro d h0 hd;first | omega | (rw [hd] at hx3;obtain rfl:=W0c hx3;omega)⟩,hH1.2.2.step hx1 (by first | exact Qlj (by simp_all [Qau,Qad]) (by simp_all [Qau,Qad]) | skip)⟩ (show c.l.length-(k+1)<c.l.length-k from (by omega)) [(5,aI ((k:Int)+1))] [] ⟨sR,sR,sO,trivial⟩ bb1)
 <| fun q19=>have p19:=booF q19;.u 9 [b2]<|
 .is 82 (show (!x1.gone)=true from by rw [q19];rfl)<|.r 4<|.r 1<|.f R [] (aB false) (by
  refine sF (fun h=>?_);obtain ⟨g1,g2,g3⟩:=h.2.1.2.at hx1;obtain ⟨g4,g5⟩:=h.2.2.at hx1
  first | omega | (have:=g3 _ (by omega) hx3;omega) | (simp_all [Qad];done) | (simp_all [Qad];omega)))
 <| fun p17=>.u 16 [b2]<|
 .br 73 (x1.gone) (fun q21=>have p21:=booT q21;.r 5<|.nbb 78 (dP (x1.n=nod0)) (fun p22=>.r 8<|.r 1<|.f R [] (aB false) (by
  refine sF (fun h=>?_);obtain ⟨g1,g2,g3⟩:=h.2.1.2.at hx1;obtain ⟨g4,g5⟩:=h.2.2.at hx1
  first | omega | (simp_all [Qad];done) | (simp_all [Qad];omega)))
 <| fun p22=>.u 4 [b2]<|
 .is 82 (show (!x1.gone)=false from by rw [q21];rfl)<|.r 4<|.run 3 [rng .i64 ((k:Int)+1)] ⟨Qah,trivial⟩<|
 .bk L1 k (k+1) ⟨by omega,hH1.2.1.step hx1 ⟨by omega,by omega,by intro d h0 hd;omega⟩,hH1.2.2.step hx1 (by first | exact Qlj (by simp_all [Qau,Qad]) (by simp_all [Qau,Qad]) | skip)⟩ (show c.l.length-(k+1)<c.l.length-k from (by omega)) [(5,aI ((k:Int)+1))] [] ⟨sR,sR,sO,trivial⟩ bb1)
 <| fun q21=>have p21:=booF q21;.u 9 [b2]<|
 .is 82 (show (!x1.gone)=true from by rw [q21];rfl)<|.r 4<|.r 1<|.f R [] (aB false) (by
  refine sF (fun h=>?_);obtain ⟨g1,g2,g3⟩:=h.2.1.2.at hx1;obtain ⟨g4,g5⟩:=h.2.2.at hx1
  first | omega | (simp_all [Qad];done) | (simp_all [Qad];omega)))
 <| fun p3=>.r 1<|.f R [] (aB true) (by refine sT ⟨by omega,⟨by omega,hH1.2.1.full (by omega)⟩,hH1.2.2.full (by omega)⟩)) a1 ha1)
theorem Qwk (s:Sto) (oks:OkS s):Qai prog 42 [.agg (stoA s)] (aB (dP (Qb7 s))):=by
 have hb1:=oks.2.1;have hb2:=oks.2.2.1;exact Qae func42 (let R:AV:=aB (dP (Qb7 s));
 .new fun b1=>.r 1<|.u 4 [b1]<|
 .br 10 (decide (s.stamp<1)) (fun q1=>have p1:=decT q1;.r 5<|.r 1<|.f R [] (aB false) (by
  refine sF (fun h=>?_);obtain ⟨g1,⟨g2,_⟩,g3⟩:=h;omega))
 <| fun q1=>have p1:=decF q1;.u 3 [b1]<|
 .lm 13 s.nexts cntA<|.r 2<|.br 15 (decide ((s.nexts.length:Int)<1)) (fun q2=>have p2:=decT q2;.r 1<|.f R [] (aB false) (by
  refine sF (fun h=>?_);obtain ⟨g1,⟨g2,_⟩,g3⟩:=h;omega))
 <| fun q2=>have p2:=decF q2;.r 1<|let L1:Lp (Nat):=⟨fun a1=>⟨[(1,.ptr 1 b1 0),(3,aI (a1:Int))],[(1,.box b1 25 (stoA s))]⟩,fun a1=>s.l.length-a1,fun a1=>a1≤s.l.length∧Qba (Zoz s) s.l a1⟩
 .lp L1 0 ⟨W0j _,Qba.zero _ _⟩ [(3,aI 0)] [] ⟨sR,sO,trivial⟩ bb1 fun a1 ha1=>
 (fun (k:Nat) (hH1:k≤s.l.length∧Qba (Zoz s) s.l k)=>.u 4 [b1]<|
 .lm 19 s.l chnA<|.r 1<|.br 20 (decide ((k:Int)<(s.l.length:Int))) (fun q3=>have p3:=decT q3;.ord [0,1,2,3,4,5,6,7,8]<|.u 3 [b1]<|
 .idxM s.l chnA k (m:=(k:Int)) rfl (by omega) fun x1 hx1=>
 have okx1:=oks.2.2.2.1 x1 (W0h hx1);have blx1:=okx1.2.1;.u 3 [b1]<|
 .call (Zcs x1 s.stamp okx1)<|
 .r 1<|.ord [0,1,2,3,4,5,6,7,8,9,10,11,12,13,14,15,16,17,18,19,20,21]<|.r 3<|.br 33 (!(dP (Qqs s.stamp x1))) (fun q4=>have q4:=notT q4;have p4:=booF q4;.r 19<|.r 1<|.f R [] (aB false) (by
  refine sF (fun h=>?_);obtain ⟨g1,g2⟩:=h.2.2.2.at hx1
  first | exact Qad.1 (by assumption) g1 ))
 <| fun q4=>have q4:=notF q4;have p4:=booT q4;.r 3<|.br 36 (decide ((k:Int)>0)) (fun q5=>have p5:=decT q5;.run 4 [b1=b1,rng .i64 ((k:Int)-1)] ⟨rfl,Qah,trivial⟩<|
 .idxM s.l chnA (k-1) (m:=(k:Int)-1) (by omega) (by omega) fun x2 hx2=>
 have okx2:=oks.2.2.2.1 x2 (W0h hx2);have blx2:=okx2.2.1;.u 5 [b1]<|
 .idx k (m:=(k:Int)) (xs:=s.l.map chnA) (e:=chnA x1) rfl (map_some hx1)<|
 .r 5<|.br 52 (decide (x2.ino≥x1.ino)) (fun q6=>have p6:=decT q6;.r 1<|.f R [] (aB false) (by
  refine sF (fun h=>?_);obtain ⟨g1,g2⟩:=h.2.2.2.at hx1
  first | exact Qad.1 (by assumption) g1 | (have:=g2 _ (by omega) hx2;omega)))
 <| fun q6=>have p6:=decF q6;.run 3 [rng .i64 ((k:Int)+1)] ⟨Qah,trivial⟩<|
 .bk L1 k (k+1) ⟨by omega,hH1.2.step hx1 ⟨Qau.1 (by assumption),by intro d h0 hd;first | omega | (rw [hd] at hx2;obtain rfl:=W0c hx2;omega)⟩⟩ (show s.l.length-(k+1)<s.l.length-k from (by omega)) [(3,aI ((k:Int)+1))] [] ⟨sR,sO,trivial⟩ bb1)
 <| fun q5=>have p5:=decF q5;.r 16<|.run 3 [rng .i64 ((k:Int)+1)] ⟨Qah,trivial⟩<|
 .bk L1 k (k+1) ⟨by omega,hH1.2.step hx1 ⟨Qau.1 (by assumption),by intro d h0 hd;omega⟩⟩ (show s.l.length-(k+1)<s.l.length-k from (by omega)) [(3,aI ((k:Int)+1))] [] ⟨sR,sO,trivial⟩ bb1)
 <| fun q3=>have p3:=decF q3;.r 1<|let L2:Lp (Nat):=⟨fun a2=>⟨[(1,.ptr 1 b1 0),(5,aI (a2:Int))],[(1,.box b1 25 (stoA s))]⟩,fun a2=>s.nexts.length-a2,fun a2=>a2≤s.nexts.length∧Qba (Zdm Cnt.stamp s.stamp s.nexts) s.nexts a2∧Qba (fun _ (c:Cnt)=>1≤c.next) s.nexts a2⟩
 .lp L2 0 ⟨W0j _,Qba.zero _ _,Qba.zero _ _⟩ [(5,aI 0)] [] ⟨sR,sO,trivial⟩ bb1 fun a2 ha2=>
 (fun (k:Nat) (hH2:k≤s.nexts.length∧Qba (Zdm Cnt.stamp s.stamp s.nexts) s.nexts k∧Qba (fun _ (c:Cnt)=>1≤c.next) s.nexts k)=>.u 4 [b1]<|
 .lm 56 s.nexts cntA<|.r 1<|.bd 57 ((k:Int)<(s.nexts.length:Int)) (fun p7=>.u 3 [b1]<|
 .idxM s.nexts cntA k (m:=(k:Int)) rfl (by omega) fun x3 hx3=>
 have okx3:=oks.2.2.2.2 x3 (W0h hx3);.r 1<|.new fun b2=>.u 1 [b2]<|
 .ord [0,1,2,3,4,5,6,7,8,9,10,11,12,13,14,15,16,17,18,19,20,21,22,23,24,25,26,27,28,29,30]<|.u 4 [b2]<|
 .bd 68 (x3.stamp<1) (fun p8=>.r 27<|.r 1<|.f R [] (aB false) (by
  refine sF (fun h=>?_);obtain ⟨g1,g2,g3⟩:=h.2.1.2.at hx3;have g4:=h.2.2.1.at hx3
  first | omega ))
 <| fun p8=>.u 7 [b2,b1]<|
 .bd 75 (x3.stamp>s.stamp) (fun p9=>.r 20<|.r 1<|.f R [] (aB false) (by
  refine sF (fun h=>?_);obtain ⟨g1,g2,g3⟩:=h.2.1.2.at hx3;have g4:=h.2.2.1.at hx3
  first | omega ))
 <| fun p9=>.u 5 [b2]<|
 .bd 80 (x3.next<1) (fun p10=>.r 15<|.r 1<|.f R [] (aB false) (by
  refine sF (fun h=>?_);obtain ⟨g1,g2,g3⟩:=h.2.1.2.at hx3;have g4:=h.2.2.1.at hx3
  first | omega ))
 <| fun p10=>.r 3<|.bd 83 ((k:Int)>0) (fun p11=>.run 4 [b1=b1,rng .i64 ((k:Int)-1)] ⟨rfl,Qah,trivial⟩<|
 .idxM s.nexts cntA (k-1) (m:=(k:Int)-1) (by omega) (by omega) fun x4 hx4=>
 have okx4:=oks.2.2.2.2 x4 (W0h hx4);.u 7 [b2]<|
 .bd 95 (x4.stamp≥x3.stamp) (fun p12=>.r 1<|.f R [] (aB false) (by
  refine sF (fun h=>?_);obtain ⟨g1,g2,g3⟩:=h.2.1.2.at hx3;have g4:=h.2.2.1.at hx3
  first | omega | (have:=g3 _ (by omega) hx4;omega)))
 <| fun p12=>.run 3 [rng .i64 ((k:Int)+1)] ⟨Qah,trivial⟩<|
 .bk L2 k (k+1) ⟨by omega,hH2.2.1.step hx3 ⟨by omega,by omega,by intro d h0 hd;first | omega | (rw [hd] at hx4;obtain rfl:=W0c hx4;omega)⟩,hH2.2.2.step hx3 (by show 1≤x3.next;omega)⟩ (show s.nexts.length-(k+1)<s.nexts.length-k from (by omega)) [(5,aI ((k:Int)+1))] [] ⟨sR,sO,trivial⟩ bb1)
 <| fun p11=>.r 12<|.run 3 [rng .i64 ((k:Int)+1)] ⟨Qah,trivial⟩<|
 .bk L2 k (k+1) ⟨by omega,hH2.2.1.step hx3 ⟨by omega,by omega,by intro d h0 hd;omega⟩,hH2.2.2.step hx3 (by show 1≤x3.next;omega)⟩ (show s.nexts.length-(k+1)<s.nexts.length-k from (by omega)) [(5,aI ((k:Int)+1))] [] ⟨sR,sO,trivial⟩ bb1)
 <| fun p7=>.r 1<|.f R [] (aB true) (by exact sT ⟨by omega,⟨by omega,hH2.2.1.full (by omega)⟩,hH2.2.2.full (by omega),hH1.2.full (by omega)⟩)) a2 ha2) a1 ha1)
theorem Qts (l:List Ver) (st:Int) (hl:l.length≤8796093022207):Qai prog 93 [.sl 7 false (l.map verA),.val (.func (.func 154) #[] #[]),aI st] (aI ((cutV Ver.stamp st l:Int)-1)):=by
 exact Qae func93 (
 .r 1<|.r 2<|.lm 9 l verA<|.run 2 [rng .i64 ((l.length:Int)-1)] ⟨Qah,trivial⟩<|
 let L1:Lp (Nat):=⟨fun a1=>⟨[(0,.sl 7 false (l.map verA)),(1,.val (.func (.func 154) #[] #[])),(2,aI st),(7,aI ((a1:Int)-1))],[]⟩,fun a1=>a1,fun a1=>a1≤l.length∧∀ j y,a1≤j→l[j]?=some y→st<Ver.stamp y⟩
 .lp L1 l.length (show l.length≤l.length∧∀ j y,l.length≤j→l[j]?=some y→st<Ver.stamp y from (Zi7 _ _ _)) [] [] sr4 trivial fun a1 ha1=>
 (fun (k:Nat) (hH1:k≤l.length∧∀ j y,k≤j→l[j]?=some y→st<Ver.stamp y)=>.r 3<|.bd 13 (((k:Int)-1)≥0) (fun p1=>.r 3<|.idxM l verA (k-1) (m:=(k:Int)-1) (by omega) (by omega) fun x1 hx1=>
 .r 1<|.call (Ziw x1)<|
 .r 3<|.bd 22 (x1.stamp>st) (fun p2=>.run 3 [rng .i64 (((k:Int)-1)-1)] ⟨Qah,trivial⟩<|
 .bk L1 k (k-1) (show (k-1)≤l.length∧∀ j y,(k-1)≤j→l[j]?=some y→st<Ver.stamp y from (Zi6 hx1 hH1.1 hH1.2 (by omega))) (show (k-1)<k from (by omega)) [(7,aI (((k:Int)-1)-1))] [] ⟨sR,sR,sR,sO,trivial⟩ trivial)
 <| fun p2=>.r 2<|.f (aI ((cutV Ver.stamp st l:Int)-1)) [] (aI ((k:Int)-1)) (by exact W2p (by rw [Qg1 Ver.stamp st l k hH1.1 hH1.2 (.inr ⟨x1,hx1,by omega⟩)])))
 <| fun p1=>.r 9<|.r 2<|.f (aI ((cutV Ver.stamp st l:Int)-1)) [] (aI ((k:Int)-1)) (by exact W2p (by rw [Qg1 Ver.stamp st l k hH1.1 hH1.2 (.inl (by omega))]))) a1 ha1)
theorem Qpd (l:List Cnt) (st:Int) (hl:l.length≤8796093022207):Qai prog 94 [.sl 2 false (l.map cntA),.val (.func (.func 155) #[] #[]),aI st] (aI ((cutV Cnt.stamp st l:Int)-1)):=by
 exact Qae func94 (
 .r 1<|.r 2<|.lm 9 l cntA<|.run 2 [rng .i64 ((l.length:Int)-1)] ⟨Qah,trivial⟩<|
 let L1:Lp (Nat):=⟨fun a1=>⟨[(0,.sl 2 false (l.map cntA)),(1,.val (.func (.func 155) #[] #[])),(2,aI st),(7,aI ((a1:Int)-1))],[]⟩,fun a1=>a1,fun a1=>a1≤l.length∧∀ j y,a1≤j→l[j]?=some y→st<Cnt.stamp y⟩
 .lp L1 l.length (show l.length≤l.length∧∀ j y,l.length≤j→l[j]?=some y→st<Cnt.stamp y from (Zi7 _ _ _)) [] [] sr4 trivial fun a1 ha1=>
 (fun (k:Nat) (hH1:k≤l.length∧∀ j y,k≤j→l[j]?=some y→st<Cnt.stamp y)=>.r 3<|.bd 13 (((k:Int)-1)≥0) (fun p1=>.r 3<|.idxM l cntA (k-1) (m:=(k:Int)-1) (by omega) (by omega) fun x1 hx1=>
 .r 1<|.call (Ziv x1)<|
 .r 3<|.bd 22 (x1.stamp>st) (fun p2=>.run 3 [rng .i64 (((k:Int)-1)-1)] ⟨Qah,trivial⟩<|
 .bk L1 k (k-1) (show (k-1)≤l.length∧∀ j y,(k-1)≤j→l[j]?=some y→st<Cnt.stamp y from (Zi6 hx1 hH1.1 hH1.2 (by omega))) (show (k-1)<k from (by omega)) [(7,aI (((k:Int)-1)-1))] [] ⟨sR,sR,sR,sO,trivial⟩ trivial)
 <| fun p2=>.r 2<|.f (aI ((cutV Cnt.stamp st l:Int)-1)) [] (aI ((k:Int)-1)) (by exact W2p (by rw [Qg1 Cnt.stamp st l k hH1.1 hH1.2 (.inr ⟨x1,hx1,by omega⟩)])))
 <| fun p1=>.r 9<|.r 2<|.f (aI ((cutV Cnt.stamp st l:Int)-1)) [] (aI ((k:Int)-1)) (by exact W2p (by rw [Qg1 Cnt.stamp st l k hH1.1 hH1.2 (.inl (by omega))]))) a1 ha1)
theorem Zbe (c:Chn) (st:Int) (hl:c.l.length≤8796093022207):Qai prog 64 [.agg [aI c.ino,.sl 7 false (c.l.map verA)],aI st] (aI ((cutV Ver.stamp st c.l:Int)-1)):=by
 exact Qae func64 (
 .new fun b1=>.r 1<|.u 3 [b1]<|
 .lm 8 c.l verA<|.run 2 [rng .i64 ((c.l.length:Int)-1)] ⟨Qah,trivial⟩<|
 let L1:Lp (Nat):=⟨fun a1=>⟨[(1,aI st),(2,.ptr 2 b1 0),(5,aI ((a1:Int)-1))],[(2,.box b1 98 [aI c.ino,.sl 7 false (c.l.map verA)])]⟩,fun a1=>a1,fun a1=>a1≤c.l.length∧∀ j y,a1≤j→c.l[j]?=some y→st<Ver.stamp y⟩
 .lp L1 c.l.length (show c.l.length≤c.l.length∧∀ j y,c.l.length≤j→c.l[j]?=some y→st<Ver.stamp y from (Zi7 _ _ _)) [] [] sr3 bb1 fun a1 ha1=>
 (fun (k:Nat) (hH1:k≤c.l.length∧∀ j y,k≤j→c.l[j]?=some y→st<Ver.stamp y)=>.r 3<|.bd 12 (((k:Int)-1)≥0) (fun p1=>.u 3 [b1]<|
 .idxM c.l verA (k-1) (m:=(k:Int)-1) (by omega) (by omega) fun x1 hx1=>
 .r 5<|.bd 21 (x1.stamp>st) (fun p2=>.run 3 [rng .i64 (((k:Int)-1)-1)] ⟨Qah,trivial⟩<|
 .bk L1 k (k-1) (show (k-1)≤c.l.length∧∀ j y,(k-1)≤j→c.l[j]?=some y→st<Ver.stamp y from (Zi6 hx1 hH1.1 hH1.2 (by omega))) (show (k-1)<k from (by omega)) [(5,aI (((k:Int)-1)-1))] [] ⟨sR,sR,sO,trivial⟩ bb1)
 <| fun p2=>.r 2<|.f (aI ((cutV Ver.stamp st c.l:Int)-1)) [] (aI ((k:Int)-1)) (by exact W2p (by rw [Qg1 Ver.stamp st c.l k hH1.1 hH1.2 (.inr ⟨x1,hx1,by omega⟩)])))
 <| fun p1=>.r 9<|.r 2<|.f (aI ((cutV Ver.stamp st c.l:Int)-1)) [] (aI ((k:Int)-1)) (by exact W2p (by rw [Qg1 Ver.stamp st c.l k hH1.1 hH1.2 (.inl (by omega))]))) a1 ha1)
theorem Zbi (s:Sto) (st:Int) (hl:s.nexts.length≤8796093022207):Qai prog 65 [.agg (stoA s),aI st] (aI ((cutV Cnt.stamp st s.nexts:Int)-1)):=by
 exact Qae func65 (
 .new fun b1=>.r 1<|.u 3 [b1]<|
 .lm 8 s.nexts cntA<|.run 2 [rng .i64 ((s.nexts.length:Int)-1)] ⟨Qah,trivial⟩<|
 let L1:Lp (Nat):=⟨fun a1=>⟨[(1,aI st),(2,.ptr 2 b1 0),(5,aI ((a1:Int)-1))],[(2,.box b1 25 (stoA s))]⟩,fun a1=>a1,fun a1=>a1≤s.nexts.length∧∀ j y,a1≤j→s.nexts[j]?=some y→st<Cnt.stamp y⟩
 .lp L1 s.nexts.length (show s.nexts.length≤s.nexts.length∧∀ j y,s.nexts.length≤j→s.nexts[j]?=some y→st<Cnt.stamp y from (Zi7 _ _ _)) [] [] sr3 bb1 fun a1 ha1=>
 (fun (k:Nat) (hH1:k≤s.nexts.length∧∀ j y,k≤j→s.nexts[j]?=some y→st<Cnt.stamp y)=>.r 3<|.bd 12 (((k:Int)-1)≥0) (fun p1=>.u 3 [b1]<|
 .idxM s.nexts cntA (k-1) (m:=(k:Int)-1) (by omega) (by omega) fun x1 hx1=>
 .r 5<|.bd 21 (x1.stamp>st) (fun p2=>.run 3 [rng .i64 (((k:Int)-1)-1)] ⟨Qah,trivial⟩<|
 .bk L1 k (k-1) (show (k-1)≤s.nexts.length∧∀ j y,(k-1)≤j→s.nexts[j]?=some y→st<Cnt.stamp y from (Zi6 hx1 hH1.1 hH1.2 (by omega))) (show (k-1)<k from (by omega)) [(5,aI (((k:Int)-1)-1))] [] ⟨sR,sR,sO,trivial⟩ bb1)
 <| fun p2=>.r 2<|.f (aI ((cutV Cnt.stamp st s.nexts:Int)-1)) [] (aI ((k:Int)-1)) (by exact W2p (by rw [Qg1 Cnt.stamp st s.nexts k hH1.1 hH1.2 (.inr ⟨x1,hx1,by omega⟩)])))
 <| fun p1=>.r 9<|.r 2<|.f (aI ((cutV Cnt.stamp st s.nexts:Int)-1)) [] (aI ((k:Int)-1)) (by exact W2p (by rw [Qg1 Cnt.stamp st s.nexts k hH1.1 hH1.2 (.inl (by omega))]))) a1 ha1)
theorem Qtb (s:Sto) (st:Int) (oks:OkS s) (hf:s.l.length≤100000):Qai prog 52 [.agg (stoA s),aI st] (.agg (fsyA (Qa3 s st))):=by
 have hb1:=oks.2.1;have hb2:=oks.2.2.1;exact Qae func52 (
 .new fun b1=>.new fun b2=>.call (Qv8)<|
 .r 5<|.r 1<|.new fun b3=>.u 1 [b3]<|
 .rowNilB 100 7 0 84 5<|.u 3 [b1]<|
 .lm 19 s.l chnA<|.r 1<|let L1:Lp (Nat × Value):=⟨fun a1=>⟨[(1,aI st),(2,.ptr 2 b1 0),(4,.ptr 4 b2 0),(5,.val (.func (.func 154) #[] #[])),(6,.val (.func (.func 155) #[] #[])),(7,.ptr 7 b3 0),(18,.sl 2 false (s.l.map chnA)),(19,aI (s.l.length:Int)),(20,aI (a1.1:Int))],[(2,.box b1 25 (stoA s)),(4,.box b2 28 [aN,aI 0]),(7,.box b3 28 [.rw 100 a1.2 (((Qcx s st a1.1).map nodA).length),aI 1]),(100,.row a1.2 84 5 ((Qcx s st a1.1).map nodA))]⟩,fun a1=>s.l.length-a1.1,fun a1=>a1.1≤s.l.length⟩
 .lp L1 (0,.slice none 0 0) (show 0≤s.l.length from W0j _) [(20,aI 0)] [(7,.box b3 28 [.rw 100 (.slice none 0 0) 0,aI 1]),(100,.row (.slice none 0 0) 84 5 ([]))] ⟨sR,sR,sR,sR,sR,sR,sR,sR,sO,trivial⟩ ⟨sB,sB,⟨_,rfl,W2u sr2⟩,sB,trivial⟩ fun a1 ha1=>
 (fun (k:Nat) (V:Value) (hH1:k≤s.l.length)=>.r 1<|.bd 21 ((k:Int)<(s.l.length:Int)) (fun p1=>.idxM s.l chnA k (m:=(k:Int)) rfl (by omega) fun x1 hx1=>
 have okx1:=oks.2.2.2.1 x1 (W0h hx1);have blx1:=okx1.2.1;.r 1<|.new fun b4=>.u 1 [b4]<|
 .u 4 [b4]<|
 .call (Qts x1.l st (by omega))<|
 .r 1<|.r 3<|.bd 31 (((cutV Ver.stamp st x1.l:Int)-1)≥0) (fun p2=>.u 3 [b4]<|
 .idxM x1.l verA (cutV Ver.stamp st x1.l-1) (m:=(cutV Ver.stamp st x1.l:Int)-1) (by omega) (by have:=Qg0 Ver.stamp st x1.l;omega) fun x2 hx2=>
 have okx2:=okx1.2.2 x2 (W0h hx2);.r 4<|.br 39 (!x2.gone) (fun q3=>have q3:=notT q3;have p3:=booF q3;.ord [0,1,2,3,4,5,6,7,8,9,10,11]<|.u 5 [b3,b4]<|
 .idx (cutV Ver.stamp st x1.l-1) (m:=(cutV Ver.stamp st x1.l:Int)-1) (xs:=x1.l.map verA) (e:=verA x2) (by omega) (map_some hx2)<|
 .r 3<|.app 64 V ((Qcx s st k).map nodA) ([(nodA x2.n)]) (by have:=Qmy s st k;simp only [W0a,W0b,W0f];omega) (by have:=Qmy s st k;simp only [W0a,W0b,W0f];omega) fun V1=>
 .u 2 [b3]<|
 .run 2 [rng .i64 ((k:Int)+1)] ⟨Qah,trivial⟩<|
 .bk L1 (k,V) ((k+1),V1) (show (k+1)≤s.l.length from (by show _≤_;omega)) (show s.l.length-(k+1)<s.l.length-k from (by omega)) [(20,aI ((k:Int)+1))] [(7,.box b3 28 [.rw 100 V1 (((Qcx s st k).map nodA).length+([(nodA x2.n)]:List (List AV)).length),aI 1]),(100,.row V1 84 5 (((Qcx s st k).map nodA)++([(nodA x2.n)])))] ⟨sR,sR,sR,sR,sR,sR,sR,sR,sO,trivial⟩ ⟨sB,sB,⟨_,rfl,W2u ⟨W2p (by rw [Qkc hx1 (show Qbz st x1=some x2.n from by rw [Qe8 (by omega) hx2,q3];rfl)];simp),sR,trivial⟩⟩,⟨_,rfl,W2q (by rw [Qkc hx1 (show Qbz st x1=some x2.n from by rw [Qe8 (by omega) hx2,q3];rfl)];simp [nodA])⟩,trivial⟩)
 <| fun q3=>have q3:=notF q3;have p3:=booT q3;.run 2 [rng .i64 ((k:Int)+1)] ⟨Qah,trivial⟩<|
 .bk L1 (k,V) ((k+1),V) (show (k+1)≤s.l.length from (by show _≤_;omega)) (show s.l.length-(k+1)<s.l.length-k from (by omega)) [(20,aI ((k:Int)+1))] [(7,.box b3 28 [.rw 100 V (((Qcx s st k).map nodA).length),aI 1]),(100,.row V 84 5 ((Qcx s st k).map nodA))] ⟨sR,sR,sR,sR,sR,sR,sR,sR,sO,trivial⟩ ⟨sB,sB,⟨_,rfl,W2u ⟨W2p (by rw [Qfx hx1 (show Qbz st x1=none from by rw [Qe8 (by omega) hx2,q3];rfl)]),sR,trivial⟩⟩,⟨_,rfl,W2q (by rw [Qfx hx1 (show Qbz st x1=none from by rw [Qe8 (by omega) hx2,q3];rfl)])⟩,trivial⟩)
 <| fun p2=>.r 8<|.run 2 [rng .i64 ((k:Int)+1)] ⟨Qah,trivial⟩<|
 .bk L1 (k,V) ((k+1),V) (show (k+1)≤s.l.length from (by show _≤_;omega)) (show s.l.length-(k+1)<s.l.length-k from (by omega)) [(20,aI ((k:Int)+1))] [(7,.box b3 28 [.rw 100 V (((Qcx s st k).map nodA).length),aI 1]),(100,.row V 84 5 ((Qcx s st k).map nodA))] ⟨sR,sR,sR,sR,sR,sR,sR,sR,sO,trivial⟩ ⟨sB,sB,⟨_,rfl,W2u ⟨W2p (by rw [Qfx hx1 (show Qbz st x1=none from Qir (by have:=Qg0 Ver.stamp st x1.l;omega))]),sR,trivial⟩⟩,⟨_,rfl,W2q (by rw [Qfx hx1 (show Qbz st x1=none from Qir (by have:=Qg0 Ver.stamp st x1.l;omega))])⟩,trivial⟩)
 <| fun p1=>.u 4 [b1]<|
 .call (Qpd s.nexts st (by omega))<|
 .r 1<|.r 2<|.bd 58 (((cutV Cnt.stamp st s.nexts:Int)-1)≥0) (fun p4=>.u 3 [b1]<|
 .idxM s.nexts cntA (cutV Cnt.stamp st s.nexts-1) (m:=(cutV Cnt.stamp st s.nexts:Int)-1) (by omega) (by have:=Qg0 Cnt.stamp st s.nexts;omega) fun x3 hx3=>
 have okx3:=oks.2.2.2.2 x3 (W0h hx3);.u 4 [b3]<|
 .u 2 [b3,b2]<|
 .frz 100 [4] [4] [V=V,((Qcx s st k).map nodA).length=((Qcx s st k).map nodA).length] ⟨rfl,(by first | rfl | (simp;done) | (simp;omega)),trivial⟩<|
 .f (.agg (fsyA (Qa3 s st))) [b2] (.agg [.sl 5 false ((Qcx s st k).map nodA),aI x3.next]) (by exact W2t ⟨W2p (by rw [Qkd (by omega)];rfl),W2p (W1z aI (Qzb (by omega) hx3).symm),trivial⟩))
 <| fun p4=>.u 2 [b3,b2]<|
 .frz 100 [4] [4] [V=V,((Qcx s st k).map nodA).length=((Qcx s st k).map nodA).length] ⟨rfl,(by first | rfl | (simp;done) | (simp;omega)),trivial⟩<|
 .f (.agg (fsyA (Qa3 s st))) [b2] (.agg [.sl 5 false ((Qcx s st k).map nodA),aI 1]) (by exact W2t ⟨W2p (by rw [Qkd (by omega)];rfl),W2p (W1z aI (Qqa (by have:=Qg0 Cnt.stamp st s.nexts;omega)).symm),trivial⟩)) a1.1 a1.2 ha1)
theorem Qiv (s:Sto) (st:Int) (oks:OkS s) (hf:s.l.length≤100000):Qai prog 39 [.agg (stoA s),aI st] (.agg (fsyA (Qa3 s st))):=by
 have hb1:=oks.2.1;have hb2:=oks.2.2.1;exact Qae func39 (
 .new fun b1=>.new fun b2=>.r 1<|.new fun b3=>.u 1 [b3]<|
 .rowNilB 100 5 0 84 5<|.r 1<|let L1:Lp (Nat × Value):=⟨fun a1=>⟨[(1,aI st),(2,.ptr 2 b1 0),(4,.ptr 4 b2 0),(5,.ptr 5 b3 0),(6,aI (a1.1:Int))],[(2,.box b1 25 (stoA s)),(4,.box b2 28 [aN,aI 0]),(5,.box b3 28 [.rw 100 a1.2 (((Qcx s st a1.1).map nodA).length),aI 1]),(100,.row a1.2 84 5 ((Qcx s st a1.1).map nodA))]⟩,fun a1=>s.l.length-a1.1,fun a1=>a1.1≤s.l.length⟩
 .lp L1 (0,.slice none 0 0) (show 0≤s.l.length from W0j _) [(6,aI 0)] [(5,.box b3 28 [.rw 100 (.slice none 0 0) 0,aI 1]),(100,.row (.slice none 0 0) 84 5 ([]))] ⟨sR,sR,sR,sR,sO,trivial⟩ ⟨sB,sB,⟨_,rfl,W2u sr2⟩,sB,trivial⟩ fun a1 ha1=>
 (fun (k:Nat) (V:Value) (hH1:k≤s.l.length)=>.u 4 [b1]<|
 .lm 13 s.l chnA<|.r 1<|.bd 14 ((k:Int)<(s.l.length:Int)) (fun p1=>.u 3 [b1]<|
 .idxM s.l chnA k (m:=(k:Int)) rfl (by omega) fun x1 hx1=>
 have okx1:=oks.2.2.2.1 x1 (W0h hx1);have blx1:=okx1.2.1;.r 2<|.call (Zbe x1 st (by omega))<|
 .r 1<|.r 3<|.bd 26 (((cutV Ver.stamp st x1.l:Int)-1)≥0) (fun p2=>.u 3 [b1]<|
 .idx k (m:=(k:Int)) (xs:=s.l.map chnA) (e:=chnA x1) rfl (map_some hx1)<|
 .r 3<|.idxM x1.l verA (cutV Ver.stamp st x1.l-1) (m:=(cutV Ver.stamp st x1.l:Int)-1) (by omega) (by have:=Qg0 Ver.stamp st x1.l;omega) fun x2 hx2=>
 have okx2:=okx1.2.2 x2 (W0h hx2);.r 4<|.br 38 (!x2.gone) (fun q3=>have q3:=notT q3;have p3:=booF q3;.ord [0,1,2,3,4,5,6,7,8,9,10,11,12,13,14,15]<|.u 5 [b3,b1]<|
 .idx k (m:=(k:Int)) (xs:=s.l.map chnA) (e:=chnA x1) rfl (map_some hx1)<|
 .r 3<|.idx (cutV Ver.stamp st x1.l-1) (m:=(cutV Ver.stamp st x1.l:Int)-1) (xs:=x1.l.map verA) (e:=verA x2) (by omega) (map_some hx2)<|
 .r 3<|.app 64 V ((Qcx s st k).map nodA) ([(nodA x2.n)]) (by have:=Qmy s st k;simp only [W0a,W0b,W0f];omega) (by have:=Qmy s st k;simp only [W0a,W0b,W0f];omega) fun V1=>
 .u 2 [b3]<|
 .run 3 [rng .i64 ((k:Int)+1)] ⟨Qah,trivial⟩<|
 .bk L1 (k,V) ((k+1),V1) (show (k+1)≤s.l.length from (by show _≤_;omega)) (show s.l.length-(k+1)<s.l.length-k from (by omega)) [(6,aI ((k:Int)+1))] [(5,.box b3 28 [.rw 100 V1 (((Qcx s st k).map nodA).length+([(nodA x2.n)]:List (List AV)).length),aI 1]),(100,.row V1 84 5 (((Qcx s st k).map nodA)++([(nodA x2.n)])))] ⟨sR,sR,sR,sR,sO,trivial⟩ ⟨sB,sB,⟨_,rfl,W2u ⟨W2p (by rw [Qkc hx1 (show Qbz st x1=some x2.n from by rw [Qe8 (by omega) hx2,q3];rfl)];simp),sR,trivial⟩⟩,⟨_,rfl,W2q (by rw [Qkc hx1 (show Qbz st x1=some x2.n from by rw [Qe8 (by omega) hx2,q3];rfl)];simp [nodA])⟩,trivial⟩)
 <| fun q3=>have q3:=notF q3;have p3:=booT q3;.run 3 [rng .i64 ((k:Int)+1)] ⟨Qah,trivial⟩<|
 .bk L1 (k,V) ((k+1),V) (show (k+1)≤s.l.length from (by show _≤_;omega)) (show s.l.length-(k+1)<s.l.length-k from (by omega)) [(6,aI ((k:Int)+1))] [(5,.box b3 28 [.rw 100 V (((Qcx s st k).map nodA).length),aI 1]),(100,.row V 84 5 ((Qcx s st k).map nodA))] ⟨sR,sR,sR,sR,sO,trivial⟩ ⟨sB,sB,⟨_,rfl,W2u ⟨W2p (by rw [Qfx hx1 (show Qbz st x1=none from by rw [Qe8 (by omega) hx2,q3];rfl)]),sR,trivial⟩⟩,⟨_,rfl,W2q (by rw [Qfx hx1 (show Qbz st x1=none from by rw [Qe8 (by omega) hx2,q3];rfl)])⟩,trivial⟩)
 <| fun p2=>.r 12<|.run 3 [rng .i64 ((k:Int)+1)] ⟨Qah,trivial⟩<|
 .bk L1 (k,V) ((k+1),V) (show (k+1)≤s.l.length from (by show _≤_;omega)) (show s.l.length-(k+1)<s.l.length-k from (by omega)) [(6,aI ((k:Int)+1))] [(5,.box b3 28 [.rw 100 V (((Qcx s st k).map nodA).length),aI 1]),(100,.row V 84 5 ((Qcx s st k).map nodA))] ⟨sR,sR,sR,sR,sO,trivial⟩ ⟨sB,sB,⟨_,rfl,W2u ⟨W2p (by rw [Qfx hx1 (show Qbz st x1=none from Qir (by have:=Qg0 Ver.stamp st x1.l;omega))]),sR,trivial⟩⟩,⟨_,rfl,W2q (by rw [Qfx hx1 (show Qbz st x1=none from Qir (by have:=Qg0 Ver.stamp st x1.l;omega))])⟩,trivial⟩)
 <| fun p1=>.u 2 [b1]<|
 .call (Zbi s st (by omega))<|
 .r 1<|.r 2<|.bd 58 (((cutV Cnt.stamp st s.nexts:Int)-1)≥0) (fun p4=>.u 3 [b1]<|
 .idxM s.nexts cntA (cutV Cnt.stamp st s.nexts-1) (m:=(cutV Cnt.stamp st s.nexts:Int)-1) (by omega) (by have:=Qg0 Cnt.stamp st s.nexts;omega) fun x3 hx3=>
 have okx3:=oks.2.2.2.2 x3 (W0h hx3);.u 4 [b3]<|
 .u 2 [b3,b2]<|
 .frz 100 [4] [4] [V=V,((Qcx s st k).map nodA).length=((Qcx s st k).map nodA).length] ⟨rfl,(by first | rfl | (simp;done) | (simp;omega)),trivial⟩<|
 .f (.agg (fsyA (Qa3 s st))) [b2] (.agg [.sl 5 false ((Qcx s st k).map nodA),aI x3.next]) (by exact W2t ⟨W2p (by rw [Qkd (by omega)];rfl),W2p (W1z aI (Qzb (by omega) hx3).symm),trivial⟩))
 <| fun p4=>.u 2 [b3,b2]<|
 .frz 100 [4] [4] [V=V,((Qcx s st k).map nodA).length=((Qcx s st k).map nodA).length] ⟨rfl,(by first | rfl | (simp;done) | (simp;omega)),trivial⟩<|
 .f (.agg (fsyA (Qa3 s st))) [b2] (.agg [.sl 5 false ((Qcx s st k).map nodA),aI 1]) (by exact W2t ⟨W2p (by rw [Qkd (by omega)];rfl),W2p (W1z aI (Qqa (by have:=Qg0 Cnt.stamp st s.nexts;omega)).symm),trivial⟩)) a1.1 a1.2 ha1)
theorem Zdq (x:Ver) (st:Int):Qai prog 111 [.agg (verA x),.dptr [aI st]] (aB (decide (x.stamp>st))):=by
 exact Qae func111 (let R:AV:=aB (decide (x.stamp>st));
 .new fun b1=>.r 1<|.u 5 [b1]<|
 .fi R [])
theorem Zgc (l:List Ver) (st:Int) (hl:l.length≤8796093022207):Qai prog 164 [.sl 7 false (l.map verA),.clo 111 [.dptr [aI st]]] (aI (idxF (fun (x:Ver)=>decide (x.stamp>st)) l)):=by
 exact Qae func164 (
 .r 1<|.r 2<|.lm 7 l verA<|.r 1<|let L1:Lp (Nat):=⟨fun a1=>⟨[(0,.sl 7 false (l.map verA)),(1,.clo 111 [.dptr [aI st]]),(7,aI (l.length:Int)),(8,aI (a1:Int))],[]⟩,fun a1=>l.length-a1,fun a1=>a1≤l.length∧Qba (fun _ x=>(fun (x:Ver)=>decide (x.stamp>st)) x=false) l a1⟩
 .lp L1 0 ⟨W0j _,Qba.zero _ _⟩ [(8,aI 0)] [] ⟨sR,sR,sR,sO,trivial⟩ trivial fun a1 ha1=>
 (fun (k:Nat) (hH1:k≤l.length∧Qba (fun _ x=>(fun (x:Ver)=>decide (x.stamp>st)) x=false) l k)=>.r 1<|.br 9 (decide ((k:Int)<(l.length:Int))) (fun q1=>have p1:=decT q1;.r 2<|.r 3<|.idxM l verA k (m:=(k:Int)) rfl (by omega) fun x1 hx1=>
 .r 1<|.call (Zdq x1 st)<|
 .br 16 (decide (x1.stamp>st)) (fun q2=>have p2:=decT q2;.r 2<|.f (aI (idxF (fun (x:Ver)=>decide (x.stamp>st)) l)) [] (aI (k:Int)) (by exact W2p (W1z aI (Qxn (fun (x:Ver)=>decide (x.stamp>st)) l k x1 hH1.2 hx1 (by assumption)).symm)))
 <| fun q2=>have p2:=decF q2;.run 2 [rng .i64 ((k:Int)+1)] ⟨Qah,trivial⟩<|
 .bk L1 k (k+1) ⟨by omega,hH1.2.step hx1 (by assumption)⟩ (show l.length-(k+1)<l.length-k from (by omega)) [(8,aI ((k:Int)+1))] [] ⟨sR,sR,sR,sO,trivial⟩ trivial)
 <| fun q1=>have p1:=decF q1;.r 1<|.f (aI (idxF (fun (x:Ver)=>decide (x.stamp>st)) l)) [] (aI (-1)) (by exact W2p (W1z aI (Qon (fun (x:Ver)=>decide (x.stamp>st)) l (hH1.2.full (by omega))).symm))) a1 ha1)
theorem Zhv (l:List Ver) (st:Int) (hl:l.length≤8796093022207):Qai prog 110 [.sl 7 false (l.map verA),.clo 111 [.dptr [aI st]]] (aB (l.any (fun (x:Ver)=>decide (x.stamp>st)))):=by
 exact Qae func110 (
 .r 1<|.r 2<|.call (Zgc l st (by omega))<|
 .r 2<|.f (aB (l.any (fun (x:Ver)=>decide (x.stamp>st)))) [] (aB (decide ((idxF (fun (x:Ver)=>decide (x.stamp>st)) l)≥0))) (by exact W2p (W1z aB (Qr3 (fun (x:Ver)=>decide (x.stamp>st)) l))))
theorem Zdp (x:Cnt) (st:Int):Qai prog 113 [.agg [aI x.stamp,aI x.next],.dptr [aI st]] (aB (decide (x.stamp>st))):=by
 exact Qae func113 (let R:AV:=aB (decide (x.stamp>st));
 .new fun b1=>.r 1<|.u 5 [b1]<|
 .fi R [])
theorem Zgb (l:List Cnt) (st:Int) (hl:l.length≤8796093022207):Qai prog 165 [.sl 2 false (l.map cntA),.clo 113 [.dptr [aI st]]] (aI (idxF (fun (x:Cnt)=>decide (x.stamp>st)) l)):=by
 exact Qae func165 (
 .r 1<|.r 2<|.lm 7 l cntA<|.r 1<|let L1:Lp (Nat):=⟨fun a1=>⟨[(0,.sl 2 false (l.map cntA)),(1,.clo 113 [.dptr [aI st]]),(7,aI (l.length:Int)),(8,aI (a1:Int))],[]⟩,fun a1=>l.length-a1,fun a1=>a1≤l.length∧Qba (fun _ x=>(fun (x:Cnt)=>decide (x.stamp>st)) x=false) l a1⟩
 .lp L1 0 ⟨W0j _,Qba.zero _ _⟩ [(8,aI 0)] [] ⟨sR,sR,sR,sO,trivial⟩ trivial fun a1 ha1=>
 (fun (k:Nat) (hH1:k≤l.length∧Qba (fun _ x=>(fun (x:Cnt)=>decide (x.stamp>st)) x=false) l k)=>.r 1<|.br 9 (decide ((k:Int)<(l.length:Int))) (fun q1=>have p1:=decT q1;.r 2<|.r 3<|.idxM l cntA k (m:=(k:Int)) rfl (by omega) fun x1 hx1=>
 .r 1<|.call (Zdp x1 st)<|
 .br 16 (decide (x1.stamp>st)) (fun q2=>have p2:=decT q2;.r 2<|.f (aI (idxF (fun (x:Cnt)=>decide (x.stamp>st)) l)) [] (aI (k:Int)) (by exact W2p (W1z aI (Qxn (fun (x:Cnt)=>decide (x.stamp>st)) l k x1 hH1.2 hx1 (by assumption)).symm)))
 <| fun q2=>have p2:=decF q2;.run 2 [rng .i64 ((k:Int)+1)] ⟨Qah,trivial⟩<|
 .bk L1 k (k+1) ⟨by omega,hH1.2.step hx1 (by assumption)⟩ (show l.length-(k+1)<l.length-k from (by omega)) [(8,aI ((k:Int)+1))] [] ⟨sR,sR,sR,sO,trivial⟩ trivial)
 <| fun q1=>have p1:=decF q1;.r 1<|.f (aI (idxF (fun (x:Cnt)=>decide (x.stamp>st)) l)) [] (aI (-1)) (by exact W2p (W1z aI (Qon (fun (x:Cnt)=>decide (x.stamp>st)) l (hH1.2.full (by omega))).symm))) a1 ha1)
theorem Zhu (l:List Cnt) (st:Int) (hl:l.length≤8796093022207):Qai prog 112 [.sl 2 false (l.map cntA),.clo 113 [.dptr [aI st]]] (aB (l.any (fun (x:Cnt)=>decide (x.stamp>st)))):=by
 exact Qae func112 (
 .r 1<|.r 2<|.call (Zgb l st (by omega))<|
 .r 2<|.f (aB (l.any (fun (x:Cnt)=>decide (x.stamp>st)))) [] (aB (decide ((idxF (fun (x:Cnt)=>decide (x.stamp>st)) l)≥0))) (by exact W2p (W1z aB (Qr3 (fun (x:Cnt)=>decide (x.stamp>st)) l))))
end Go.Proofs.YtahlldgocpabjaaGreat
