import Derived.Test.YtkhodpknpligpaaGreatAl
import Derived.Test.YtkhodpknpligpaaGreatMrgV
set_option maxRecDepth 100000
set_option maxHeartbeats 8000000
set_option linter.unusedVariables false
set_option linter.unusedSimpArgs false
namespace Go.Proofs.YtkhodpknpligpaaGreat
open Go Go.RowKit Copyhold Go.Proofs.Tryz
theorem Qq9 (s:Sto) (st:Int) (oks:OkS s) (hf:s.l.length≤100000):Qag prog 44 [.agg (stoA s),aI st] (.agg (fsyA (Qcl s st))):=by
 have hb1:=oks.2.1;have hb2:=oks.2.2.1;exact Qac func44 (
 .new fun b1=>.new fun b2=>.call (Qtu)<|
 .r 5<|.r 1<|.new fun b3=>.u 1 [b3]<|
 .rowNilB 100 7 0 85 5<|.u 3 [b1]<|
 .lm 19 s.l chnA<|.r 1<|let L1:Lp (Nat × Value):=⟨fun a1=>⟨[(1,aI st),(2,.ptr 2 b1 0),(4,.ptr 4 b2 0),(5,.val (.func (.func 123) #[] #[])),(6,.val (.func (.func 124) #[] #[])),(7,.ptr 7 b3 0),(18,.sl 2 false (s.l.map chnA)),(19,aI (s.l.length:Int)),(20,aI (a1.1:Int))],[(2,.box b1 25 (stoA s)),(4,.box b2 38 [aN,aI 0]),(7,.box b3 38 [.rw 100 a1.2 (((Qcm s st a1.1).map nodA).length),aI 1]),(100,.row a1.2 85 5 ((Qcm s st a1.1).map nodA))]⟩,fun a1=>s.l.length-a1.1,fun a1=>a1.1≤s.l.length⟩
 .lp L1 (0,.slice none 0 0) (show 0≤s.l.length from W0j _) [(20,aI 0)] [(7,.box b3 38 [.rw 100 (.slice none 0 0) 0,aI 1]),(100,.row (.slice none 0 0) 85 5 ([]))] ⟨sR,sR,sR,sR,sR,sR,sR,sR,sO,trivial⟩ ⟨sB,sB,⟨_,rfl,W2s sr2⟩,sB,trivial⟩ fun a1 ha1=>
 (fun (k:Nat) (V:Value) (hH1:k≤s.l.length)=>.r 1<|.bd 21 ((k:Int)<(s.l.length:Int)) (fun p1=>.idxM s.l chnA k (m:=(k:Int)) rfl (by omega) fun x1 hx1=>
 have okx1:=oks.2.2.2.1 x1 (W0h hx1);have blx1:=okx1.2.1;.r 1<|.new fun b4=>.u 1 [b4]<|
 .u 4 [b4]<|
 .call (Qrk x1.l st (by omega))<|
 .r 1<|.r 3<|.bd 31 (((cutV Ver.stamp st x1.l:Int)-1)≥0) (fun p2=>.u 3 [b4]<|
 .idxM x1.l verA (cutV Ver.stamp st x1.l-1) (m:=(cutV Ver.stamp st x1.l:Int)-1) (by omega) (by have:=Qgx Ver.stamp st x1.l;omega) fun x2 hx2=>
 have okx2:=okx1.2.2 x2 (W0h hx2);.r 4<|.br 39 (!x2.gone) (fun q3=>have q3:=notT q3;have p3:=booF q3;.ord [0,1,2,3,4,5,6,7,8,9,10,11]<|.u 5 [b3,b4]<|
 .idx (cutV Ver.stamp st x1.l-1) (m:=(cutV Ver.stamp st x1.l:Int)-1) (xs:=x1.l.map verA) (e:=verA x2) (by omega) (map_some hx2)<|
 .r 3<|.app 64 V ((Qcm s st k).map nodA) ([(nodA x2.n)]) (by have:=Qla s st k;simp only [W0a,W0b,W0f];omega) (by have:=Qla s st k;simp only [W0a,W0b,W0f];omega) fun V1=>
 .u 2 [b3]<|
 .run 2 [rng .i64 ((k:Int)+1)] ⟨Qal,trivial⟩<|
 .bk L1 (k,V) ((k+1),V1) (show (k+1)≤s.l.length from (by show _≤_;omega)) (show s.l.length-(k+1)<s.l.length-k from (by omega)) [(20,aI ((k:Int)+1))] [(7,.box b3 38 [.rw 100 V1 (((Qcm s st k).map nodA).length+([(nodA x2.n)]:List (List AV)).length),aI 1]),(100,.row V1 85 5 (((Qcm s st k).map nodA)++([(nodA x2.n)])))] ⟨sR,sR,sR,sR,sR,sR,sR,sR,sO,trivial⟩ ⟨sB,sB,⟨_,rfl,W2s ⟨W2n (by rw [Qiu hx1 (show Qbu st x1=some x2.n from by rw [Qej (by omega) hx2,q3];rfl)];simp),sR,trivial⟩⟩,⟨_,rfl,W2o (by rw [Qiu hx1 (show Qbu st x1=some x2.n from by rw [Qej (by omega) hx2,q3];rfl)];simp [nodA])⟩,trivial⟩)
 <| fun q3=>have q3:=notF q3;have p3:=booT q3;.run 2 [rng .i64 ((k:Int)+1)] ⟨Qal,trivial⟩<|
 .bk L1 (k,V) ((k+1),V) (show (k+1)≤s.l.length from (by show _≤_;omega)) (show s.l.length-(k+1)<s.l.length-k from (by omega)) [(20,aI ((k:Int)+1))] [(7,.box b3 38 [.rw 100 V (((Qcm s st k).map nodA).length),aI 1]),(100,.row V 85 5 ((Qcm s st k).map nodA))] ⟨sR,sR,sR,sR,sR,sR,sR,sR,sO,trivial⟩ ⟨sB,sB,⟨_,rfl,W2s ⟨W2n (by rw [Qe2 hx1 (show Qbu st x1=none from by rw [Qej (by omega) hx2,q3];rfl)]),sR,trivial⟩⟩,⟨_,rfl,W2o (by rw [Qe2 hx1 (show Qbu st x1=none from by rw [Qej (by omega) hx2,q3];rfl)])⟩,trivial⟩)
 <| fun p2=>.r 8<|.run 2 [rng .i64 ((k:Int)+1)] ⟨Qal,trivial⟩<|
 .bk L1 (k,V) ((k+1),V) (show (k+1)≤s.l.length from (by show _≤_;omega)) (show s.l.length-(k+1)<s.l.length-k from (by omega)) [(20,aI ((k:Int)+1))] [(7,.box b3 38 [.rw 100 V (((Qcm s st k).map nodA).length),aI 1]),(100,.row V 85 5 ((Qcm s st k).map nodA))] ⟨sR,sR,sR,sR,sR,sR,sR,sR,sO,trivial⟩ ⟨sB,sB,⟨_,rfl,W2s ⟨W2n (by rw [Qe2 hx1 (show Qbu st x1=none from Qg8 (by have:=Qgx Ver.stamp st x1.l;omega))]),sR,trivial⟩⟩,⟨_,rfl,W2o (by rw [Qe2 hx1 (show Qbu st x1=none from Qg8 (by have:=Qgx Ver.stamp st x1.l;omega))])⟩,trivial⟩)
 <| fun p1=>.u 4 [b1]<|
 .call (Qnu s.nexts st (by omega))<|
 .r 1<|.r 2<|.bd 58 (((cutV Cnt.stamp st s.nexts:Int)-1)≥0) (fun p4=>.u 3 [b1]<|
 .idxM s.nexts cntA (cutV Cnt.stamp st s.nexts-1) (m:=(cutV Cnt.stamp st s.nexts:Int)-1) (by omega) (by have:=Qgx Cnt.stamp st s.nexts;omega) fun x3 hx3=>
 have okx3:=oks.2.2.2.2 x3 (W0h hx3);.u 4 [b3]<|
 .u 2 [b3,b2]<|
 .frz 100 [4] [4] [V=V,((Qcm s st k).map nodA).length=((Qcm s st k).map nodA).length] ⟨rfl,(by first | rfl | (simp;done) | (simp;omega)),trivial⟩<|
 .f (.agg (fsyA (Qcl s st))) [b2] (.agg [.sl 5 false ((Qcm s st k).map nodA),aI x3.next]) (by exact W2r ⟨W2n (by rw [Qiv (by omega)];rfl),W2n (W1y aI (Qwu (by omega) hx3).symm),trivial⟩))
 <| fun p4=>.u 2 [b3,b2]<|
 .frz 100 [4] [4] [V=V,((Qcm s st k).map nodA).length=((Qcm s st k).map nodA).length] ⟨rfl,(by first | rfl | (simp;done) | (simp;omega)),trivial⟩<|
 .f (.agg (fsyA (Qcl s st))) [b2] (.agg [.sl 5 false ((Qcm s st k).map nodA),aI 1]) (by exact W2r ⟨W2n (by rw [Qiv (by omega)];rfl),W2n (W1y aI (Qom (by have:=Qgx Cnt.stamp st s.nexts;omega)).symm),trivial⟩)) a1.1 a1.2 ha1)
theorem Qod (s:Sto) (st:Int) (oks:OkS s) (hf:s.l.length≤100000):Qag prog 32 [.agg (stoA s),aI st] (.agg (fsyA (Qcl s st))):=by
 have hb1:=oks.2.1;have hb2:=oks.2.2.1;exact Qac func32 (
 .new fun b1=>.new fun b2=>.r 1<|.new fun b3=>.u 1 [b3]<|
 .rowNilB 100 5 0 85 5<|.r 1<|let L1:Lp (Nat × Value):=⟨fun a1=>⟨[(1,aI st),(2,.ptr 2 b1 0),(4,.ptr 4 b2 0),(5,.ptr 5 b3 0),(6,aI (a1.1:Int))],[(2,.box b1 25 (stoA s)),(4,.box b2 38 [aN,aI 0]),(5,.box b3 38 [.rw 100 a1.2 (((Qcm s st a1.1).map nodA).length),aI 1]),(100,.row a1.2 85 5 ((Qcm s st a1.1).map nodA))]⟩,fun a1=>s.l.length-a1.1,fun a1=>a1.1≤s.l.length⟩
 .lp L1 (0,.slice none 0 0) (show 0≤s.l.length from W0j _) [(6,aI 0)] [(5,.box b3 38 [.rw 100 (.slice none 0 0) 0,aI 1]),(100,.row (.slice none 0 0) 85 5 ([]))] ⟨sR,sR,sR,sR,sO,trivial⟩ ⟨sB,sB,⟨_,rfl,W2s sr2⟩,sB,trivial⟩ fun a1 ha1=>
 (fun (k:Nat) (V:Value) (hH1:k≤s.l.length)=>.u 4 [b1]<|
 .lm 13 s.l chnA<|.r 1<|.bd 14 ((k:Int)<(s.l.length:Int)) (fun p1=>.u 3 [b1]<|
 .idxM s.l chnA k (m:=(k:Int)) rfl (by omega) fun x1 hx1=>
 have okx1:=oks.2.2.2.1 x1 (W0h hx1);have blx1:=okx1.2.1;.r 2<|.call (Qyz x1 st (by omega))<|
 .r 1<|.r 3<|.bd 26 (((cutV Ver.stamp st x1.l:Int)-1)≥0) (fun p2=>.u 3 [b1]<|
 .idx k (m:=(k:Int)) (xs:=s.l.map chnA) (e:=chnA x1) rfl (map_some hx1)<|
 .r 3<|.idxM x1.l verA (cutV Ver.stamp st x1.l-1) (m:=(cutV Ver.stamp st x1.l:Int)-1) (by omega) (by have:=Qgx Ver.stamp st x1.l;omega) fun x2 hx2=>
 have okx2:=okx1.2.2 x2 (W0h hx2);.r 4<|.br 38 (!x2.gone) (fun q3=>have q3:=notT q3;have p3:=booF q3;.ord [0,1,2,3,4,5,6,7,8,9,10,11,12,13,14,15]<|.u 5 [b3,b1]<|
 .idx k (m:=(k:Int)) (xs:=s.l.map chnA) (e:=chnA x1) rfl (map_some hx1)<|
 .r 3<|.idx (cutV Ver.stamp st x1.l-1) (m:=(cutV Ver.stamp st x1.l:Int)-1) (xs:=x1.l.map verA) (e:=verA x2) (by omega) (map_some hx2)<|
 .r 3<|.app 64 V ((Qcm s st k).map nodA) ([(nodA x2.n)]) (by have:=Qla s st k;simp only [W0a,W0b,W0f];omega) (by have:=Qla s st k;simp only [W0a,W0b,W0f];omega) fun V1=>
 .u 2 [b3]<|
 .run 3 [rng .i64 ((k:Int)+1)] ⟨Qal,trivial⟩<|
 .bk L1 (k,V) ((k+1),V1) (show (k+1)≤s.l.length from (by show _≤_;omega)) (show s.l.length-(k+1)<s.l.length-k from (by omega)) [(6,aI ((k:Int)+1))] [(5,.box b3 38 [.rw 100 V1 (((Qcm s st k).map nodA).length+([(nodA x2.n)]:List (List AV)).length),aI 1]),(100,.row V1 85 5 (((Qcm s st k).map nodA)++([(nodA x2.n)])))] ⟨sR,sR,sR,sR,sO,trivial⟩ ⟨sB,sB,⟨_,rfl,W2s ⟨W2n (by rw [Qiu hx1 (show Qbu st x1=some x2.n from by rw [Qej (by omega) hx2,q3];rfl)];simp),sR,trivial⟩⟩,⟨_,rfl,W2o (by rw [Qiu hx1 (show Qbu st x1=some x2.n from by rw [Qej (by omega) hx2,q3];rfl)];simp [nodA])⟩,trivial⟩)
 <| fun q3=>have q3:=notF q3;have p3:=booT q3;.run 3 [rng .i64 ((k:Int)+1)] ⟨Qal,trivial⟩<|
 .bk L1 (k,V) ((k+1),V) (show (k+1)≤s.l.length from (by show _≤_;omega)) (show s.l.length-(k+1)<s.l.length-k from (by omega)) [(6,aI ((k:Int)+1))] [(5,.box b3 38 [.rw 100 V (((Qcm s st k).map nodA).length),aI 1]),(100,.row V 85 5 ((Qcm s st k).map nodA))] ⟨sR,sR,sR,sR,sO,trivial⟩ ⟨sB,sB,⟨_,rfl,W2s ⟨W2n (by rw [Qe2 hx1 (show Qbu st x1=none from by rw [Qej (by omega) hx2,q3];rfl)]),sR,trivial⟩⟩,⟨_,rfl,W2o (by rw [Qe2 hx1 (show Qbu st x1=none from by rw [Qej (by omega) hx2,q3];rfl)])⟩,trivial⟩)
 <| fun p2=>.r 12<|.run 3 [rng .i64 ((k:Int)+1)] ⟨Qal,trivial⟩<|
 .bk L1 (k,V) ((k+1),V) (show (k+1)≤s.l.length from (by show _≤_;omega)) (show s.l.length-(k+1)<s.l.length-k from (by omega)) [(6,aI ((k:Int)+1))] [(5,.box b3 38 [.rw 100 V (((Qcm s st k).map nodA).length),aI 1]),(100,.row V 85 5 ((Qcm s st k).map nodA))] ⟨sR,sR,sR,sR,sO,trivial⟩ ⟨sB,sB,⟨_,rfl,W2s ⟨W2n (by rw [Qe2 hx1 (show Qbu st x1=none from Qg8 (by have:=Qgx Ver.stamp st x1.l;omega))]),sR,trivial⟩⟩,⟨_,rfl,W2o (by rw [Qe2 hx1 (show Qbu st x1=none from Qg8 (by have:=Qgx Ver.stamp st x1.l;omega))])⟩,trivial⟩)
 <| fun p1=>.u 2 [b1]<|
 .call (Qy2 s st (by omega))<|
 .r 1<|.r 2<|.bd 58 (((cutV Cnt.stamp st s.nexts:Int)-1)≥0) (fun p4=>.u 3 [b1]<|
 .idxM s.nexts cntA (cutV Cnt.stamp st s.nexts-1) (m:=(cutV Cnt.stamp st s.nexts:Int)-1) (by omega) (by have:=Qgx Cnt.stamp st s.nexts;omega) fun x3 hx3=>
 have okx3:=oks.2.2.2.2 x3 (W0h hx3);.u 4 [b3]<|
 .u 2 [b3,b2]<|
 .frz 100 [4] [4] [V=V,((Qcm s st k).map nodA).length=((Qcm s st k).map nodA).length] ⟨rfl,(by first | rfl | (simp;done) | (simp;omega)),trivial⟩<|
 .f (.agg (fsyA (Qcl s st))) [b2] (.agg [.sl 5 false ((Qcm s st k).map nodA),aI x3.next]) (by exact W2r ⟨W2n (by rw [Qiv (by omega)];rfl),W2n (W1y aI (Qwu (by omega) hx3).symm),trivial⟩))
 <| fun p4=>.u 2 [b3,b2]<|
 .frz 100 [4] [4] [V=V,((Qcm s st k).map nodA).length=((Qcm s st k).map nodA).length] ⟨rfl,(by first | rfl | (simp;done) | (simp;omega)),trivial⟩<|
 .f (.agg (fsyA (Qcl s st))) [b2] (.agg [.sl 5 false ((Qcm s st k).map nodA),aI 1]) (by exact W2r ⟨W2n (by rw [Qiv (by omega)];rfl),W2n (W1y aI (Qom (by have:=Qgx Cnt.stamp st s.nexts;omega)).symm),trivial⟩)) a1.1 a1.2 ha1)
theorem Zbd (x:Ver) (st:Int):Qag prog 246 [.agg (verA x),.dptr [aI st]] (aB (decide (x.stamp>st))):=by
 exact Qac func246 (let R:AV:=aB (decide (x.stamp>st));
 .new fun b1=>.r 1<|.u 5 [b1]<|
 .fi R [])
theorem Zdg (l:List Ver) (st:Int) (hl:l.length≤8796093022207):Qag prog 283 [.sl 7 false (l.map verA),.clo 246 [.dptr [aI st]]] (aI (idxF (fun (x:Ver)=>decide (x.stamp>st)) l)):=by
 exact Qac func283 (
 .r 1<|.r 2<|.lm 7 l verA<|.r 1<|let L1:Lp (Nat):=⟨fun a1=>⟨[(0,.sl 7 false (l.map verA)),(1,.clo 246 [.dptr [aI st]]),(7,aI (l.length:Int)),(8,aI (a1:Int))],[]⟩,fun a1=>l.length-a1,fun a1=>a1≤l.length∧Qaz (fun _ x=>(fun (x:Ver)=>decide (x.stamp>st)) x=false) l a1⟩
 .lp L1 0 ⟨W0j _,Qaz.zero _ _⟩ [(8,aI 0)] [] ⟨sR,sR,sR,sO,trivial⟩ trivial fun a1 ha1=>
 (fun (k:Nat) (hH1:k≤l.length∧Qaz (fun _ x=>(fun (x:Ver)=>decide (x.stamp>st)) x=false) l k)=>.r 1<|.br 9 (decide ((k:Int)<(l.length:Int))) (fun q1=>have p1:=decT q1;.r 2<|.r 3<|.idxM l verA k (m:=(k:Int)) rfl (by omega) fun x1 hx1=>
 .r 1<|.call (Zbd x1 st)<|
 .br 16 (decide (x1.stamp>st)) (fun q2=>have p2:=decT q2;.r 2<|.f (aI (idxF (fun (x:Ver)=>decide (x.stamp>st)) l)) [] (aI (k:Int)) (by exact W2n (W1y aI (Qut (fun (x:Ver)=>decide (x.stamp>st)) l k x1 hH1.2 hx1 (by assumption)).symm)))
 <| fun q2=>have p2:=decF q2;.run 2 [rng .i64 ((k:Int)+1)] ⟨Qal,trivial⟩<|
 .bk L1 k (k+1) ⟨by omega,hH1.2.step hx1 (by assumption)⟩ (show l.length-(k+1)<l.length-k from (by omega)) [(8,aI ((k:Int)+1))] [] ⟨sR,sR,sR,sO,trivial⟩ trivial)
 <| fun q1=>have p1:=decF q1;.r 1<|.f (aI (idxF (fun (x:Ver)=>decide (x.stamp>st)) l)) [] (aI (-1)) (by exact W2n (W1y aI (Qm2 (fun (x:Ver)=>decide (x.stamp>st)) l (hH1.2.full (by omega))).symm))) a1 ha1)
theorem Zff (l:List Ver) (st:Int) (hl:l.length≤8796093022207):Qag prog 245 [.sl 7 false (l.map verA),.clo 246 [.dptr [aI st]]] (aB (l.any (fun (x:Ver)=>decide (x.stamp>st)))):=by
 exact Qac func245 (
 .r 1<|.r 2<|.call (Zdg l st (by omega))<|
 .r 2<|.f (aB (l.any (fun (x:Ver)=>decide (x.stamp>st)))) [] (aB (decide ((idxF (fun (x:Ver)=>decide (x.stamp>st)) l)≥0))) (by exact W2n (W1y aB (Qqa (fun (x:Ver)=>decide (x.stamp>st)) l))))
theorem Zbc (x:Cnt) (st:Int):Qag prog 248 [.agg [aI x.stamp,aI x.next],.dptr [aI st]] (aB (decide (x.stamp>st))):=by
 exact Qac func248 (let R:AV:=aB (decide (x.stamp>st));
 .new fun b1=>.r 1<|.u 5 [b1]<|
 .fi R [])
theorem Zdf (l:List Cnt) (st:Int) (hl:l.length≤8796093022207):Qag prog 284 [.sl 2 false (l.map cntA),.clo 248 [.dptr [aI st]]] (aI (idxF (fun (x:Cnt)=>decide (x.stamp>st)) l)):=by
 exact Qac func284 (
 .r 1<|.r 2<|.lm 7 l cntA<|.r 1<|let L1:Lp (Nat):=⟨fun a1=>⟨[(0,.sl 2 false (l.map cntA)),(1,.clo 248 [.dptr [aI st]]),(7,aI (l.length:Int)),(8,aI (a1:Int))],[]⟩,fun a1=>l.length-a1,fun a1=>a1≤l.length∧Qaz (fun _ x=>(fun (x:Cnt)=>decide (x.stamp>st)) x=false) l a1⟩
 .lp L1 0 ⟨W0j _,Qaz.zero _ _⟩ [(8,aI 0)] [] ⟨sR,sR,sR,sO,trivial⟩ trivial fun a1 ha1=>
 (fun (k:Nat) (hH1:k≤l.length∧Qaz (fun _ x=>(fun (x:Cnt)=>decide (x.stamp>st)) x=false) l k)=>.r 1<|.br 9 (decide ((k:Int)<(l.length:Int))) (fun q1=>have p1:=decT q1;.r 2<|.r 3<|.idxM l cntA k (m:=(k:Int)) rfl (by omega) fun x1 hx1=>
 .r 1<|.call (Zbc x1 st)<|
 .br 16 (decide (x1.stamp>st)) (fun q2=>have p2:=decT q2;.r 2<|.f (aI (idxF (fun (x:Cnt)=>decide (x.stamp>st)) l)) [] (aI (k:Int)) (by exact W2n (W1y aI (Qut (fun (x:Cnt)=>decide (x.stamp>st)) l k x1 hH1.2 hx1 (by assumption)).symm)))
 <| fun q2=>have p2:=decF q2;.run 2 [rng .i64 ((k:Int)+1)] ⟨Qal,trivial⟩<|
 .bk L1 k (k+1) ⟨by omega,hH1.2.step hx1 (by assumption)⟩ (show l.length-(k+1)<l.length-k from (by omega)) [(8,aI ((k:Int)+1))] [] ⟨sR,sR,sR,sO,trivial⟩ trivial)
 <| fun q1=>have p1:=decF q1;.r 1<|.f (aI (idxF (fun (x:Cnt)=>decide (x.stamp>st)) l)) [] (aI (-1)) (by exact W2n (W1y aI (Qm2 (fun (x:Cnt)=>decide (x.stamp>st)) l (hH1.2.full (by omega))).symm))) a1 ha1)
theorem Zfe (l:List Cnt) (st:Int) (hl:l.length≤8796093022207):Qag prog 247 [.sl 2 false (l.map cntA),.clo 248 [.dptr [aI st]]] (aB (l.any (fun (x:Cnt)=>decide (x.stamp>st)))):=by
 exact Qac func247 (
 .r 1<|.r 2<|.call (Zdf l st (by omega))<|
 .r 2<|.f (aB (l.any (fun (x:Cnt)=>decide (x.stamp>st)))) [] (aB (decide ((idxF (fun (x:Cnt)=>decide (x.stamp>st)) l)≥0))) (by exact W2n (W1y aB (Qqa (fun (x:Cnt)=>decide (x.stamp>st)) l))))
theorem Qyq (s:Sto) (st:Int) (oks:OkS s) (hf:s.l.length≤100000):Qag prog 211 [.agg (stoA s),aI st] (.sl 1 false ((Qdl s st).map intA)):=by
 have hb1:=oks.2.1;have hb2:=oks.2.2.1;exact Qac func211 (
 .new fun b1=>.new fun b2=>.r 1<|.frz 3 [2,3,4] [2] [b2=b2] rt1<|
 .litN fun V1=>.r 1<|.u 3 [b1]<|
 .lm 11 s.l chnA<|.r 1<|let L1:Lp (Nat × Value):=⟨fun a1=>⟨[(2,.ptr 2 b1 0),(3,.dptr [aI st]),(10,.sl 2 false (s.l.map chnA)),(11,aI (s.l.length:Int)),(5,.rw 8 a1.2 (1+(Qb1 s st a1.1).length)),(12,aI (a1.1:Int))],[(2,.box b1 25 (stoA s)),(8,.row a1.2 3 1 ([aI 0] :: (Qb1 s st a1.1).map intA))]⟩,fun a1=>s.l.length-a1.1,fun a1=>a1.1≤s.l.length⟩
 .lp L1 (0,V1) (show 0≤s.l.length from W0j _) [(5,.rw 8 V1 1),(12,aI 0)] [(8,.row V1 3 1 ([[aI 0]]))] ⟨sR,sR,sR,sR,sR,sO,trivial⟩ bb2 fun a1 ha1=>
 (fun (k:Nat) (V:Value) (hH1:k≤s.l.length)=>.r 1<|.br 13 (decide ((k:Int)<(s.l.length:Int))) (fun q1=>have p1:=decT q1;.idxM s.l chnA k (m:=(k:Int)) rfl (by omega) fun x1 hx1=>
 have okx1:=oks.2.2.2.1 x1 (W0h hx1);have blx1:=okx1.2.1;.r 1<|.new fun b3=>.u 1 [b3]<|
 .u 3 [b3]<|
 .call (Zff x1.l st (by omega))<|
 .br 19 (Qkr st x1) (fun q2=>have p2:=booT q2;.u 4 [b3]<|
 .app 8 V ([aI 0] :: (Qb1 s st k).map intA) ([[aI x1.ino]]) (by have:=Qmu s st k;simp only [W0a,W0b,W0f];omega) (by have:=Qmu s st k;simp only [W0a,W0b,W0f];omega) fun V2=>
 .r 1<|.run 2 [rng .i64 ((k:Int)+1)] ⟨Qal,trivial⟩<|
 .bk L1 (k,V) ((k+1),V2) (show (k+1)≤s.l.length from (by show _≤_;omega)) (show s.l.length-(k+1)<s.l.length-k from (by omega)) [(5,.rw 8 V2 (([aI 0] :: (Qb1 s st k).map intA).length+([[aI x1.ino]]:List (List AV)).length)),(12,aI ((k:Int)+1))] [(8,.row V2 3 1 (([aI 0] :: (Qb1 s st k).map intA)++([[aI x1.ino]])))] ⟨sR,sR,sR,sR,W2n (W1y (AV.rw 8 V2) (by rw [Qou hx1 q2];simp;try omega)),sO,trivial⟩ ⟨sB,⟨_,rfl,W2o (by rw [Qou hx1 q2];simp [intA])⟩,trivial⟩)
 <| fun q2=>have p2:=booF q2;.run 2 [rng .i64 ((k:Int)+1)] ⟨Qal,trivial⟩<|
 .bk L1 (k,V) ((k+1),V) (show (k+1)≤s.l.length from (by show _≤_;omega)) (show s.l.length-(k+1)<s.l.length-k from (by omega)) [(5,.rw 8 V (1+(Qb1 s st k).length)),(12,aI ((k:Int)+1))] [(8,.row V 3 1 ([aI 0] :: (Qb1 s st k).map intA))] ⟨sR,sR,sR,sR,W2n (W1y (AV.rw 8 V) (by rw [Qsa hx1 q2])),sO,trivial⟩ ⟨sB,⟨_,rfl,W2o (by rw [Qsa hx1 q2])⟩,trivial⟩)
 <| fun q1=>have p1:=decF q1;.r 4<|.br 29 (decide ((1+(Qb1 s st k).length:Int)>1)) (fun q3=>have p3:=decT q3;.r 5<|.r 2<|.frz 8 [4] [] [V=V,1+(Qb1 s st k).length=([aI 0] :: (Qb1 s st k).map intA).length] ⟨rfl,(by first | rfl | (simp;done) | (simp;omega)),trivial⟩<|
 .f (.sl 1 false ((Qdl s st).map intA)) [] (.sl 1 false ([aI 0] :: (Qb1 s st k).map intA)) (by
  refine W2n ?_;have e:=Qj4 (s:=s) (st:=st) (by omega:s.l.length≤k);rw [show Qdl s st=0 :: Qb1 s st k from by unfold Qdl;rw [W1x (by rw [← e];first | exact .inl (by omega) | exact .inr (by assumption)),e]];rfl))
 <| fun q3=>have p3:=decF q3;.u 3 [b1]<|
 .call (Zfe s.nexts st (by omega))<|
 .r 1<|.br 34 (Zl7 s st) (fun q4=>have p4:=booT q4;.r 2<|.frz 8 [4] [] [V=V,1+(Qb1 s st k).length=([aI 0] :: (Qb1 s st k).map intA).length] ⟨rfl,(by first | rfl | (simp;done) | (simp;omega)),trivial⟩<|
 .f (.sl 1 false ((Qdl s st).map intA)) [] (.sl 1 false ([aI 0] :: (Qb1 s st k).map intA)) (by
  refine W2n ?_;have e:=Qj4 (s:=s) (st:=st) (by omega:s.l.length≤k);rw [show Qdl s st=0 :: Qb1 s st k from by unfold Qdl;rw [W1x (by rw [← e];first | exact .inl (by omega) | exact .inr (by assumption)),e]];rfl))
 <| fun q4=>have p4:=booF q4;.r 1<|.f (.sl 1 false ((Qdl s st).map intA)) [] aN (by
  rw [show Qdl s st=[] from by unfold Qdl;rw [W1w (by rw [← Qj4 (by omega:s.l.length≤k)];rintro (h | h)<;>first | omega | simp_all)]];exact Sub.nil _ _)) a1.1 a1.2 ha1)
theorem ver_eq {x y:Ver} (h1:x.stamp=y.stamp) (h2:x.gone=y.gone) (h3:x.n=y.n):x=y:=by cases x;cases y;simp_all
theorem chn_eq {x y:Chn} (h1:x.ino=y.ino) (h2:x.l=y.l):x=y:=by cases x;cases y;simp_all
theorem cnt_eq {x y:Cnt} (h1:x.stamp=y.stamp) (h2:x.next=y.next):x=y:=by cases x;cases y;simp_all
theorem sto_eq {x y:Sto} (h1:x.l=y.l) (h2:x.nexts=y.nexts) (h3:x.stamp=y.stamp):x=y:=by cases x;cases y;simp_all
theorem Qy0 (s t:Sto) (oks:OkS s) (okt:OkS t):Qag prog 30 [.agg (stoA s),.agg (stoA t)] (aB (dP (s=t))):=by
 have hb1:=oks.2.1;have hb2:=oks.2.2.1;have hc1:=okt.2.1;have hc2:=okt.2.2.1;exact Qac func30 (let R:AV:=aB (dP (s=t));
 .new fun b1=>.new fun b2=>.r 1<|.u 6 [b1,b2]<|
 .bn 16 s.stamp t.stamp (fun p1=>.r 17<|.r 1<|.f R [] (aB false) (by exact sF (fun h=>by subst h;omega)))
 <| fun p1=>.u 3 [b1]<|
 .lm 19 s.l chnA<|.u 3 [b2]<|
 .lm 22 t.l chnA<|.r 3<|.bn 25 (s.l.length:Int) (t.l.length:Int) (fun p2=>.r 8<|.r 1<|.f R [] (aB false) (by exact sF (fun h=>by subst h;omega)))
 <| fun p2=>.u 3 [b1]<|
 .lm 28 s.nexts cntA<|.u 3 [b2]<|
 .lm 31 t.nexts cntA<|.r 2<|.bn 33 (s.nexts.length:Int) (t.nexts.length:Int) (fun p3=>.r 1<|.f R [] (aB false) (by exact sF (fun h=>by subst h;omega)))
 <| fun p3=>.r 1<|let L1:Lp (Nat):=⟨fun a1=>⟨[(2,.ptr 2 b1 0),(3,.ptr 3 b2 0),(5,aI (a1:Int))],[(2,.box b1 25 (stoA s)),(3,.box b2 25 (stoA t))]⟩,fun a1=>s.nexts.length-a1,fun a1=>a1≤s.nexts.length∧s.nexts.take a1=t.nexts.take a1⟩
 .lp L1 0 ⟨W0j _,rfl⟩ [(5,aI 0)] [] ⟨sR,sR,sO,trivial⟩ bb2 fun a1 ha1=>
 (fun (k:Nat) (hH1:k≤s.nexts.length∧s.nexts.take k=t.nexts.take k)=>.u 4 [b1]<|
 .lm 37 s.nexts cntA<|.r 1<|.bd 38 ((k:Int)<(s.nexts.length:Int)) (fun p4=>.ord [0,1,2,3,4,5,6,7,8,9,10]<|.u 3 [b1]<|
 .idxM s.nexts cntA k (m:=(k:Int)) rfl (by omega) fun x1 hx1=>
 .u 4 [b2]<|
 .idxM t.nexts cntA k (m:=(k:Int)) rfl (by omega) fun x2 hx2=>
 .r 1<|.eqS<|.nbb 51 ((x1.stamp==x2.stamp)&&((x1.next==x2.next)&&(true))) (fun p5=>.r 1<|.f R [] (aB false) (by
  refine sF (fun h=>?_);rw [h,hx2] at hx1;obtain rfl:=W0c hx1;simp_all))
 <| fun p5=>.run 3 [rng .i64 ((k:Int)+1)] ⟨Qal,trivial⟩<|
 .bk L1 k (k+1) ⟨by omega,by rw [Qaq hx1,Qaq hx2,hH1.2];first | (congr 2;done) | (congr 2;exact cnt_eq (by simp_all [Qaf,Qaa]) (by simp_all [Qaf,Qaa]))⟩ (show s.nexts.length-(k+1)<s.nexts.length-k from (by omega)) [(5,aI ((k:Int)+1))] [] ⟨sR,sR,sO,trivial⟩ bb2)
 <| fun p4=>.r 1<|let L2:Lp (Nat):=⟨fun a2=>⟨[(2,.ptr 2 b1 0),(3,.ptr 3 b2 0),(6,aI (a2:Int))],[(2,.box b1 25 (stoA s)),(3,.box b2 25 (stoA t))]⟩,fun a2=>s.l.length-a2,fun a2=>a2≤s.l.length∧s.l.take a2=t.l.take a2⟩
 .lp L2 0 ⟨W0j _,rfl⟩ [(6,aI 0)] [] ⟨sR,sR,sO,trivial⟩ bb2 fun a2 ha2=>
 (fun (k:Nat) (hH2:k≤s.l.length∧s.l.take k=t.l.take k)=>.u 4 [b1]<|
 .lm 55 s.l chnA<|.r 1<|.bd 56 ((k:Int)<(s.l.length:Int)) (fun p6=>.u 3 [b1]<|
 .idxM s.l chnA k (m:=(k:Int)) rfl (by omega) fun x3 hx3=>
 have okx3:=oks.2.2.2.1 x3 (W0h hx3);have blx3:=okx3.2.1;.r 1<|.new fun b3=>.u 1 [b3]<|
 .u 3 [b2]<|
 .idxM t.l chnA k (m:=(k:Int)) rfl (by omega) fun x4 hx4=>
 have okx4:=okt.2.2.2.1 x4 (W0h hx4);have blx4:=okx4.2.1;.r 1<|.new fun b4=>.u 1 [b4]<|
 .u 6 [b3,b4]<|
 .bn 74 x3.ino x4.ino (fun p7=>.r 8<|.r 1<|.f R [] (aB false) (by
  refine sF (fun h=>?_);rw [h,hx4] at hx3;obtain rfl:=W0c hx3;simp_all))
 <| fun p7=>.u 3 [b3]<|
 .lm 77 x3.l verA<|.u 3 [b4]<|
 .lm 80 x4.l verA<|.r 2<|.bn 82 (x3.l.length:Int) (x4.l.length:Int) (fun p8=>.r 1<|.f R [] (aB false) (by
  refine sF (fun h=>?_);rw [h,hx4] at hx3;obtain rfl:=W0c hx3;simp_all))
 <| fun p8=>.r 1<|let L3:Lp (Nat):=⟨fun a3=>⟨[(2,.ptr 2 b1 0),(3,.ptr 3 b2 0),(6,aI (k:Int)),(7,.ptr 7 b3 0),(8,.ptr 8 b4 0),(9,aI (a3:Int))],[(2,.box b1 25 (stoA s)),(3,.box b2 25 (stoA t)),(7,.box b3 82 [aI x3.ino,.sl 7 false (x3.l.map verA)]),(8,.box b4 82 [aI x4.ino,.sl 7 false (x4.l.map verA)])]⟩,fun a3=>x3.l.length-a3,fun a3=>a3≤x3.l.length∧x3.l.take a3=x4.l.take a3⟩
 .lp L3 0 ⟨W0j _,rfl⟩ [(9,aI 0)] [] ⟨sR,sR,sR,sR,sR,sO,trivial⟩ bb4 fun a3 ha3=>
 (fun (j:Nat) (hH3:j≤x3.l.length∧x3.l.take j=x4.l.take j)=>.u 4 [b3]<|
 .lm 86 x3.l verA<|.r 1<|.bd 87 ((j:Int)<(x3.l.length:Int)) (fun p9=>.ord [0,1,2,3,4,5,6,7,8,9,10,11,12,13]<|.u 3 [b3]<|
 .idxM x3.l verA j (m:=(j:Int)) rfl (by omega) fun x5 hx5=>
 have okx5:=okx3.2.2 x5 (W0h hx5);.u 5 [b4]<|
 .idxM x4.l verA j (m:=(j:Int)) rfl (by omega) fun x6 hx6=>
 have okx6:=okx4.2.2 x6 (W0h hx6);.r 2<|.call (Qfu x5.n x6.n (okx5).2 (okx6).2)<|
 .r 1<|.ord [0,1,2,3,4,5,6,7,8,9,10,11,12,13,14,15,16,17,18,19,20,21,22,23,24,25,26,27,28,29,30,31]<|.r 3<|.nbb 105 (dP (x5.n=x6.n)) (fun p10=>.r 29<|.r 1<|.f R [] (aB false) (by
  refine sF (fun h=>?_);rw [h,hx4] at hx3;obtain rfl:=W0c hx3;rw [hx6] at hx5;obtain rfl:=W0c hx5;simp_all [Qaf,Qaa]))
 <| fun p10=>.u 3 [b3]<|
 .idx j (m:=(j:Int)) (xs:=x3.l.map verA) (e:=verA x5) rfl (map_some hx5)<|
 .u 5 [b4]<|
 .idx j (m:=(j:Int)) (xs:=x4.l.map verA) (e:=verA x6) rfl (map_some hx6)<|
 .r 5<|.bn 120 x5.stamp x6.stamp (fun p11=>.r 14<|.r 1<|.f R [] (aB false) (by
  refine sF (fun h=>?_);rw [h,hx4] at hx3;obtain rfl:=W0c hx3;rw [hx6] at hx5;obtain rfl:=W0c hx5;simp_all [Qaf,Qaa]))
 <| fun p11=>.u 3 [b3]<|
 .idx j (m:=(j:Int)) (xs:=x3.l.map verA) (e:=verA x5) rfl (map_some hx5)<|
 .u 5 [b4]<|
 .idx j (m:=(j:Int)) (xs:=x4.l.map verA) (e:=verA x6) rfl (map_some hx6)<|
 .r 4<|.nbe 134 x5.gone x6.gone (fun p12=>.r 1<|.f R [] (aB false) (by
  refine sF (fun h=>?_);rw [h,hx4] at hx3;obtain rfl:=W0c hx3;rw [hx6] at hx5;obtain rfl:=W0c hx5;simp_all [Qaf,Qaa]))
 <| fun p12=>.run 3 [rng .i64 ((j:Int)+1)] ⟨Qal,trivial⟩<|
 .bk L3 j (j+1) ⟨by omega,by rw [Qaq hx5,Qaq hx6,hH3.2];first | (congr 2;done) | (congr 2;exact ver_eq (by simp_all [Qaf,Qaa]) (by simp_all [Qaf,Qaa]) (by simp_all [Qaf,Qaa]))⟩ (show x3.l.length-(j+1)<x3.l.length-j from (by omega)) [(9,aI ((j:Int)+1))] [] ⟨sR,sR,sR,sR,sR,sO,trivial⟩ bb4)
 <| fun p9=>.run 3 [rng .i64 ((k:Int)+1)] ⟨Qal,trivial⟩<|
 .bk L2 k (k+1) ⟨by omega,by rw [Qaq hx3,Qaq hx4,hH2.2];congr 2;exact chn_eq (by omega) (by have h:=hH3.2;rw [Qap (by omega),Qap (by omega)] at h;exact h)⟩ (show s.l.length-(k+1)<s.l.length-k from (by omega)) [(6,aI ((k:Int)+1))] [] ⟨sR,sR,sO,trivial⟩ bb2) a3 ha3)
 <| fun p6=>.r 1<|.f R [] (aB true) (by
  refine sT (sto_eq ?_ ?_ (by omega))
  ·have h:=hH2.2;rw [Qap (by omega),Qap (by omega)] at h;exact h
  ·have h:=hH1.2;rw [Qap (by omega),Qap (by omega)] at h;exact h)) a2 ha2) a1 ha1)
def Zl8 (s:Sto):Nat:=(s.l.map (fun c=>c.l.length)).sum
def wV (v:Ver):Nat:=v.n.l.length
def wC (c:Chn):Nat:=c.l.length+(c.l.map wV).sum
def few (s:Sto):Prop:=s.l.length+s.nexts.length+(s.l.map wC).sum≤200∧∀ c∈s.l,∀ v∈c.l,v.n.text.length≤4096
def Qq6 (s:Sto) (k n:Nat):Prop:=k≤s.l.length∧n≤s.l.length+s.nexts.length+(s.l.map wC).sum ∧
 ((n=s.l.length+s.nexts.length+((s.l.take k).map wC).sum∧∀ c∈s.l.take k,∀ v∈c.l,v.n.text.length≤4096)∨200<n)∧n≤100000000000000
def Qtp (c:Chn) (n j m:Nat):Prop:=j≤c.l.length∧m≤100000000000000∧m=n+c.l.length+((c.l.take j).map wV).sum∧(∀ v∈c.l.take j,v.n.text.length≤4096)
theorem fewS0 (s:Sto) (h1:s.l.length≤8796093022207) (h2:s.nexts.length≤8796093022207):Qq6 s 0 (s.l.length+s.nexts.length):=
 ⟨W0j _,by omega,.inl ⟨by simp,fun c h=>by simp at h⟩,by omega⟩
theorem fewSV0 (c:Chn) (n:Nat) (h1:n≤200) (h2:c.l.length≤8796093022207):Qtp c n 0 (n+c.l.length):=⟨W0j _,by omega,by simp,fun v h=>by simp at h⟩
theorem fewSV {c:Chn} {v:Ver} {n j m:Nat} (hv:c.l[j]?=some v) (h:Qtp c n j m) (h0:j<c.l.length) (h1:m≤200) (h2:v.n.text.length≤4096) (h3:v.n.l.length≤8796093022207):Qtp c n (j+1) (m+v.n.l.length):=by
 obtain ⟨_,_,e,ht⟩:=h;refine ⟨h0,by omega,by rw [Qk8 wV hv,e];simp only [wV];omega,fun u hu=>?_⟩;rcases Qgn hv hu with h | rfl
 ·exact ht u h
 ·exact h2
theorem Qxl {s:Sto} {c:Chn} {k n j m:Nat} (hc:s.l[k]?=some c) (h:Qq6 s k n) (h0:k<s.l.length) (hn:n≤200) (h':Qtp c n j m) (h3:¬ (j:Int)<c.l.length∨¬ (m:Int)≤200):Qq6 s (k+1) m:=by
 obtain ⟨_,_,h,_⟩:=h;obtain ⟨hj,hm,e,ht⟩:=h';rcases h with ⟨h,htx⟩ | h
 ·have h5:=Qk8 wC hc;have h6:=Qdv wC s.l (k+1);have h7:=Qdv wV c.l j;have h8:wC c=c.l.length+(c.l.map wV).sum:=rfl;refine ⟨h0,by omega,?_,hm⟩;by_cases h9:m≤200
  ·have hj':c.l.length≤j:=by omega
   rw [Qap hj'] at e ht;refine .inl ⟨by omega,fun d hd=>?_⟩;rcases Qgn hc hd with h | rfl
   ·exact htx d h
   ·exact ht
  ·exact .inr (by omega)
 ·omega
theorem Zin {s:Sto} {c:Chn} {v:Ver} {k j:Nat} (hc:s.l[k]?=some c) (hv:c.l[j]?=some v) (h:¬ v.n.text.length≤4096):¬ few s:=fun hf=>h (hf.2 c (W0h hc) v (W0h hv))
theorem Qxm {s:Sto} {k n:Nat} (h:Qq6 s k n) (h3:¬ (k:Int)<s.l.length∨¬ (n:Int)≤200):decide ((n:Int)≤200)=true↔few s:=by
 obtain ⟨hk,hle,h,_⟩:=h;rw [decide_eq_true_iff];refine ⟨fun hn=>?_,fun hf=>?_⟩
 ·have hk':s.l.length≤k:=by omega
  rcases h with ⟨h,ht⟩ | h
  ·rw [Qap hk'] at h ht;exact ⟨by omega,ht⟩
  ·omega
 ·have:=hf.1;omega
theorem Zea (s:Sto) (oks:OkS s):Qag prog 9 [.agg (stoA s)] (aB (dP (few s))):=by
 have hs1:=oks.2.1;have hs2:=oks.2.2.1;exact Qac func9 (let R:AV:=aB (dP (few s));
 .new fun b1=>.r 1<|.u 3 [b1]<|
 .lm 8 s.l chnA<|.u 3 [b1]<|
 .lm 11 s.nexts cntA<|.run 2 [rng .i64 ((s.l.length:Int)+(s.nexts.length:Int))] ⟨Qal,trivial⟩<|
 .r 1<|let L1:Lp (Nat × Nat):=⟨fun a1=>⟨[(1,.ptr 1 b1 0),(4,aI (a1.1:Int)),(3,aI (a1.2:Int))],[(1,.box b1 25 (stoA s))]⟩,fun a1=>s.l.length-a1.1,fun a1=>Qq6 s a1.1 a1.2⟩
 .lp L1 (0,s.l.length+s.nexts.length) (show Qq6 s 0 (s.l.length+s.nexts.length) from fewS0 s hs1 hs2) [(4,aI 0),(3,aI ((s.l.length:Int)+(s.nexts.length:Int)))] [] ⟨sR,sO,sO,trivial⟩ bb1 fun a1 ha1=>
 (fun (k:Nat) (n:Nat) (hH1:Qq6 s k n)=>.u 4 [b1]<|
 .lm 16 s.l chnA<|.r 2<|.bd 18 ((k:Int)<(s.l.length:Int)) (fun p1=>.r 3<|.bd 21 ((n:Int)≤200) (fun p2=>.u 4 [b1]<|
 .idxM s.l chnA k (m:=(k:Int)) rfl (by omega) fun x1 hx1=>
 have okx1:=oks.2.2.2.1 x1 (W0h hx1);have blx1:=okx1.2.1;.r 3<|.lm 31 x1.l verA<|.run 2 [rng .i64 ((n:Int)+(x1.l.length:Int))] ⟨Qal,trivial⟩<|
 .r 1<|let L2:Lp (Nat × Nat):=⟨fun a2=>⟨[(1,.ptr 1 b1 0),(4,aI (k:Int)),(5,aI (a2.1:Int)),(3,aI (a2.2:Int))],[(1,.box b1 25 (stoA s))]⟩,fun a2=>x1.l.length-a2.1,fun a2=>Qtp x1 n a2.1 a2.2⟩
 .lp L2 (0,(n+x1.l.length)) (show Qtp x1 n 0 (n+x1.l.length) from (fewSV0 _ _ (by omega) (by omega))) [(5,aI 0),(3,aI ((n:Int)+(x1.l.length:Int)))] [] ⟨sR,sR,sO,sO,trivial⟩ bb1 fun a2 ha2=>
 (fun (j:Nat) (m:Nat) (hH2:Qtp x1 n j m)=>.u 4 [b1]<|
 .idx k (m:=(k:Int)) (xs:=s.l.map chnA) (e:=chnA x1) rfl (map_some hx1)<|
 .r 3<|.lm 40 x1.l verA<|.r 2<|.bd 42 ((j:Int)<(x1.l.length:Int)) (fun p3=>.r 3<|.bd 45 ((m:Int)≤200) (fun p4=>.u 4 [b1]<|
 .idx k (m:=(k:Int)) (xs:=s.l.map chnA) (e:=chnA x1) rfl (map_some hx1)<|
 .r 3<|.idxM x1.l verA j (m:=(j:Int)) rfl (by omega) fun x2 hx2=>
 have okx2:=okx1.2.2 x2 (W0h hx2);have blx2:=okx2.2.2.2.2.2.1;.r 4<|.lm 60 x2.n.l entA<|.run 2 [rng .i64 ((m:Int)+(x2.n.l.length:Int))] ⟨Qal,trivial⟩<|
 .u 3 [b1]<|
 .idx k (m:=(k:Int)) (xs:=s.l.map chnA) (e:=chnA x1) rfl (map_some hx1)<|
 .r 3<|.idx j (m:=(j:Int)) (xs:=x1.l.map verA) (e:=verA x2) rfl (map_some hx2)<|
 .r 5<|.bd 74 (((x2.n.text).length:Int)>4096) (fun p5=>.r 1<|.f R [] (aB false) (by exact sF (Zin hx1 hx2 (by omega))))
 <| fun p5=>.run 3 [rng .i64 ((j:Int)+1)] ⟨Qal,trivial⟩<|
 .bk L2 (j,m) ((j+1),(m+x2.n.l.length)) (show Qtp x1 n (j+1) (m+x2.n.l.length) from (fewSV hx2 hH2 (by omega) (by omega) (by omega) (by omega))) (show x1.l.length-(j+1)<x1.l.length-j from (by omega)) [(5,aI ((j:Int)+1)),(3,aI ((m:Int)+(x2.n.l.length:Int)))] [] ⟨sR,sR,sO,sO,trivial⟩ bb1)
 <| fun p4=>.run 3 [rng .i64 ((k:Int)+1)] ⟨Qal,trivial⟩<|
 .bk L1 (k,n) ((k+1),m) (show Qq6 s (k+1) m from (Qxl hx1 hH1 (by omega) (by omega) hH2 (by omega))) (show s.l.length-(k+1)<s.l.length-k from (by omega)) [(4,aI ((k:Int)+1))] [] ⟨sR,sO,sR,trivial⟩ bb1)
 <| fun p3=>.r 3<|.run 3 [rng .i64 ((k:Int)+1)] ⟨Qal,trivial⟩<|
 .bk L1 (k,n) ((k+1),m) (show Qq6 s (k+1) m from (Qxl hx1 hH1 (by omega) (by omega) hH2 (by omega))) (show s.l.length-(k+1)<s.l.length-k from (by omega)) [(4,aI ((k:Int)+1))] [] ⟨sR,sO,sR,trivial⟩ bb1) a2.1 a2.2 ha2)
 <| fun p2=>.r 3<|.f R [] (aB (decide ((n:Int)≤200))) (by exact sE (Qxm hH1 (by omega))))
 <| fun p1=>.r 3<|.r 3<|.f R [] (aB (decide ((n:Int)≤200))) (by exact sE (Qxm hH1 (by omega)))) a1.1 a1.2 ha1)
def newS:Sto:=⟨[⟨1,[⟨1,false,Qh5⟩]⟩],[⟨1,2⟩],1⟩
theorem Zaz :Qag prog 68 [] (.agg (fsyA newF)):=by
 exact Qac func68 (let R:AV:=.agg (fsyA newF);
 .new fun b1=>.u 4 [b1]<|
 .f R [b1] (.agg [.sl 5 true ([[aI 1,aI 2,aI 0,aS ([]),aN]]),aI 2]) (by exact W2r ⟨Qwc ⟨sR,sR,sR,sR,Sub.nil _ _,trivial⟩,sR,trivial⟩))
def newC (x:Nod):List AV:=[aI x.ino,.sl 7 true [[aI 1,aB false,aI x.ino,aI x.kind,aI x.links,aS x.text,.sl 2 false (x.l.map entA)]]]
theorem newS_l:Sub (.sl 2 false ([Qh5].map newC)) (.sl 2 false (newS.l.map chnA)):=Qwc ⟨sR,Qwc sr7,trivial⟩
theorem Zcq:OkS newS:=⟨⟨by decide,by decide⟩,by show (1:Nat)≤_;omega,by show (1:Nat)≤_;omega,fun c h=>by
  obtain rfl:=W0z.1 h;exact ⟨⟨by decide,by decide⟩,by show (1:Nat)≤_;omega,fun v hv=>by obtain rfl:=W0z.1 hv;exact ⟨⟨by decide,by decide⟩,Qwh⟩⟩,
 fun c h=>by obtain rfl:=W0z.1 h;exact ⟨⟨by decide,by decide⟩,⟨by decide,by decide⟩⟩⟩
theorem Qjp {α:Type} {Q:Nat→α→Prop} {x:α} (h:Q 0 x):AllQ Q [x]:=fun i e he=>by
 match i,he with
 | 0,he=>simp at he;subst he;exact h
 | i+1,he=>simp at he
theorem Qze:Qcc newS:=by
 refine ⟨by decide,⟨by decide,Qjp ⟨by decide,by decide,fun d h=>by omega⟩⟩,Qjp (by show (1:Int)≤2;decide),Qjp ⟨⟨by decide,⟨by decide,Qjp ⟨by decide,by decide,fun d h=>by omega⟩⟩,Qjp ⟨fun h=>(by cases h),fun _=>⟨?_,rfl⟩⟩⟩,fun d h=>by omega⟩⟩;exact ⟨by decide,by decide,by decide,.inl ⟨rfl,rfl,Qb3⟩⟩
theorem Zbb :Qag prog 34 [] (.agg (stoA newS)):=by
 have hnl:newF.l.length=1:=rfl;exact Qac func34 (
 .new fun b1=>.call (Zaz)<|
 .new fun b2=>.u 1 [b2]<|
 .u 5 [b2]<|
 .new fun b3=>.u 1 [b3]<|
 .rowNilB 100 2 0 82 2<|.u 3 [b2]<|
 .lm 13 newF.l nodA<|.r 1<|let L1:Lp (Nat × Value):=⟨fun a1=>⟨[(0,.ptr 0 b1 0),(2,.ptr 2 b3 0),(12,.sl 5 false (newF.l.map nodA)),(13,aI (newF.l.length:Int)),(14,aI (a1.1:Int))],[(0,.box b1 25 [aN,aN,aI 0]),(2,.box b3 25 [.rw 100 a1.2 (((newF.l.take a1.1).map newC).length),.sl 2 true ([[aI 1,aI newF.next]]),aI 1]),(100,.row a1.2 82 2 ((newF.l.take a1.1).map newC))]⟩,fun a1=>newF.l.length-a1.1,fun a1=>a1.1≤newF.l.length⟩
 .lp L1 (0,.slice none 0 0) (show 0≤newF.l.length from W0j _) [(14,aI 0)] [(2,.box b3 25 [.rw 100 (.slice none 0 0) 0,.sl 2 true ([[aI 1,aI newF.next]]),aI 1]),(100,.row (.slice none 0 0) 82 2 ([]))] ⟨sR,sR,sR,sR,sO,trivial⟩ ⟨sB,⟨_,rfl,W2s sr3⟩,sB,trivial⟩ fun a1 ha1=>
 (fun (k:Nat) (V:Value) (hH1:k≤newF.l.length)=>.r 1<|.bd 15 ((k:Int)<(newF.l.length:Int)) (fun p1=>.idxM newF.l nodA k (m:=(k:Int)) rfl (by omega) fun x1 hx1=>
 .r 1<|.new fun b4=>.u 1 [b4]<|
 .u 9 [b3,b4,b4]<|
 .app 32 V ((newF.l.take k).map newC) ([[aI x1.ino,.sl 7 true ([[aI 1,aB false,aI x1.ino,aI x1.kind,aI x1.links,aS x1.text,.sl 2 false (x1.l.map entA)]])]]) (by simp;try omega) (by simp;try omega) fun V1=>
 .u 2 [b3]<|
 .run 2 [rng .i64 ((k:Int)+1)] ⟨Qal,trivial⟩<|
 .bk L1 (k,V) ((k+1),V1) (show (k+1)≤newF.l.length from (by show _≤_;omega)) (show newF.l.length-(k+1)<newF.l.length-k from (by omega)) [(14,aI ((k:Int)+1))] [(2,.box b3 25 [.rw 100 V1 (((newF.l.take k).map newC).length+([[aI x1.ino,.sl 7 true ([[aI 1,aB false,aI x1.ino,aI x1.kind,aI x1.links,aS x1.text,.sl 2 false (x1.l.map entA)]])]]:List (List AV)).length),.sl 2 true ([[aI 1,aI newF.next]]),aI 1]),(100,.row V1 82 2 (((newF.l.take k).map newC)++([[aI x1.ino,.sl 7 true ([[aI 1,aB false,aI x1.ino,aI x1.kind,aI x1.links,aS x1.text,.sl 2 false (x1.l.map entA)]])]])))] ⟨sR,sR,sR,sR,sO,trivial⟩ ⟨sB,⟨_,rfl,W2s ⟨W2n (W1y (AV.rw 100 V1) (by rw [Qaq hx1];simp)),sR,sR,trivial⟩⟩,⟨_,rfl,W2o (by rw [Qaq hx1];simp [newC])⟩,trivial⟩)
 <| fun p1=>.u 2 [b3,b1]<|
 .frz 100 [0] [0] [V=V,((newF.l.take k).map newC).length=((newF.l.take k).map newC).length] ⟨rfl,(by first | rfl | (simp;done) | (simp;omega)),trivial⟩<|
 .f (.agg (stoA newS)) [b1] (.agg [.sl 2 false ((newF.l.take k).map newC),.sl 2 true ([[aI 1,aI newF.next]]),aI 1]) (by exact W2r ⟨(W2n (by rw [Qap (by omega)];rfl)).trans newS_l,Qwc sr2,sR,trivial⟩)) a1.1 a1.2 ha1)
theorem Qvv {α:Type} {f:α→Int} {st:Int} {l:List α} {x:α} (h:atD f st l=some x):x∈l:=by
 unfold atD at h
 split at h
 ·cases h
 ·exact W0h h
theorem Zgh {st:Int} {c:Chn} {n:Nod} (ok:OkC c) (h:Qbu st c=some n):OkN n:=by
 unfold Qbu at h
 split at h
 ·rename_i v hv
  split at h
  ·cases h
  ·obtain rfl:=W0c h;exact (ok.2.2 v (Qvv hv)).2
 ·cases h
theorem Qlt {s:Sto} (ok:OkS s) (st:Int):OkF (Qcl s st):=by
 refine ⟨?_,?_,fun n hn=>?_⟩
 ·show I64 (Qi6 s st);unfold Qi6
  split
  ·rename_i c hc;exact (ok.2.2.2.2 c (Qvv hc)).2
  ·exact ⟨by decide,by decide⟩
 ·have:=List.length_filterMap_le (Qbu st) s.l;have:=ok.2.1;show (s.l.filterMap (Qbu st)).length≤_;omega
 ·obtain ⟨c,hc,hv⟩:=W2i.1 hn;exact Zgh (ok.2.2.2.1 c hc) hv
theorem Zgx (s:Sto) (st:Int):(Qdl s st).length≤s.l.length+1:=by
 unfold Qdl
 split
 ·have:=Qmu s st s.l.length;simp;omega
 ·simp
theorem Qqn {s:Sto} (h:few s):s.l.length≤200∧s.nexts.length≤200∧Zl8 s≤200:=by
 have h1:=h.1;have h2:(s.l.map (fun c=>c.l.length)).sum≤(s.l.map wC).sum:=by
  clear h h1
  induction s.l with
  | nil=>simp
  | cons c r ih=>simp only [W1t,W1s,wC];omega
 unfold Zl8;omega
theorem Zaq {st last:Int} {c:Chn} (hle:st≤last) (h:Qkr st c=false):Qbu st c=Qbu last c:=by
 have h0:∀ v∈c.l,v.stamp≤st:=fun v hv=>by
  have:=W2c.1 h v hv;simp at this;exact this
 have key:∀ b,st≤b→cutV Ver.stamp b c.l=c.l.length:=fun b hb=>by
  refine Qfo _ _ _ _ (W0m _) (fun j x hj hx=>by have:=Qan hx;omega) ?_;cases hl:c.l with
  | nil=>exact .inl rfl
  | cons v r=>
   right;have hlt:(v :: r).length-1<(v :: r).length:=by simp
   refine ⟨(v :: r)[(v :: r).length-1],W0d hlt,?_⟩;have:=h0 _ (by rw [hl];exact W1m hlt);omega
 unfold Qbu atD;rw [key st (W1q _),key last hle]
theorem Qra {s:Sto} (hp:Qcc s) {c:Chn} (hc:c∈s.l) {st:Int} {n:Nod} (h:Qbu st c=some n):n.ino=c.ino:=by
 obtain ⟨k,hk⟩:=W0w hc;have hch:=(hp.2.2.2.at hk).1;unfold Qbu at h
 split at h
 ·rename_i v hv
  split at h
  ·cases h
  ·rename_i hg;obtain rfl:=W0c h;obtain ⟨j,hj⟩:=W0w (Qvv hv);exact ((hch.2.2 j v hj).2 (by simpa using hg)).2
 ·cases h
theorem Qyr {s:Sto} (hp:Qcc s):Qdl s s.stamp=[]:=by
 have h1:∀ c∈s.l,Qkr s.stamp c=false:=fun c hc=>by
  obtain ⟨k,hk⟩:=W0w hc;have hch:=(hp.2.2.2.at hk).1;refine W2c.2 fun v hv=>?_;obtain ⟨j,hj⟩:=W0w hv;have:=(hch.2.1.2.at hj).2.1;simp;omega
 have h2:Qb1 s s.stamp s.l.length=[]:=by
  unfold Qb1;rw [Qap (W0m _),List.filter_eq_nil_iff.2 (fun c hc=>by simp [h1 c hc])];rfl
 have h3:Zl7 s s.stamp=false:=by
  refine W2c.2 fun c hc=>?_;obtain ⟨j,hj⟩:=W0w hc;have:=(hp.2.1.2.at hj).2.1;simp;omega
 unfold Qdl;rw [h2,h3];simp
end Go.Proofs.YtkhodpknpligpaaGreat
