import Derived.Test.YtahlldgocpabjaaGreatMrgAF
set_option maxRecDepth 100000
set_option maxHeartbeats 8000000
set_option linter.unusedVariables false
set_option linter.unusedSimpArgs false
namespace Go.Proofs.YtahlldgocpabjaaGreat
open Go Go.RowKit Copyhold Go.Proofs.Tryz
theorem Qrx (s:Sto) (st:Int) (oks:OkS s) (hf:s.l.length≤100000):Qaj prog 52 [.agg (stoA s),aI st] (.agg (fsyA (Qbq s st))):=by
 have hb1:=oks.2.1;have hb2:=oks.2.2.1;exact Qad func52 (
 .new fun b1=>.new fun b2=>.call (Quk)<|
 .r 5<|.r 1<|.new fun b3=>.u 1 [b3]<|
 .rowNilB 100 7 0 84 5<|.u 3 [b1]<|
 .lm 19 s.l chnA<|.r 1<|let L1:Lp (Nat × Value):=⟨fun a1=>⟨[(1,aI st),(2,.ptr 2 b1 0),(4,.ptr 4 b2 0),(5,.val (.func (.func 154) #[] #[])),(6,.val (.func (.func 155) #[] #[])),(7,.ptr 7 b3 0),(18,.sl 2 false (s.l.map chnA)),(19,aI (s.l.length:Int)),(20,aI (a1.1:Int))],[(2,.box b1 25 (stoA s)),(4,.box b2 28 [aN,aI 0]),(7,.box b3 28 [.rw 100 a1.2 (((Qcn s st a1.1).map nodA).length),aI 1]),(100,.row a1.2 84 5 ((Qcn s st a1.1).map nodA))]⟩,fun a1=>s.l.length-a1.1,fun a1=>a1.1≤s.l.length⟩
 .lp L1 (0,.slice none 0 0) (show 0≤s.l.length from Nat.zero_le _) [(20,aI 0)] [(7,.box b3 28 [.rw 100 (.slice none 0 0) 0,aI 1]),(100,.row (.slice none 0 0) 84 5 ([]))] ⟨sR,sR,sR,sR,sR,sR,sR,sR,sO,trivial⟩ ⟨sB,sB,⟨_,rfl,SubB.boxs sr2⟩,sB,trivial⟩ fun a1 ha1=>
 (fun (k:Nat) (V:Value) (hH1:k≤s.l.length)=>.r 1<|.bd 21 ((k:Int)<(s.l.length:Int)) (fun p1=>.idxM s.l chnA k (m:=(k:Int)) rfl (by omega) fun x1 hx1=>
 have okx1:=oks.2.2.2.1 x1 (List.mem_of_getElem? hx1);have blx1:=okx1.2.1;.r 1<|.new fun b4=>.u 1 [b4]<|
 .u 4 [b4]<|
 .call (Qsc x1.l st (by omega))<|
 .r 1<|.r 3<|.bd 31 (((cutV Ver.stamp st x1.l:Int)-1)≥0) (fun p2=>.u 3 [b4]<|
 .idxM x1.l verA (cutV Ver.stamp st x1.l-1) (m:=(cutV Ver.stamp st x1.l:Int)-1) (by omega) (by have:=Qgc Ver.stamp st x1.l;omega) fun x2 hx2=>
 have okx2:=okx1.2.2 x2 (List.mem_of_getElem? hx2);.r 4<|.br 39 (!x2.gone) (fun q3=>have q3:=notT q3;have p3:=booF q3;.ord [0,1,2,3,4,5,6,7,8,9,10,11]<|.u 5 [b3,b4]<|
 .idx (cutV Ver.stamp st x1.l-1) (m:=(cutV Ver.stamp st x1.l:Int)-1) (xs:=x1.l.map verA) (e:=verA x2) (by omega) (map_some hx2)<|
 .r 3<|.app 64 V ((Qcn s st k).map nodA) ([(nodA x2.n)]) (by have:=Ql8 s st k;simp only [List.length_map,List.length_cons,List.length_nil];omega) (by have:=Ql8 s st k;simp only [List.length_map,List.length_cons,List.length_nil];omega) fun V1=>
 .u 2 [b3]<|
 .run 2 [rng .i64 ((k:Int)+1)] ⟨Qaq (by omega) (by omega),trivial⟩<|
 .bk L1 (k,V) ((k+1),V1) (show (k+1)≤s.l.length from (by show _≤_;omega)) (show s.l.length-(k+1)<s.l.length-k from (by omega)) [(20,aI ((k:Int)+1))] [(7,.box b3 28 [.rw 100 V1 (((Qcn s st k).map nodA).length+([(nodA x2.n)]:List (List AV)).length),aI 1]),(100,.row V1 84 5 (((Qcn s st k).map nodA)++([(nodA x2.n)])))] ⟨sR,sR,sR,sR,sR,sR,sR,sR,sO,trivial⟩ ⟨sB,sB,⟨_,rfl,SubB.boxs ⟨Sub.of_eq (by rw [Qjn hx1 (show Qbs st x1=some x2.n from by rw [Qeu (by omega) hx2,q3];rfl)];simp),sR,trivial⟩⟩,⟨_,rfl,SubB.of_eq (by rw [Qjn hx1 (show Qbs st x1=some x2.n from by rw [Qeu (by omega) hx2,q3];rfl)];simp [nodA])⟩,trivial⟩)
 <| fun q3=>have q3:=notF q3;have p3:=booT q3;.run 2 [rng .i64 ((k:Int)+1)] ⟨Qaq (by omega) (by omega),trivial⟩<|
 .bk L1 (k,V) ((k+1),V) (show (k+1)≤s.l.length from (by show _≤_;omega)) (show s.l.length-(k+1)<s.l.length-k from (by omega)) [(20,aI ((k:Int)+1))] [(7,.box b3 28 [.rw 100 V (((Qcn s st k).map nodA).length),aI 1]),(100,.row V 84 5 ((Qcn s st k).map nodA))] ⟨sR,sR,sR,sR,sR,sR,sR,sR,sO,trivial⟩ ⟨sB,sB,⟨_,rfl,SubB.boxs ⟨Sub.of_eq (by rw [Qfg hx1 (show Qbs st x1=none from by rw [Qeu (by omega) hx2,q3];rfl)]),sR,trivial⟩⟩,⟨_,rfl,SubB.of_eq (by rw [Qfg hx1 (show Qbs st x1=none from by rw [Qeu (by omega) hx2,q3];rfl)])⟩,trivial⟩)
 <| fun p2=>.r 8<|.run 2 [rng .i64 ((k:Int)+1)] ⟨Qaq (by omega) (by omega),trivial⟩<|
 .bk L1 (k,V) ((k+1),V) (show (k+1)≤s.l.length from (by show _≤_;omega)) (show s.l.length-(k+1)<s.l.length-k from (by omega)) [(20,aI ((k:Int)+1))] [(7,.box b3 28 [.rw 100 V (((Qcn s st k).map nodA).length),aI 1]),(100,.row V 84 5 ((Qcn s st k).map nodA))] ⟨sR,sR,sR,sR,sR,sR,sR,sR,sO,trivial⟩ ⟨sB,sB,⟨_,rfl,SubB.boxs ⟨Sub.of_eq (by rw [Qfg hx1 (show Qbs st x1=none from Qh0 (by have:=Qgc Ver.stamp st x1.l;omega))]),sR,trivial⟩⟩,⟨_,rfl,SubB.of_eq (by rw [Qfg hx1 (show Qbs st x1=none from Qh0 (by have:=Qgc Ver.stamp st x1.l;omega))])⟩,trivial⟩)
 <| fun p1=>.u 4 [b1]<|
 .call (Qoi s.nexts st (by omega))<|
 .r 1<|.r 2<|.bd 58 (((cutV Cnt.stamp st s.nexts:Int)-1)≥0) (fun p4=>.u 3 [b1]<|
 .idxM s.nexts cntA (cutV Cnt.stamp st s.nexts-1) (m:=(cutV Cnt.stamp st s.nexts:Int)-1) (by omega) (by have:=Qgc Cnt.stamp st s.nexts;omega) fun x3 hx3=>
 have okx3:=oks.2.2.2.2 x3 (List.mem_of_getElem? hx3);.u 4 [b3]<|
 .u 2 [b3,b2]<|
 .frz 100 [4] [4] [V=V,((Qcn s st k).map nodA).length=((Qcn s st k).map nodA).length] ⟨rfl,(by first | rfl | (simp;done) | (simp;omega)),trivial⟩<|
 .f (.agg (fsyA (Qbq s st))) [b2] (.agg [.sl 5 false ((Qcn s st k).map nodA),aI x3.next]) (by exact Sub.aggs ⟨Sub.of_eq (by rw [Qjo (by omega)];rfl),Sub.of_eq (congrArg aI (Qxf (by omega) hx3).symm),trivial⟩))
 <| fun p4=>.u 2 [b3,b2]<|
 .frz 100 [4] [4] [V=V,((Qcn s st k).map nodA).length=((Qcn s st k).map nodA).length] ⟨rfl,(by first | rfl | (simp;done) | (simp;omega)),trivial⟩<|
 .f (.agg (fsyA (Qbq s st))) [b2] (.agg [.sl 5 false ((Qcn s st k).map nodA),aI 1]) (by exact Sub.aggs ⟨Sub.of_eq (by rw [Qjo (by omega)];rfl),Sub.of_eq (congrArg aI (Qo8 (by have:=Qgc Cnt.stamp st s.nexts;omega)).symm),trivial⟩)) a1.1 a1.2 ha1)
theorem Qk2 (s:Sto) (st:Int) (oks:OkS s) (hf:s.l.length≤100000):Qaj prog 39 [.agg (stoA s),aI st] (.agg (fsyA (Qbq s st))):=by
 have hb1:=oks.2.1;have hb2:=oks.2.2.1;exact Qad func39 (
 .new fun b1=>.new fun b2=>.r 1<|.new fun b3=>.u 1 [b3]<|
 .rowNilB 100 5 0 84 5<|.r 1<|let L1:Lp (Nat × Value):=⟨fun a1=>⟨[(1,aI st),(2,.ptr 2 b1 0),(4,.ptr 4 b2 0),(5,.ptr 5 b3 0),(6,aI (a1.1:Int))],[(2,.box b1 25 (stoA s)),(4,.box b2 28 [aN,aI 0]),(5,.box b3 28 [.rw 100 a1.2 (((Qcn s st a1.1).map nodA).length),aI 1]),(100,.row a1.2 84 5 ((Qcn s st a1.1).map nodA))]⟩,fun a1=>s.l.length-a1.1,fun a1=>a1.1≤s.l.length⟩
 .lp L1 (0,.slice none 0 0) (show 0≤s.l.length from Nat.zero_le _) [(6,aI 0)] [(5,.box b3 28 [.rw 100 (.slice none 0 0) 0,aI 1]),(100,.row (.slice none 0 0) 84 5 ([]))] ⟨sR,sR,sR,sR,sO,trivial⟩ ⟨sB,sB,⟨_,rfl,SubB.boxs sr2⟩,sB,trivial⟩ fun a1 ha1=>
 (fun (k:Nat) (V:Value) (hH1:k≤s.l.length)=>.u 4 [b1]<|
 .lm 13 s.l chnA<|.r 1<|.bd 14 ((k:Int)<(s.l.length:Int)) (fun p1=>.u 3 [b1]<|
 .idxM s.l chnA k (m:=(k:Int)) rfl (by omega) fun x1 hx1=>
 have okx1:=oks.2.2.2.1 x1 (List.mem_of_getElem? hx1);have blx1:=okx1.2.1;.r 2<|.call (Qzh x1 st (by omega))<|
 .r 1<|.r 3<|.bd 26 (((cutV Ver.stamp st x1.l:Int)-1)≥0) (fun p2=>.u 3 [b1]<|
 .idx k (m:=(k:Int)) (xs:=s.l.map chnA) (e:=chnA x1) rfl (map_some hx1)<|
 .r 3<|.idxM x1.l verA (cutV Ver.stamp st x1.l-1) (m:=(cutV Ver.stamp st x1.l:Int)-1) (by omega) (by have:=Qgc Ver.stamp st x1.l;omega) fun x2 hx2=>
 have okx2:=okx1.2.2 x2 (List.mem_of_getElem? hx2);.r 4<|.br 38 (!x2.gone) (fun q3=>have q3:=notT q3;have p3:=booF q3;.ord [0,1,2,3,4,5,6,7,8,9,10,11,12,13,14,15]<|.u 5 [b3,b1]<|
 .idx k (m:=(k:Int)) (xs:=s.l.map chnA) (e:=chnA x1) rfl (map_some hx1)<|
 .r 3<|.idx (cutV Ver.stamp st x1.l-1) (m:=(cutV Ver.stamp st x1.l:Int)-1) (xs:=x1.l.map verA) (e:=verA x2) (by omega) (map_some hx2)<|
 .r 3<|.app 64 V ((Qcn s st k).map nodA) ([(nodA x2.n)]) (by have:=Ql8 s st k;simp only [List.length_map,List.length_cons,List.length_nil];omega) (by have:=Ql8 s st k;simp only [List.length_map,List.length_cons,List.length_nil];omega) fun V1=>
 .u 2 [b3]<|
 .run 3 [rng .i64 ((k:Int)+1)] ⟨Qaq (by omega) (by omega),trivial⟩<|
 .bk L1 (k,V) ((k+1),V1) (show (k+1)≤s.l.length from (by show _≤_;omega)) (show s.l.length-(k+1)<s.l.length-k from (by omega)) [(6,aI ((k:Int)+1))] [(5,.box b3 28 [.rw 100 V1 (((Qcn s st k).map nodA).length+([(nodA x2.n)]:List (List AV)).length),aI 1]),(100,.row V1 84 5 (((Qcn s st k).map nodA)++([(nodA x2.n)])))] ⟨sR,sR,sR,sR,sO,trivial⟩ ⟨sB,sB,⟨_,rfl,SubB.boxs ⟨Sub.of_eq (by rw [Qjn hx1 (show Qbs st x1=some x2.n from by rw [Qeu (by omega) hx2,q3];rfl)];simp),sR,trivial⟩⟩,⟨_,rfl,SubB.of_eq (by rw [Qjn hx1 (show Qbs st x1=some x2.n from by rw [Qeu (by omega) hx2,q3];rfl)];simp [nodA])⟩,trivial⟩)
 <| fun q3=>have q3:=notF q3;have p3:=booT q3;.run 3 [rng .i64 ((k:Int)+1)] ⟨Qaq (by omega) (by omega),trivial⟩<|
 .bk L1 (k,V) ((k+1),V) (show (k+1)≤s.l.length from (by show _≤_;omega)) (show s.l.length-(k+1)<s.l.length-k from (by omega)) [(6,aI ((k:Int)+1))] [(5,.box b3 28 [.rw 100 V (((Qcn s st k).map nodA).length),aI 1]),(100,.row V 84 5 ((Qcn s st k).map nodA))] ⟨sR,sR,sR,sR,sO,trivial⟩ ⟨sB,sB,⟨_,rfl,SubB.boxs ⟨Sub.of_eq (by rw [Qfg hx1 (show Qbs st x1=none from by rw [Qeu (by omega) hx2,q3];rfl)]),sR,trivial⟩⟩,⟨_,rfl,SubB.of_eq (by rw [Qfg hx1 (show Qbs st x1=none from by rw [Qeu (by omega) hx2,q3];rfl)])⟩,trivial⟩)
 <| fun p2=>.r 12<|.run 3 [rng .i64 ((k:Int)+1)] ⟨Qaq (by omega) (by omega),trivial⟩<|
 .bk L1 (k,V) ((k+1),V) (show (k+1)≤s.l.length from (by show _≤_;omega)) (show s.l.length-(k+1)<s.l.length-k from (by omega)) [(6,aI ((k:Int)+1))] [(5,.box b3 28 [.rw 100 V (((Qcn s st k).map nodA).length),aI 1]),(100,.row V 84 5 ((Qcn s st k).map nodA))] ⟨sR,sR,sR,sR,sO,trivial⟩ ⟨sB,sB,⟨_,rfl,SubB.boxs ⟨Sub.of_eq (by rw [Qfg hx1 (show Qbs st x1=none from Qh0 (by have:=Qgc Ver.stamp st x1.l;omega))]),sR,trivial⟩⟩,⟨_,rfl,SubB.of_eq (by rw [Qfg hx1 (show Qbs st x1=none from Qh0 (by have:=Qgc Ver.stamp st x1.l;omega))])⟩,trivial⟩)
 <| fun p1=>.u 2 [b1]<|
 .call (Qzk s st (by omega))<|
 .r 1<|.r 2<|.bd 58 (((cutV Cnt.stamp st s.nexts:Int)-1)≥0) (fun p4=>.u 3 [b1]<|
 .idxM s.nexts cntA (cutV Cnt.stamp st s.nexts-1) (m:=(cutV Cnt.stamp st s.nexts:Int)-1) (by omega) (by have:=Qgc Cnt.stamp st s.nexts;omega) fun x3 hx3=>
 have okx3:=oks.2.2.2.2 x3 (List.mem_of_getElem? hx3);.u 4 [b3]<|
 .u 2 [b3,b2]<|
 .frz 100 [4] [4] [V=V,((Qcn s st k).map nodA).length=((Qcn s st k).map nodA).length] ⟨rfl,(by first | rfl | (simp;done) | (simp;omega)),trivial⟩<|
 .f (.agg (fsyA (Qbq s st))) [b2] (.agg [.sl 5 false ((Qcn s st k).map nodA),aI x3.next]) (by exact Sub.aggs ⟨Sub.of_eq (by rw [Qjo (by omega)];rfl),Sub.of_eq (congrArg aI (Qxf (by omega) hx3).symm),trivial⟩))
 <| fun p4=>.u 2 [b3,b2]<|
 .frz 100 [4] [4] [V=V,((Qcn s st k).map nodA).length=((Qcn s st k).map nodA).length] ⟨rfl,(by first | rfl | (simp;done) | (simp;omega)),trivial⟩<|
 .f (.agg (fsyA (Qbq s st))) [b2] (.agg [.sl 5 false ((Qcn s st k).map nodA),aI 1]) (by exact Sub.aggs ⟨Sub.of_eq (by rw [Qjo (by omega)];rfl),Sub.of_eq (congrArg aI (Qo8 (by have:=Qgc Cnt.stamp st s.nexts;omega)).symm),trivial⟩)) a1.1 a1.2 ha1)
theorem Zbt (x:Ver) (st:Int):Qaj prog 111 [.agg (verA x),.dptr [aI st]] (aB (decide (x.stamp>st))):=by
 exact Qad func111 (let R:AV:=aB (decide (x.stamp>st));
 .new fun b1=>.r 1<|.u 5 [b1]<|
 .fi R [])
theorem Zed (l:List Ver) (st:Int) (hl:l.length≤8796093022207):Qaj prog 164 [.sl 7 false (l.map verA),.clo 111 [.dptr [aI st]]] (aI (idxF (fun (x:Ver)=>decide (x.stamp>st)) l)):=by
 exact Qad func164 (
 .r 1<|.r 2<|.lm 7 l verA<|.r 1<|let L1:Lp (Nat):=⟨fun a1=>⟨[(0,.sl 7 false (l.map verA)),(1,.clo 111 [.dptr [aI st]]),(7,aI (l.length:Int)),(8,aI (a1:Int))],[]⟩,fun a1=>l.length-a1,fun a1=>a1≤l.length∧Qa7 (fun _ x=>(fun (x:Ver)=>decide (x.stamp>st)) x=false) l a1⟩
 .lp L1 0 ⟨Nat.zero_le _,Qa7.zero _ _⟩ [(8,aI 0)] [] ⟨sR,sR,sR,sO,trivial⟩ trivial fun a1 ha1=>
 (fun (k:Nat) (hH1:k≤l.length∧Qa7 (fun _ x=>(fun (x:Ver)=>decide (x.stamp>st)) x=false) l k)=>.r 1<|.br 9 (decide ((k:Int)<(l.length:Int))) (fun q1=>have p1:=decT q1;.r 2<|.r 3<|.idxM l verA k (m:=(k:Int)) rfl (by omega) fun x1 hx1=>
 .r 1<|.call (Zbt x1 st)<|
 .br 16 (decide (x1.stamp>st)) (fun q2=>have p2:=decT q2;.r 2<|.f (aI (idxF (fun (x:Ver)=>decide (x.stamp>st)) l)) [] (aI (k:Int)) (by exact Sub.of_eq (congrArg aI (Qvt (fun (x:Ver)=>decide (x.stamp>st)) l k x1 hH1.2 hx1 (by assumption)).symm)))
 <| fun q2=>have p2:=decF q2;.run 2 [rng .i64 ((k:Int)+1)] ⟨Qaq (by omega) (by omega),trivial⟩<|
 .bk L1 k (k+1) ⟨by omega,hH1.2.step hx1 (by assumption)⟩ (show l.length-(k+1)<l.length-k from (by omega)) [(8,aI ((k:Int)+1))] [] ⟨sR,sR,sR,sO,trivial⟩ trivial)
 <| fun q1=>have p1:=decF q1;.r 1<|.f (aI (idxF (fun (x:Ver)=>decide (x.stamp>st)) l)) [] (aI (-1)) (by exact Sub.of_eq (congrArg aI (Qnv (fun (x:Ver)=>decide (x.stamp>st)) l (hH1.2.full (by omega))).symm))) a1 ha1)
theorem Zfw (l:List Ver) (st:Int) (hl:l.length≤8796093022207):Qaj prog 110 [.sl 7 false (l.map verA),.clo 111 [.dptr [aI st]]] (aB (l.any (fun (x:Ver)=>decide (x.stamp>st)))):=by
 exact Qad func110 (
 .r 1<|.r 2<|.call (Zed l st (by omega))<|
 .r 2<|.f (aB (l.any (fun (x:Ver)=>decide (x.stamp>st)))) [] (aB (decide ((idxF (fun (x:Ver)=>decide (x.stamp>st)) l)≥0))) (by exact Sub.of_eq (congrArg aB (Qqz (fun (x:Ver)=>decide (x.stamp>st)) l))))
theorem Zbs (x:Cnt) (st:Int):Qaj prog 113 [.agg [aI x.stamp,aI x.next],.dptr [aI st]] (aB (decide (x.stamp>st))):=by
 exact Qad func113 (let R:AV:=aB (decide (x.stamp>st));
 .new fun b1=>.r 1<|.u 5 [b1]<|
 .fi R [])
theorem Zec (l:List Cnt) (st:Int) (hl:l.length≤8796093022207):Qaj prog 165 [.sl 2 false (l.map cntA),.clo 113 [.dptr [aI st]]] (aI (idxF (fun (x:Cnt)=>decide (x.stamp>st)) l)):=by
 exact Qad func165 (
 .r 1<|.r 2<|.lm 7 l cntA<|.r 1<|let L1:Lp (Nat):=⟨fun a1=>⟨[(0,.sl 2 false (l.map cntA)),(1,.clo 113 [.dptr [aI st]]),(7,aI (l.length:Int)),(8,aI (a1:Int))],[]⟩,fun a1=>l.length-a1,fun a1=>a1≤l.length∧Qa7 (fun _ x=>(fun (x:Cnt)=>decide (x.stamp>st)) x=false) l a1⟩
 .lp L1 0 ⟨Nat.zero_le _,Qa7.zero _ _⟩ [(8,aI 0)] [] ⟨sR,sR,sR,sO,trivial⟩ trivial fun a1 ha1=>
 (fun (k:Nat) (hH1:k≤l.length∧Qa7 (fun _ x=>(fun (x:Cnt)=>decide (x.stamp>st)) x=false) l k)=>.r 1<|.br 9 (decide ((k:Int)<(l.length:Int))) (fun q1=>have p1:=decT q1;.r 2<|.r 3<|.idxM l cntA k (m:=(k:Int)) rfl (by omega) fun x1 hx1=>
 .r 1<|.call (Zbs x1 st)<|
 .br 16 (decide (x1.stamp>st)) (fun q2=>have p2:=decT q2;.r 2<|.f (aI (idxF (fun (x:Cnt)=>decide (x.stamp>st)) l)) [] (aI (k:Int)) (by exact Sub.of_eq (congrArg aI (Qvt (fun (x:Cnt)=>decide (x.stamp>st)) l k x1 hH1.2 hx1 (by assumption)).symm)))
 <| fun q2=>have p2:=decF q2;.run 2 [rng .i64 ((k:Int)+1)] ⟨Qaq (by omega) (by omega),trivial⟩<|
 .bk L1 k (k+1) ⟨by omega,hH1.2.step hx1 (by assumption)⟩ (show l.length-(k+1)<l.length-k from (by omega)) [(8,aI ((k:Int)+1))] [] ⟨sR,sR,sR,sO,trivial⟩ trivial)
 <| fun q1=>have p1:=decF q1;.r 1<|.f (aI (idxF (fun (x:Cnt)=>decide (x.stamp>st)) l)) [] (aI (-1)) (by exact Sub.of_eq (congrArg aI (Qnv (fun (x:Cnt)=>decide (x.stamp>st)) l (hH1.2.full (by omega))).symm))) a1 ha1)
theorem Zfv (l:List Cnt) (st:Int) (hl:l.length≤8796093022207):Qaj prog 112 [.sl 2 false (l.map cntA),.clo 113 [.dptr [aI st]]] (aB (l.any (fun (x:Cnt)=>decide (x.stamp>st)))):=by
 exact Qad func112 (
 .r 1<|.r 2<|.call (Zec l st (by omega))<|
 .r 2<|.f (aB (l.any (fun (x:Cnt)=>decide (x.stamp>st)))) [] (aB (decide ((idxF (fun (x:Cnt)=>decide (x.stamp>st)) l)≥0))) (by exact Sub.of_eq (congrArg aB (Qqz (fun (x:Cnt)=>decide (x.stamp>st)) l))))
theorem Qzc (s:Sto) (st:Int) (oks:OkS s) (hf:s.l.length≤100000):Qaj prog 62 [.agg (stoA s),aI st] (.sl 1 false ((Qcf s st).map intA)):=by
 have hb1:=oks.2.1;have hb2:=oks.2.2.1;exact Qad func62 (
 .new fun b1=>.new fun b2=>.r 1<|.frz 3 [2,3,4] [2] [b2=b2] rt1<|
 .litN fun V1=>.r 1<|.u 3 [b1]<|
 .lm 11 s.l chnA<|.r 1<|let L1:Lp (Nat × Value):=⟨fun a1=>⟨[(2,.ptr 2 b1 0),(3,.dptr [aI st]),(10,.sl 2 false (s.l.map chnA)),(11,aI (s.l.length:Int)),(5,.rw 8 a1.2 (1+(Qb1 s st a1.1).length)),(12,aI (a1.1:Int))],[(2,.box b1 25 (stoA s)),(8,.row a1.2 3 1 ([aI 0] :: (Qb1 s st a1.1).map intA))]⟩,fun a1=>s.l.length-a1.1,fun a1=>a1.1≤s.l.length⟩
 .lp L1 (0,V1) (show 0≤s.l.length from Nat.zero_le _) [(5,.rw 8 V1 1),(12,aI 0)] [(8,.row V1 3 1 ([[aI 0]]))] ⟨sR,sR,sR,sR,sR,sO,trivial⟩ bb2 fun a1 ha1=>
 (fun (k:Nat) (V:Value) (hH1:k≤s.l.length)=>.r 1<|.br 13 (decide ((k:Int)<(s.l.length:Int))) (fun q1=>have p1:=decT q1;.idxM s.l chnA k (m:=(k:Int)) rfl (by omega) fun x1 hx1=>
 have okx1:=oks.2.2.2.1 x1 (List.mem_of_getElem? hx1);have blx1:=okx1.2.1;.r 1<|.new fun b3=>.u 1 [b3]<|
 .u 3 [b3]<|
 .call (Zfw x1.l st (by omega))<|
 .br 19 (Qi0 st x1) (fun q2=>have p2:=booT q2;.u 4 [b3]<|
 .app 8 V ([aI 0] :: (Qb1 s st k).map intA) ([[aI x1.ino]]) (by have:=Qnn s st k;simp only [List.length_map,List.length_cons,List.length_nil];omega) (by have:=Qnn s st k;simp only [List.length_map,List.length_cons,List.length_nil];omega) fun V2=>
 .r 1<|.run 2 [rng .i64 ((k:Int)+1)] ⟨Qaq (by omega) (by omega),trivial⟩<|
 .bk L1 (k,V) ((k+1),V2) (show (k+1)≤s.l.length from (by show _≤_;omega)) (show s.l.length-(k+1)<s.l.length-k from (by omega)) [(5,.rw 8 V2 (([aI 0] :: (Qb1 s st k).map intA).length+([[aI x1.ino]]:List (List AV)).length)),(12,aI ((k:Int)+1))] [(8,.row V2 3 1 (([aI 0] :: (Qb1 s st k).map intA)++([[aI x1.ino]])))] ⟨sR,sR,sR,sR,Sub.of_eq (congrArg (AV.rw 8 V2) (by rw [Qpf hx1 q2];simp;try omega)),sO,trivial⟩ ⟨sB,⟨_,rfl,SubB.of_eq (by rw [Qpf hx1 q2];simp [intA])⟩,trivial⟩)
 <| fun q2=>have p2:=booF q2;.run 2 [rng .i64 ((k:Int)+1)] ⟨Qaq (by omega) (by omega),trivial⟩<|
 .bk L1 (k,V) ((k+1),V) (show (k+1)≤s.l.length from (by show _≤_;omega)) (show s.l.length-(k+1)<s.l.length-k from (by omega)) [(5,.rw 8 V (1+(Qb1 s st k).length)),(12,aI ((k:Int)+1))] [(8,.row V 3 1 ([aI 0] :: (Qb1 s st k).map intA))] ⟨sR,sR,sR,sR,Sub.of_eq (congrArg (AV.rw 8 V) (by rw [Qs1 hx1 q2])),sO,trivial⟩ ⟨sB,⟨_,rfl,SubB.of_eq (by rw [Qs1 hx1 q2])⟩,trivial⟩)
 <| fun q1=>have p1:=decF q1;.r 4<|.br 29 (decide ((1+(Qb1 s st k).length:Int)>1)) (fun q3=>have p3:=decT q3;.r 5<|.r 2<|.frz 8 [4] [] [V=V,1+(Qb1 s st k).length=([aI 0] :: (Qb1 s st k).map intA).length] ⟨rfl,(by first | rfl | (simp;done) | (simp;omega)),trivial⟩<|
 .f (.sl 1 false ((Qcf s st).map intA)) [] (.sl 1 false ([aI 0] :: (Qb1 s st k).map intA)) (by
  refine Sub.of_eq ?_;have e:=Qlc (s:=s) (st:=st) (by omega:s.l.length≤k);rw [show Qcf s st=0 :: Qb1 s st k from by unfold Qcf;rw [if_pos (by rw [← e];first | exact .inl (by omega) | exact .inr (by assumption)),e]];rfl))
 <| fun q3=>have p3:=decF q3;.u 3 [b1]<|
 .call (Zfv s.nexts st (by omega))<|
 .r 1<|.br 34 (Qz8 s st) (fun q4=>have p4:=booT q4;.r 2<|.frz 8 [4] [] [V=V,1+(Qb1 s st k).length=([aI 0] :: (Qb1 s st k).map intA).length] ⟨rfl,(by first | rfl | (simp;done) | (simp;omega)),trivial⟩<|
 .f (.sl 1 false ((Qcf s st).map intA)) [] (.sl 1 false ([aI 0] :: (Qb1 s st k).map intA)) (by
  refine Sub.of_eq ?_;have e:=Qlc (s:=s) (st:=st) (by omega:s.l.length≤k);rw [show Qcf s st=0 :: Qb1 s st k from by unfold Qcf;rw [if_pos (by rw [← e];first | exact .inl (by omega) | exact .inr (by assumption)),e]];rfl))
 <| fun q4=>have p4:=booF q4;.r 1<|.f (.sl 1 false ((Qcf s st).map intA)) [] aN (by
  rw [show Qcf s st=[] from by unfold Qcf;rw [if_neg (by rw [← Qlc (by omega:s.l.length≤k)];rintro (h | h)<;>first | omega | simp_all)]];exact Sub.nil _ _)) a1.1 a1.2 ha1)
def Zl1 (s:Sto):Nat:=(s.l.map (fun c=>c.l.length)).sum
def wV (v:Ver):Nat:=v.n.l.length
def wC (c:Chn):Nat:=c.l.length+(c.l.map wV).sum
def few (s:Sto):Prop:=s.l.length+s.nexts.length+(s.l.map wC).sum≤200∧∀ c∈s.l,∀ v∈c.l,v.n.text.length≤4096
def Qrs (s:Sto) (k n:Nat):Prop:=k≤s.l.length∧n≤s.l.length+s.nexts.length+(s.l.map wC).sum ∧
 ((n=s.l.length+s.nexts.length+((s.l.take k).map wC).sum∧∀ c∈s.l.take k,∀ v∈c.l,v.n.text.length≤4096)∨200<n)∧n≤100000000000000
def Qud (c:Chn) (n j m:Nat):Prop:=j≤c.l.length∧m≤100000000000000∧m=n+c.l.length+((c.l.take j).map wV).sum∧(∀ v∈c.l.take j,v.n.text.length≤4096)
theorem fewS0 (s:Sto) (h1:s.l.length≤8796093022207) (h2:s.nexts.length≤8796093022207):Qrs s 0 (s.l.length+s.nexts.length):=
 ⟨Nat.zero_le _,by omega,.inl ⟨by simp,fun c h=>by simp at h⟩,by omega⟩
theorem fewSV0 (c:Chn) (n:Nat) (h1:n≤200) (h2:c.l.length≤8796093022207):Qud c n 0 (n+c.l.length):=⟨Nat.zero_le _,by omega,by simp,fun v h=>by simp at h⟩
theorem fewSV {c:Chn} {v:Ver} {n j m:Nat} (hv:c.l[j]?=some v) (h:Qud c n j m) (h0:j<c.l.length) (h1:m≤200) (h2:v.n.text.length≤4096) (h3:v.n.l.length≤8796093022207):Qud c n (j+1) (m+v.n.l.length):=by
 obtain ⟨_,_,e,ht⟩:=h;refine ⟨h0,by omega,by rw [Ql6 wV hv,e];simp only [wV];omega,fun u hu=>?_⟩;rcases Qhk hv hu with h | rfl
 ·exact ht u h
 ·exact h2
theorem Qx6 {s:Sto} {c:Chn} {k n j m:Nat} (hc:s.l[k]?=some c) (h:Qrs s k n) (h0:k<s.l.length) (hn:n≤200) (h':Qud c n j m) (h3:¬ (j:Int)<c.l.length∨¬ (m:Int)≤200):Qrs s (k+1) m:=by
 obtain ⟨_,_,h,_⟩:=h;obtain ⟨hj,hm,e,ht⟩:=h';rcases h with ⟨h,htx⟩ | h
 ·have h5:=Ql6 wC hc;have h6:=Qe2 wC s.l (k+1);have h7:=Qe2 wV c.l j;have h8:wC c=c.l.length+(c.l.map wV).sum:=rfl;refine ⟨h0,by omega,?_,hm⟩;by_cases h9:m≤200
  ·have hj':c.l.length≤j:=by omega
   rw [Qa0 hj'] at e ht;refine .inl ⟨by omega,fun d hd=>?_⟩;rcases Qhk hc hd with h | rfl
   ·exact htx d h
   ·exact ht
  ·exact .inr (by omega)
 ·omega
theorem Zim {s:Sto} {c:Chn} {v:Ver} {k j:Nat} (hc:s.l[k]?=some c) (hv:c.l[j]?=some v) (h:¬ v.n.text.length≤4096):¬ few s:=fun hf=>h (hf.2 c (List.mem_of_getElem? hc) v (List.mem_of_getElem? hv))
theorem Qx7 {s:Sto} {k n:Nat} (h:Qrs s k n) (h3:¬ (k:Int)<s.l.length∨¬ (n:Int)≤200):decide ((n:Int)≤200)=true↔few s:=by
 obtain ⟨hk,hle,h,_⟩:=h;rw [decide_eq_true_iff];refine ⟨fun hn=>?_,fun hf=>?_⟩
 ·have hk':s.l.length≤k:=by omega
  rcases h with ⟨h,ht⟩ | h
  ·rw [Qa0 hk'] at h ht;exact ⟨by omega,ht⟩
  ·omega
 ·have:=hf.1;omega
theorem Ze2 (s:Sto) (oks:OkS s):Qaj prog 47 [.agg (stoA s)] (aB (dP (few s))):=by
 have hs1:=oks.2.1;have hs2:=oks.2.2.1;exact Qad func47 (let R:AV:=aB (dP (few s));
 .new fun b1=>.r 1<|.u 3 [b1]<|
 .lm 8 s.l chnA<|.u 3 [b1]<|
 .lm 11 s.nexts cntA<|.run 2 [rng .i64 ((s.l.length:Int)+(s.nexts.length:Int))] ⟨Qaq (by omega) (by omega),trivial⟩<|
 .r 1<|let L1:Lp (Nat × Nat):=⟨fun a1=>⟨[(1,.ptr 1 b1 0),(4,aI (a1.1:Int)),(3,aI (a1.2:Int))],[(1,.box b1 25 (stoA s))]⟩,fun a1=>s.l.length-a1.1,fun a1=>Qrs s a1.1 a1.2⟩
 .lp L1 (0,s.l.length+s.nexts.length) (show Qrs s 0 (s.l.length+s.nexts.length) from fewS0 s hs1 hs2) [(4,aI 0),(3,aI ((s.l.length:Int)+(s.nexts.length:Int)))] [] ⟨sR,sO,sO,trivial⟩ bb1 fun a1 ha1=>
 (fun (k:Nat) (n:Nat) (hH1:Qrs s k n)=>.u 4 [b1]<|
 .lm 16 s.l chnA<|.r 2<|.bd 18 ((k:Int)<(s.l.length:Int)) (fun p1=>.r 3<|.bd 21 ((n:Int)≤200) (fun p2=>.u 4 [b1]<|
 .idxM s.l chnA k (m:=(k:Int)) rfl (by omega) fun x1 hx1=>
 have okx1:=oks.2.2.2.1 x1 (List.mem_of_getElem? hx1);have blx1:=okx1.2.1;.r 3<|.lm 31 x1.l verA<|.run 2 [rng .i64 ((n:Int)+(x1.l.length:Int))] ⟨Qaq (by omega) (by omega),trivial⟩<|
 .r 1<|let L2:Lp (Nat × Nat):=⟨fun a2=>⟨[(1,.ptr 1 b1 0),(4,aI (k:Int)),(5,aI (a2.1:Int)),(3,aI (a2.2:Int))],[(1,.box b1 25 (stoA s))]⟩,fun a2=>x1.l.length-a2.1,fun a2=>Qud x1 n a2.1 a2.2⟩
 .lp L2 (0,(n+x1.l.length)) (show Qud x1 n 0 (n+x1.l.length) from (fewSV0 _ _ (by omega) (by omega))) [(5,aI 0),(3,aI ((n:Int)+(x1.l.length:Int)))] [] ⟨sR,sR,sO,sO,trivial⟩ bb1 fun a2 ha2=>
 (fun (j:Nat) (m:Nat) (hH2:Qud x1 n j m)=>.u 4 [b1]<|
 .idx k (m:=(k:Int)) (xs:=s.l.map chnA) (e:=chnA x1) rfl (map_some hx1)<|
 .r 3<|.lm 40 x1.l verA<|.r 2<|.bd 42 ((j:Int)<(x1.l.length:Int)) (fun p3=>.r 3<|.bd 45 ((m:Int)≤200) (fun p4=>.u 4 [b1]<|
 .idx k (m:=(k:Int)) (xs:=s.l.map chnA) (e:=chnA x1) rfl (map_some hx1)<|
 .r 3<|.idxM x1.l verA j (m:=(j:Int)) rfl (by omega) fun x2 hx2=>
 have okx2:=okx1.2.2 x2 (List.mem_of_getElem? hx2);have blx2:=okx2.2.2.2.2.2.1;.r 4<|.lm 60 x2.n.l entA<|.run 2 [rng .i64 ((m:Int)+(x2.n.l.length:Int))] ⟨Qaq (by omega) (by omega),trivial⟩<|
 .u 3 [b1]<|
 .idx k (m:=(k:Int)) (xs:=s.l.map chnA) (e:=chnA x1) rfl (map_some hx1)<|
 .r 3<|.idx j (m:=(j:Int)) (xs:=x1.l.map verA) (e:=verA x2) rfl (map_some hx2)<|
 .r 5<|.bd 74 (((x2.n.text).length:Int)>4096) (fun p5=>.r 1<|.f R [] (aB false) (by exact sF (Zim hx1 hx2 (by omega))))
 <| fun p5=>.run 3 [rng .i64 ((j:Int)+1)] ⟨Qaq (by omega) (by omega),trivial⟩<|
 .bk L2 (j,m) ((j+1),(m+x2.n.l.length)) (show Qud x1 n (j+1) (m+x2.n.l.length) from (fewSV hx2 hH2 (by omega) (by omega) (by omega) (by omega))) (show x1.l.length-(j+1)<x1.l.length-j from (by omega)) [(5,aI ((j:Int)+1)),(3,aI ((m:Int)+(x2.n.l.length:Int)))] [] ⟨sR,sR,sO,sO,trivial⟩ bb1)
 <| fun p4=>.run 3 [rng .i64 ((k:Int)+1)] ⟨Qaq (by omega) (by omega),trivial⟩<|
 .bk L1 (k,n) ((k+1),m) (show Qrs s (k+1) m from (Qx6 hx1 hH1 (by omega) (by omega) hH2 (by omega))) (show s.l.length-(k+1)<s.l.length-k from (by omega)) [(4,aI ((k:Int)+1))] [] ⟨sR,sO,sR,trivial⟩ bb1)
 <| fun p3=>.r 3<|.run 3 [rng .i64 ((k:Int)+1)] ⟨Qaq (by omega) (by omega),trivial⟩<|
 .bk L1 (k,n) ((k+1),m) (show Qrs s (k+1) m from (Qx6 hx1 hH1 (by omega) (by omega) hH2 (by omega))) (show s.l.length-(k+1)<s.l.length-k from (by omega)) [(4,aI ((k:Int)+1))] [] ⟨sR,sO,sR,trivial⟩ bb1) a2.1 a2.2 ha2)
 <| fun p2=>.r 3<|.f R [] (aB (decide ((n:Int)≤200))) (by exact sE (Qx7 hH1 (by omega))))
 <| fun p1=>.r 3<|.r 3<|.f R [] (aB (decide ((n:Int)≤200))) (by exact sE (Qx7 hH1 (by omega)))) a1.1 a1.2 ha1)
def newS:Sto:=⟨[⟨1,[⟨1,false,Qiw⟩]⟩],[⟨1,2⟩],1⟩
theorem Qk8:OkS newS:=⟨⟨by decide,by decide⟩,by show (1:Nat)≤_;omega,by show (1:Nat)≤_;omega,fun c h=>by
  obtain rfl:=List.mem_singleton.1 h;exact ⟨⟨by decide,by decide⟩,by show (1:Nat)≤_;omega,fun v hv=>by obtain rfl:=List.mem_singleton.1 hv;exact ⟨⟨by decide,by decide⟩,Qw0⟩⟩,
 fun c h=>by obtain rfl:=List.mem_singleton.1 h;exact ⟨⟨by decide,by decide⟩,⟨by decide,by decide⟩⟩⟩
theorem Qkp {α:Type} {Q:Nat→α→Prop} {x:α} (h:Q 0 x):AllQ Q [x]:=fun i e he=>by
 match i,he with
 | 0,he=>simp at he;subst he;exact h
 | i+1,he=>simp at he
theorem Qz6:Qcc newS:=by
 refine ⟨by decide,⟨by decide,Qkp ⟨by decide,by decide,fun d h=>by omega⟩⟩,Qkp (by show (1:Int)≤2;decide),Qkp ⟨⟨by decide,⟨by decide,Qkp ⟨by decide,by decide,fun d h=>by omega⟩⟩,Qkp ⟨fun h=>(by cases h),fun _=>⟨?_,rfl⟩⟩⟩,fun d h=>by omega⟩⟩;exact ⟨by decide,by decide,by decide,.inl ⟨rfl,rfl,Qca⟩⟩
theorem Qwl {α:Type} {f:α→Int} {st:Int} {l:List α} {x:α} (h:atD f st l=some x):x∈l:=by
 unfold atD at h
 split at h
 ·cases h
 ·exact List.mem_of_getElem? h
theorem Zgl {st:Int} {c:Chn} {n:Nod} (ok:OkC c) (h:Qbs st c=some n):OkN n:=by
 unfold Qbs at h
 split at h
 ·rename_i v hv
  split at h
  ·cases h
  ·obtain rfl:=Option.some.inj h;exact (ok.2.2 v (Qwl hv)).2
 ·cases h
theorem Qku {s:Sto} (ok:OkS s) (st:Int):OkF (Qbq s st):=by
 refine ⟨?_,?_,fun n hn=>?_⟩
 ·show I64 (Qe6 s st);unfold Qe6
  split
  ·rename_i c hc;exact (ok.2.2.2.2 c (Qwl hc)).2
  ·exact ⟨by decide,by decide⟩
 ·have:=List.length_filterMap_le (Qbs st) s.l;have:=ok.2.1;show (s.l.filterMap (Qbs st)).length≤_;omega
 ·obtain ⟨c,hc,hv⟩:=List.mem_filterMap.1 hn;exact Zgl (ok.2.2.2.1 c hc) hv
theorem Zgy (s:Sto) (st:Int):(Qcf s st).length≤s.l.length+1:=by
 unfold Qcf
 split
 ·have:=Qnn s st s.l.length;simp;omega
 ·simp
theorem Qx5 {s:Sto} (h:few s):s.l.length≤200∧s.nexts.length≤200∧Zl1 s≤200:=by
 have h1:=h.1;have h2:(s.l.map (fun c=>c.l.length)).sum≤(s.l.map wC).sum:=by
  clear h h1
  induction s.l with
  | nil=>simp
  | cons c r ih=>simp only [List.map_cons,List.sum_cons,wC];omega
 unfold Zl1;omega
theorem Qpk (f:Fsy) (i:Int):Qau f i=(f.l.find? (isNo i)).isSome:=by
 unfold Qau
 induction f.l with
 | nil=>rfl
 | cons n r ih=>
  simp only [List.any_cons,List.find?_cons];cases h:isNo i n<;>simp [ih]
theorem Qmk {st last:Int} {c:Chn} (hle:st≤last) (h:Qi0 st c=false):Qbs st c=Qbs last c:=by
 have h0:∀ v∈c.l,v.stamp≤st:=fun v hv=>by
  have:=List.any_eq_false.1 h v hv;simp at this;exact this
 have key:∀ b,st≤b→cutV Ver.stamp b c.l=c.l.length:=fun b hb=>by
  refine Qgd _ _ _ _ (Nat.le_refl _) (fun j x hj hx=>by have:=Qap hx;omega) ?_;cases hl:c.l with
  | nil=>exact .inl rfl
  | cons v r=>
   right;have hlt:(v :: r).length-1<(v :: r).length:=by simp
   refine ⟨(v :: r)[(v :: r).length-1],List.getElem?_eq_getElem hlt,?_⟩;have:=h0 _ (by rw [hl];exact List.getElem_mem hlt);omega
 unfold Qbs atD;rw [key st (Int.le_refl _),key last hle]
theorem Qml {s:Sto} (hp:Qcc s) {c:Chn} (hc:c∈s.l) {st:Int} {n:Nod} (h:Qbs st c=some n):n.ino=c.ino:=by
 obtain ⟨k,hk⟩:=List.getElem?_of_mem hc;have hch:=(hp.2.2.2.at hk).1;unfold Qbs at h
 split at h
 ·rename_i v hv
  split at h
  ·cases h
  ·rename_i hg;obtain rfl:=Option.some.inj h;obtain ⟨j,hj⟩:=List.getElem?_of_mem (Qwl hv);exact ((hch.2.2 j v hj).2 (by simpa using hg)).2
 ·cases h
theorem Qti {st last i:Int}:∀ {l:List Chn},(∀ c∈l,c.ino=i→Qbs st c=Qbs last c)→(∀ c∈l,∀ b n,Qbs b c=some n→n.ino=c.ino) →
  (l.filterMap (Qbs st)).find? (isNo i)=(l.filterMap (Qbs last)).find? (isNo i)
 | [],_,_=>rfl
 | c :: r,h1,h2=>by
  have ih:=Qti (l:=r) (fun d hd=>h1 d (by simp [hd])) (fun d hd=>h2 d (by simp [hd]));have no:∀ b n,Qbs b c=some n→c.ino ≠ i→isNo i n=false:=fun b n hn hne=>by
   have:=h2 c (by simp) b n hn;simp [isNo,this,hne]
  by_cases hi:c.ino=i
  ·have e:=h1 c (by simp) hi;simp only [List.filterMap_cons,e];cases Qbs last c with
   | none=>exact ih
   | some n=>simp only [List.find?_cons,ih]
  ·simp only [List.filterMap_cons];cases ha:Qbs st c with
   | none=>
    cases hb:Qbs last c with
    | none=>exact ih
    | some n=>simp only [List.find?_cons,no _ _ hb hi];exact ih
   | some m=>
    cases hb:Qbs last c with
    | none=>simp only [List.find?_cons,no _ _ ha hi];exact ih
    | some n=>simp only [List.find?_cons,no _ _ ha hi,no _ _ hb hi];exact ih
theorem Qpx {s:Sto} {st:Int} (hp:Qcc s) (hle:st≤s.stamp):∀ c∈Qbn (Qbq s st) (Qbq s s.stamp),c.ino∈Qcf s st:=by
 intro c hc;refine Classical.byContradiction fun hn=>?_;obtain ⟨i,hi,hch⟩:=List.mem_filterMap.1 hc;have hino:c.ino=i:=by
  unfold chgD at hch
  split at hch
  ·obtain rfl:=Option.some.inj hch;rfl
  ·split at hch
   ·obtain rfl:=Option.some.inj hch;rfl
   ·cases hch
 rw [hino] at hn;have hno:∀ d∈s.l,d.ino=i→Qbs st d=Qbs s.stamp d:=fun d hd he=>by
  refine Qmk hle (Bool.eq_false_iff.2 fun hl=>hn ?_);have hm:i∈Qb1 s st s.l.length:=by
   unfold Qb1;rw [Qa0 (Nat.le_refl _)];exact List.mem_map.2 ⟨d,List.mem_filter.2 ⟨hd,hl⟩,he⟩
  unfold Qcf;rw [if_pos (.inl (by have:=List.length_pos_of_mem hm;omega))];exact List.mem_cons_of_mem _ hm
 have hf:=Qti (i:=i) hno (fun d hd b n hv=>Qml hp hd hv);have e1:(Qbq s st).l.find? (isNo i)=(Qbq s s.stamp).l.find? (isNo i):=hf;have eB:Qau (Qbq s st) i=Qau (Qbq s s.stamp) i:=by rw [Qpk,Qpk,e1]
 have eN:Qaa (Qbq s st) i=Qaa (Qbq s s.stamp) i:=by unfold Qaa;rw [e1]
 have hany:Qau (Qbq s st) i=true:=by
  have key:∀ f:Fsy,(∃ n∈f.l,n.ino=i)→Qau f i=true:=fun f ⟨n,hn,he⟩=>List.any_eq_true.2 ⟨n,hn,by simp [isNo,he]⟩;rcases Qng hi with h | h
  ·rcases Qng h with h | h
   ·cases h
   ·exact key _ h
  ·rw [eB];exact key _ h
 unfold chgD at hch;rw [if_neg (by rw [← eB,hany];simp),if_neg (fun h=>h.elim (fun h=>by rw [hany] at h;cases h) (fun h=>h eN))] at hch;cases hch
theorem Qo0 {s:Sto} (hp:Qcc s):Qcf s s.stamp=[]:=by
 have h1:∀ c∈s.l,Qi0 s.stamp c=false:=fun c hc=>by
  obtain ⟨k,hk⟩:=List.getElem?_of_mem hc;have hch:=(hp.2.2.2.at hk).1;refine List.any_eq_false.2 fun v hv=>?_;obtain ⟨j,hj⟩:=List.getElem?_of_mem hv;have:=(hch.2.1.2.at hj).2.1;simp;omega
 have h2:Qb1 s s.stamp s.l.length=[]:=by
  unfold Qb1;rw [Qa0 (Nat.le_refl _),List.filter_eq_nil_iff.2 (fun c hc=>by simp [h1 c hc])];rfl
 have h3:Qz8 s s.stamp=false:=by
  refine List.any_eq_false.2 fun c hc=>?_;obtain ⟨j,hj⟩:=List.getElem?_of_mem hc;have:=(hp.2.1.2.at hj).2.1;simp;omega
 unfold Qcf;rw [h2,h3];simp
end Go.Proofs.YtahlldgocpabjaaGreat
