import Derived.Test.YtahlldgocpabjaaGreatMrgAF
set_option maxRecDepth 100000
set_option maxHeartbeats 8000000
set_option linter.unusedVariables false
set_option linter.unusedSimpArgs false
namespace Go.Proofs.YtahlldgocpabjaaGreat
open Go Go.RowKit Copyhold Go.Proofs.Tryz
theorem Qqy (s:Sto) (st:Int) (oks:OkS s) (hf:s.l.length≤100000):Qai prog 52 [.agg (stoA s),aI st] (.agg (fsyA (Qcm s st))):=by
 have hb1:=oks.2.1;have hb2:=oks.2.2.1;exact Qad func52 (
 .new fun b1=>.new fun b2=>.call (Qth)<|
 .r 5<|.r 1<|.new fun b3=>.u 1 [b3]<|
 .rowNilB 100 7 0 84 5<|.u 3 [b1]<|
 .lm 19 s.l chnA<|.r 1<|let L1:Lp (Nat × Value):=⟨fun a1=>⟨[(1,aI st),(2,.ptr 2 b1 0),(4,.ptr 4 b2 0),(5,.val (.func (.func 154) #[] #[])),(6,.val (.func (.func 155) #[] #[])),(7,.ptr 7 b3 0),(18,.sl 2 false (s.l.map chnA)),(19,aI (s.l.length:Int)),(20,aI (a1.1:Int))],[(2,.box b1 25 (stoA s)),(4,.box b2 28 [aN,aI 0]),(7,.box b3 28 [.rw 100 a1.2 (((Qck s st a1.1).map nodA).length),aI 1]),(100,.row a1.2 84 5 ((Qck s st a1.1).map nodA))]⟩,fun a1=>s.l.length-a1.1,fun a1=>a1.1≤s.l.length⟩
 .lp L1 (0,.slice none 0 0) (show 0≤s.l.length from Nat.zero_le _) [(20,aI 0)] [(7,.box b3 28 [.rw 100 (.slice none 0 0) 0,aI 1]),(100,.row (.slice none 0 0) 84 5 ([]))] ⟨sR,sR,sR,sR,sR,sR,sR,sR,sO,trivial⟩ ⟨sB,sB,⟨_,rfl,SubB.boxs sr2⟩,sB,trivial⟩ fun a1 ha1=>
 (fun (k:Nat) (V:Value) (hH1:k≤s.l.length)=>.r 1<|.bd 21 ((k:Int)<(s.l.length:Int)) (fun p1=>.idxM s.l chnA k (m:=(k:Int)) rfl (by omega) fun x1 hx1=>
 have okx1:=oks.2.2.2.1 x1 (List.mem_of_getElem? hx1);have blx1:=okx1.2.1;.r 1<|.new fun b4=>.u 1 [b4]<|
 .u 4 [b4]<|
 .call (Qrc x1.l st (by omega))<|
 .r 1<|.r 3<|.bd 31 (((cutV Ver.stamp st x1.l:Int)-1)≥0) (fun p2=>.u 3 [b4]<|
 .idxM x1.l verA (cutV Ver.stamp st x1.l-1) (m:=(cutV Ver.stamp st x1.l:Int)-1) (by omega) (by have:=Qg9 Ver.stamp st x1.l;omega) fun x2 hx2=>
 have okx2:=okx1.2.2 x2 (List.mem_of_getElem? hx2);.r 4<|.br 39 (!x2.gone) (fun q3=>have q3:=notT q3;have p3:=booF q3;.ord [0,1,2,3,4,5,6,7,8,9,10,11]<|.u 5 [b3,b4]<|
 .idx (cutV Ver.stamp st x1.l-1) (m:=(cutV Ver.stamp st x1.l:Int)-1) (xs:=x1.l.map verA) (e:=verA x2) (by omega) (map_some hx2)<|
 .r 3<|.app 64 V ((Qck s st k).map nodA) ([(nodA x2.n)]) (by have:=Qlh s st k;simp only [List.length_map,List.length_cons,List.length_nil];omega) (by have:=Qlh s st k;simp only [List.length_map,List.length_cons,List.length_nil];omega) fun V1=>
 .u 2 [b3]<|
 .run 2 [rng .i64 ((k:Int)+1)] ⟨Qam (by omega) (by omega),trivial⟩<|
 .bk L1 (k,V) ((k+1),V1) (show (k+1)≤s.l.length from (by show _≤_;omega)) (show s.l.length-(k+1)<s.l.length-k from (by omega)) [(20,aI ((k:Int)+1))] [(7,.box b3 28 [.rw 100 V1 (((Qck s st k).map nodA).length+([(nodA x2.n)]:List (List AV)).length),aI 1]),(100,.row V1 84 5 (((Qck s st k).map nodA)++([(nodA x2.n)])))] ⟨sR,sR,sR,sR,sR,sR,sR,sR,sO,trivial⟩ ⟨sB,sB,⟨_,rfl,SubB.boxs ⟨Sub.of_eq (by rw [Qi0 hx1 (show Qb4 st x1=some x2.n from by rw [Qej (by omega) hx2,q3];rfl)];simp),sR,trivial⟩⟩,⟨_,rfl,SubB.of_eq (by rw [Qi0 hx1 (show Qb4 st x1=some x2.n from by rw [Qej (by omega) hx2,q3];rfl)];simp [nodA])⟩,trivial⟩)
 <| fun q3=>have q3:=notF q3;have p3:=booT q3;.run 2 [rng .i64 ((k:Int)+1)] ⟨Qam (by omega) (by omega),trivial⟩<|
 .bk L1 (k,V) ((k+1),V) (show (k+1)≤s.l.length from (by show _≤_;omega)) (show s.l.length-(k+1)<s.l.length-k from (by omega)) [(20,aI ((k:Int)+1))] [(7,.box b3 28 [.rw 100 V (((Qck s st k).map nodA).length),aI 1]),(100,.row V 84 5 ((Qck s st k).map nodA))] ⟨sR,sR,sR,sR,sR,sR,sR,sR,sO,trivial⟩ ⟨sB,sB,⟨_,rfl,SubB.boxs ⟨Sub.of_eq (by rw [Qez hx1 (show Qb4 st x1=none from by rw [Qej (by omega) hx2,q3];rfl)]),sR,trivial⟩⟩,⟨_,rfl,SubB.of_eq (by rw [Qez hx1 (show Qb4 st x1=none from by rw [Qej (by omega) hx2,q3];rfl)])⟩,trivial⟩)
 <| fun p2=>.r 8<|.run 2 [rng .i64 ((k:Int)+1)] ⟨Qam (by omega) (by omega),trivial⟩<|
 .bk L1 (k,V) ((k+1),V) (show (k+1)≤s.l.length from (by show _≤_;omega)) (show s.l.length-(k+1)<s.l.length-k from (by omega)) [(20,aI ((k:Int)+1))] [(7,.box b3 28 [.rw 100 V (((Qck s st k).map nodA).length),aI 1]),(100,.row V 84 5 ((Qck s st k).map nodA))] ⟨sR,sR,sR,sR,sR,sR,sR,sR,sO,trivial⟩ ⟨sB,sB,⟨_,rfl,SubB.boxs ⟨Sub.of_eq (by rw [Qez hx1 (show Qb4 st x1=none from Qhj (by have:=Qg9 Ver.stamp st x1.l;omega))]),sR,trivial⟩⟩,⟨_,rfl,SubB.of_eq (by rw [Qez hx1 (show Qb4 st x1=none from Qhj (by have:=Qg9 Ver.stamp st x1.l;omega))])⟩,trivial⟩)
 <| fun p1=>.u 4 [b1]<|
 .call (Qnp s.nexts st (by omega))<|
 .r 1<|.r 2<|.bd 58 (((cutV Cnt.stamp st s.nexts:Int)-1)≥0) (fun p4=>.u 3 [b1]<|
 .idxM s.nexts cntA (cutV Cnt.stamp st s.nexts-1) (m:=(cutV Cnt.stamp st s.nexts:Int)-1) (by omega) (by have:=Qg9 Cnt.stamp st s.nexts;omega) fun x3 hx3=>
 have okx3:=oks.2.2.2.2 x3 (List.mem_of_getElem? hx3);.u 4 [b3]<|
 .u 2 [b3,b2]<|
 .frz 100 [4] [4] [V=V,((Qck s st k).map nodA).length=((Qck s st k).map nodA).length] ⟨rfl,(by first | rfl | (simp;done) | (simp;omega)),trivial⟩<|
 .f (.agg (fsyA (Qcm s st))) [b2] (.agg [.sl 5 false ((Qck s st k).map nodA),aI x3.next]) (by exact Sub.aggs ⟨Sub.of_eq (by rw [Qi1 (by omega)];rfl),Sub.of_eq (congrArg aI (Qv7 (by omega) hx3).symm),trivial⟩))
 <| fun p4=>.u 2 [b3,b2]<|
 .frz 100 [4] [4] [V=V,((Qck s st k).map nodA).length=((Qck s st k).map nodA).length] ⟨rfl,(by first | rfl | (simp;done) | (simp;omega)),trivial⟩<|
 .f (.agg (fsyA (Qcm s st))) [b2] (.agg [.sl 5 false ((Qck s st k).map nodA),aI 1]) (by exact Sub.aggs ⟨Sub.of_eq (by rw [Qi1 (by omega)];rfl),Sub.of_eq (congrArg aI (Qoi (by have:=Qg9 Cnt.stamp st s.nexts;omega)).symm),trivial⟩)) a1.1 a1.2 ha1)
theorem Qn9 (s:Sto) (st:Int) (oks:OkS s) (hf:s.l.length≤100000):Qai prog 39 [.agg (stoA s),aI st] (.agg (fsyA (Qcm s st))):=by
 have hb1:=oks.2.1;have hb2:=oks.2.2.1;exact Qad func39 (
 .new fun b1=>.new fun b2=>.r 1<|.new fun b3=>.u 1 [b3]<|
 .rowNilB 100 5 0 84 5<|.r 1<|let L1:Lp (Nat × Value):=⟨fun a1=>⟨[(1,aI st),(2,.ptr 2 b1 0),(4,.ptr 4 b2 0),(5,.ptr 5 b3 0),(6,aI (a1.1:Int))],[(2,.box b1 25 (stoA s)),(4,.box b2 28 [aN,aI 0]),(5,.box b3 28 [.rw 100 a1.2 (((Qck s st a1.1).map nodA).length),aI 1]),(100,.row a1.2 84 5 ((Qck s st a1.1).map nodA))]⟩,fun a1=>s.l.length-a1.1,fun a1=>a1.1≤s.l.length⟩
 .lp L1 (0,.slice none 0 0) (show 0≤s.l.length from Nat.zero_le _) [(6,aI 0)] [(5,.box b3 28 [.rw 100 (.slice none 0 0) 0,aI 1]),(100,.row (.slice none 0 0) 84 5 ([]))] ⟨sR,sR,sR,sR,sO,trivial⟩ ⟨sB,sB,⟨_,rfl,SubB.boxs sr2⟩,sB,trivial⟩ fun a1 ha1=>
 (fun (k:Nat) (V:Value) (hH1:k≤s.l.length)=>.u 4 [b1]<|
 .lm 13 s.l chnA<|.r 1<|.bd 14 ((k:Int)<(s.l.length:Int)) (fun p1=>.u 3 [b1]<|
 .idxM s.l chnA k (m:=(k:Int)) rfl (by omega) fun x1 hx1=>
 have okx1:=oks.2.2.2.1 x1 (List.mem_of_getElem? hx1);have blx1:=okx1.2.1;.r 2<|.call (Qx4 x1 st (by omega))<|
 .r 1<|.r 3<|.bd 26 (((cutV Ver.stamp st x1.l:Int)-1)≥0) (fun p2=>.u 3 [b1]<|
 .idx k (m:=(k:Int)) (xs:=s.l.map chnA) (e:=chnA x1) rfl (map_some hx1)<|
 .r 3<|.idxM x1.l verA (cutV Ver.stamp st x1.l-1) (m:=(cutV Ver.stamp st x1.l:Int)-1) (by omega) (by have:=Qg9 Ver.stamp st x1.l;omega) fun x2 hx2=>
 have okx2:=okx1.2.2 x2 (List.mem_of_getElem? hx2);.r 4<|.br 38 (!x2.gone) (fun q3=>have q3:=notT q3;have p3:=booF q3;.ord [0,1,2,3,4,5,6,7,8,9,10,11,12,13,14,15]<|.u 5 [b3,b1]<|
 .idx k (m:=(k:Int)) (xs:=s.l.map chnA) (e:=chnA x1) rfl (map_some hx1)<|
 .r 3<|.idx (cutV Ver.stamp st x1.l-1) (m:=(cutV Ver.stamp st x1.l:Int)-1) (xs:=x1.l.map verA) (e:=verA x2) (by omega) (map_some hx2)<|
 .r 3<|.app 64 V ((Qck s st k).map nodA) ([(nodA x2.n)]) (by have:=Qlh s st k;simp only [List.length_map,List.length_cons,List.length_nil];omega) (by have:=Qlh s st k;simp only [List.length_map,List.length_cons,List.length_nil];omega) fun V1=>
 .u 2 [b3]<|
 .run 3 [rng .i64 ((k:Int)+1)] ⟨Qam (by omega) (by omega),trivial⟩<|
 .bk L1 (k,V) ((k+1),V1) (show (k+1)≤s.l.length from (by show _≤_;omega)) (show s.l.length-(k+1)<s.l.length-k from (by omega)) [(6,aI ((k:Int)+1))] [(5,.box b3 28 [.rw 100 V1 (((Qck s st k).map nodA).length+([(nodA x2.n)]:List (List AV)).length),aI 1]),(100,.row V1 84 5 (((Qck s st k).map nodA)++([(nodA x2.n)])))] ⟨sR,sR,sR,sR,sO,trivial⟩ ⟨sB,sB,⟨_,rfl,SubB.boxs ⟨Sub.of_eq (by rw [Qi0 hx1 (show Qb4 st x1=some x2.n from by rw [Qej (by omega) hx2,q3];rfl)];simp),sR,trivial⟩⟩,⟨_,rfl,SubB.of_eq (by rw [Qi0 hx1 (show Qb4 st x1=some x2.n from by rw [Qej (by omega) hx2,q3];rfl)];simp [nodA])⟩,trivial⟩)
 <| fun q3=>have q3:=notF q3;have p3:=booT q3;.run 3 [rng .i64 ((k:Int)+1)] ⟨Qam (by omega) (by omega),trivial⟩<|
 .bk L1 (k,V) ((k+1),V) (show (k+1)≤s.l.length from (by show _≤_;omega)) (show s.l.length-(k+1)<s.l.length-k from (by omega)) [(6,aI ((k:Int)+1))] [(5,.box b3 28 [.rw 100 V (((Qck s st k).map nodA).length),aI 1]),(100,.row V 84 5 ((Qck s st k).map nodA))] ⟨sR,sR,sR,sR,sO,trivial⟩ ⟨sB,sB,⟨_,rfl,SubB.boxs ⟨Sub.of_eq (by rw [Qez hx1 (show Qb4 st x1=none from by rw [Qej (by omega) hx2,q3];rfl)]),sR,trivial⟩⟩,⟨_,rfl,SubB.of_eq (by rw [Qez hx1 (show Qb4 st x1=none from by rw [Qej (by omega) hx2,q3];rfl)])⟩,trivial⟩)
 <| fun p2=>.r 12<|.run 3 [rng .i64 ((k:Int)+1)] ⟨Qam (by omega) (by omega),trivial⟩<|
 .bk L1 (k,V) ((k+1),V) (show (k+1)≤s.l.length from (by show _≤_;omega)) (show s.l.length-(k+1)<s.l.length-k from (by omega)) [(6,aI ((k:Int)+1))] [(5,.box b3 28 [.rw 100 V (((Qck s st k).map nodA).length),aI 1]),(100,.row V 84 5 ((Qck s st k).map nodA))] ⟨sR,sR,sR,sR,sO,trivial⟩ ⟨sB,sB,⟨_,rfl,SubB.boxs ⟨Sub.of_eq (by rw [Qez hx1 (show Qb4 st x1=none from Qhj (by have:=Qg9 Ver.stamp st x1.l;omega))]),sR,trivial⟩⟩,⟨_,rfl,SubB.of_eq (by rw [Qez hx1 (show Qb4 st x1=none from Qhj (by have:=Qg9 Ver.stamp st x1.l;omega))])⟩,trivial⟩)
 <| fun p1=>.u 2 [b1]<|
 .call (Qx8 s st (by omega))<|
 .r 1<|.r 2<|.bd 58 (((cutV Cnt.stamp st s.nexts:Int)-1)≥0) (fun p4=>.u 3 [b1]<|
 .idxM s.nexts cntA (cutV Cnt.stamp st s.nexts-1) (m:=(cutV Cnt.stamp st s.nexts:Int)-1) (by omega) (by have:=Qg9 Cnt.stamp st s.nexts;omega) fun x3 hx3=>
 have okx3:=oks.2.2.2.2 x3 (List.mem_of_getElem? hx3);.u 4 [b3]<|
 .u 2 [b3,b2]<|
 .frz 100 [4] [4] [V=V,((Qck s st k).map nodA).length=((Qck s st k).map nodA).length] ⟨rfl,(by first | rfl | (simp;done) | (simp;omega)),trivial⟩<|
 .f (.agg (fsyA (Qcm s st))) [b2] (.agg [.sl 5 false ((Qck s st k).map nodA),aI x3.next]) (by exact Sub.aggs ⟨Sub.of_eq (by rw [Qi1 (by omega)];rfl),Sub.of_eq (congrArg aI (Qv7 (by omega) hx3).symm),trivial⟩))
 <| fun p4=>.u 2 [b3,b2]<|
 .frz 100 [4] [4] [V=V,((Qck s st k).map nodA).length=((Qck s st k).map nodA).length] ⟨rfl,(by first | rfl | (simp;done) | (simp;omega)),trivial⟩<|
 .f (.agg (fsyA (Qcm s st))) [b2] (.agg [.sl 5 false ((Qck s st k).map nodA),aI 1]) (by exact Sub.aggs ⟨Sub.of_eq (by rw [Qi1 (by omega)];rfl),Sub.of_eq (congrArg aI (Qoi (by have:=Qg9 Cnt.stamp st s.nexts;omega)).symm),trivial⟩)) a1.1 a1.2 ha1)
theorem Zaj (x:Ver) (st:Int):Qai prog 111 [.agg (verA x),.dptr [aI st]] (aB (decide (x.stamp>st))):=by
 exact Qad func111 (let R:AV:=aB (decide (x.stamp>st));
 .new fun b1=>.r 1<|.u 5 [b1]<|
 .fi R [])
theorem Zc5 (l:List Ver) (st:Int) (hl:l.length≤8796093022207):Qai prog 164 [.sl 7 false (l.map verA),.clo 111 [.dptr [aI st]]] (aI (idxF (fun (x:Ver)=>decide (x.stamp>st)) l)):=by
 exact Qad func164 (
 .r 1<|.r 2<|.lm 7 l verA<|.r 1<|let L1:Lp (Nat):=⟨fun a1=>⟨[(0,.sl 7 false (l.map verA)),(1,.clo 111 [.dptr [aI st]]),(7,aI (l.length:Int)),(8,aI (a1:Int))],[]⟩,fun a1=>l.length-a1,fun a1=>a1≤l.length∧Qa6 (fun _ x=>(fun (x:Ver)=>decide (x.stamp>st)) x=false) l a1⟩
 .lp L1 0 ⟨Nat.zero_le _,Qa6.zero _ _⟩ [(8,aI 0)] [] ⟨sR,sR,sR,sO,trivial⟩ trivial fun a1 ha1=>
 (fun (k:Nat) (hH1:k≤l.length∧Qa6 (fun _ x=>(fun (x:Ver)=>decide (x.stamp>st)) x=false) l k)=>.r 1<|.br 9 (decide ((k:Int)<(l.length:Int))) (fun q1=>have p1:=decT q1;.r 2<|.r 3<|.idxM l verA k (m:=(k:Int)) rfl (by omega) fun x1 hx1=>
 .r 1<|.call (Zaj x1 st)<|
 .br 16 (decide (x1.stamp>st)) (fun q2=>have p2:=decT q2;.r 2<|.f (aI (idxF (fun (x:Ver)=>decide (x.stamp>st)) l)) [] (aI (k:Int)) (by exact Sub.of_eq (congrArg aI (Qun (fun (x:Ver)=>decide (x.stamp>st)) l k x1 hH1.2 hx1 (by assumption)).symm)))
 <| fun q2=>have p2:=decF q2;.run 2 [rng .i64 ((k:Int)+1)] ⟨Qam (by omega) (by omega),trivial⟩<|
 .bk L1 k (k+1) ⟨by omega,hH1.2.step hx1 (by assumption)⟩ (show l.length-(k+1)<l.length-k from (by omega)) [(8,aI ((k:Int)+1))] [] ⟨sR,sR,sR,sO,trivial⟩ trivial)
 <| fun q1=>have p1:=decF q1;.r 1<|.f (aI (idxF (fun (x:Ver)=>decide (x.stamp>st)) l)) [] (aI (-1)) (by exact Sub.of_eq (congrArg aI (Qm0 (fun (x:Ver)=>decide (x.stamp>st)) l (hH1.2.full (by omega))).symm))) a1 ha1)
theorem Zer (l:List Ver) (st:Int) (hl:l.length≤8796093022207):Qai prog 110 [.sl 7 false (l.map verA),.clo 111 [.dptr [aI st]]] (aB (l.any (fun (x:Ver)=>decide (x.stamp>st)))):=by
 exact Qad func110 (
 .r 1<|.r 2<|.call (Zc5 l st (by omega))<|
 .r 2<|.f (aB (l.any (fun (x:Ver)=>decide (x.stamp>st)))) [] (aB (decide ((idxF (fun (x:Ver)=>decide (x.stamp>st)) l)≥0))) (by exact Sub.of_eq (congrArg aB (Qpy (fun (x:Ver)=>decide (x.stamp>st)) l))))
theorem Zai (x:Cnt) (st:Int):Qai prog 113 [.agg [aI x.stamp,aI x.next],.dptr [aI st]] (aB (decide (x.stamp>st))):=by
 exact Qad func113 (let R:AV:=aB (decide (x.stamp>st));
 .new fun b1=>.r 1<|.u 5 [b1]<|
 .fi R [])
theorem Zc4 (l:List Cnt) (st:Int) (hl:l.length≤8796093022207):Qai prog 165 [.sl 2 false (l.map cntA),.clo 113 [.dptr [aI st]]] (aI (idxF (fun (x:Cnt)=>decide (x.stamp>st)) l)):=by
 exact Qad func165 (
 .r 1<|.r 2<|.lm 7 l cntA<|.r 1<|let L1:Lp (Nat):=⟨fun a1=>⟨[(0,.sl 2 false (l.map cntA)),(1,.clo 113 [.dptr [aI st]]),(7,aI (l.length:Int)),(8,aI (a1:Int))],[]⟩,fun a1=>l.length-a1,fun a1=>a1≤l.length∧Qa6 (fun _ x=>(fun (x:Cnt)=>decide (x.stamp>st)) x=false) l a1⟩
 .lp L1 0 ⟨Nat.zero_le _,Qa6.zero _ _⟩ [(8,aI 0)] [] ⟨sR,sR,sR,sO,trivial⟩ trivial fun a1 ha1=>
 (fun (k:Nat) (hH1:k≤l.length∧Qa6 (fun _ x=>(fun (x:Cnt)=>decide (x.stamp>st)) x=false) l k)=>.r 1<|.br 9 (decide ((k:Int)<(l.length:Int))) (fun q1=>have p1:=decT q1;.r 2<|.r 3<|.idxM l cntA k (m:=(k:Int)) rfl (by omega) fun x1 hx1=>
 .r 1<|.call (Zai x1 st)<|
 .br 16 (decide (x1.stamp>st)) (fun q2=>have p2:=decT q2;.r 2<|.f (aI (idxF (fun (x:Cnt)=>decide (x.stamp>st)) l)) [] (aI (k:Int)) (by exact Sub.of_eq (congrArg aI (Qun (fun (x:Cnt)=>decide (x.stamp>st)) l k x1 hH1.2 hx1 (by assumption)).symm)))
 <| fun q2=>have p2:=decF q2;.run 2 [rng .i64 ((k:Int)+1)] ⟨Qam (by omega) (by omega),trivial⟩<|
 .bk L1 k (k+1) ⟨by omega,hH1.2.step hx1 (by assumption)⟩ (show l.length-(k+1)<l.length-k from (by omega)) [(8,aI ((k:Int)+1))] [] ⟨sR,sR,sR,sO,trivial⟩ trivial)
 <| fun q1=>have p1:=decF q1;.r 1<|.f (aI (idxF (fun (x:Cnt)=>decide (x.stamp>st)) l)) [] (aI (-1)) (by exact Sub.of_eq (congrArg aI (Qm0 (fun (x:Cnt)=>decide (x.stamp>st)) l (hH1.2.full (by omega))).symm))) a1 ha1)
theorem Zeq (l:List Cnt) (st:Int) (hl:l.length≤8796093022207):Qai prog 112 [.sl 2 false (l.map cntA),.clo 113 [.dptr [aI st]]] (aB (l.any (fun (x:Cnt)=>decide (x.stamp>st)))):=by
 exact Qad func112 (
 .r 1<|.r 2<|.call (Zc4 l st (by omega))<|
 .r 2<|.f (aB (l.any (fun (x:Cnt)=>decide (x.stamp>st)))) [] (aB (decide ((idxF (fun (x:Cnt)=>decide (x.stamp>st)) l)≥0))) (by exact Sub.of_eq (congrArg aB (Qpy (fun (x:Cnt)=>decide (x.stamp>st)) l))))
theorem Qxz (s:Sto) (st:Int) (oks:OkS s) (hf:s.l.length≤100000):Qai prog 62 [.agg (stoA s),aI st] (.sl 1 false ((Qdf s st).map intA)):=by
 have hb1:=oks.2.1;have hb2:=oks.2.2.1;exact Qad func62 (
 .new fun b1=>.new fun b2=>.r 1<|.frz 3 [2,3,4] [2] [b2=b2] rt1<|
 .litN fun V1=>.r 1<|.u 3 [b1]<|
 .lm 11 s.l chnA<|.r 1<|let L1:Lp (Nat × Value):=⟨fun a1=>⟨[(2,.ptr 2 b1 0),(3,.dptr [aI st]),(10,.sl 2 false (s.l.map chnA)),(11,aI (s.l.length:Int)),(5,.rw 8 a1.2 (1+(Qb7 s st a1.1).length)),(12,aI (a1.1:Int))],[(2,.box b1 25 (stoA s)),(8,.row a1.2 3 1 ([aI 0] :: (Qb7 s st a1.1).map intA))]⟩,fun a1=>s.l.length-a1.1,fun a1=>a1.1≤s.l.length⟩
 .lp L1 (0,V1) (show 0≤s.l.length from Nat.zero_le _) [(5,.rw 8 V1 1),(12,aI 0)] [(8,.row V1 3 1 ([[aI 0]]))] ⟨sR,sR,sR,sR,sR,sO,trivial⟩ bb2 fun a1 ha1=>
 (fun (k:Nat) (V:Value) (hH1:k≤s.l.length)=>.r 1<|.br 13 (decide ((k:Int)<(s.l.length:Int))) (fun q1=>have p1:=decT q1;.idxM s.l chnA k (m:=(k:Int)) rfl (by omega) fun x1 hx1=>
 have okx1:=oks.2.2.2.1 x1 (List.mem_of_getElem? hx1);have blx1:=okx1.2.1;.r 1<|.new fun b3=>.u 1 [b3]<|
 .u 3 [b3]<|
 .call (Zer x1.l st (by omega))<|
 .br 19 (Qk5 st x1) (fun q2=>have p2:=booT q2;.u 4 [b3]<|
 .app 8 V ([aI 0] :: (Qb7 s st k).map intA) ([[aI x1.ino]]) (by have:=Qmt s st k;simp only [List.length_map,List.length_cons,List.length_nil];omega) (by have:=Qmt s st k;simp only [List.length_map,List.length_cons,List.length_nil];omega) fun V2=>
 .r 1<|.run 2 [rng .i64 ((k:Int)+1)] ⟨Qam (by omega) (by omega),trivial⟩<|
 .bk L1 (k,V) ((k+1),V2) (show (k+1)≤s.l.length from (by show _≤_;omega)) (show s.l.length-(k+1)<s.l.length-k from (by omega)) [(5,.rw 8 V2 (([aI 0] :: (Qb7 s st k).map intA).length+([[aI x1.ino]]:List (List AV)).length)),(12,aI ((k:Int)+1))] [(8,.row V2 3 1 (([aI 0] :: (Qb7 s st k).map intA)++([[aI x1.ino]])))] ⟨sR,sR,sR,sR,Sub.of_eq (congrArg (AV.rw 8 V2) (by rw [Qoo hx1 q2];simp;try omega)),sO,trivial⟩ ⟨sB,⟨_,rfl,SubB.of_eq (by rw [Qoo hx1 q2];simp [intA])⟩,trivial⟩)
 <| fun q2=>have p2:=booF q2;.run 2 [rng .i64 ((k:Int)+1)] ⟨Qam (by omega) (by omega),trivial⟩<|
 .bk L1 (k,V) ((k+1),V) (show (k+1)≤s.l.length from (by show _≤_;omega)) (show s.l.length-(k+1)<s.l.length-k from (by omega)) [(5,.rw 8 V (1+(Qb7 s st k).length)),(12,aI ((k:Int)+1))] [(8,.row V 3 1 ([aI 0] :: (Qb7 s st k).map intA))] ⟨sR,sR,sR,sR,Sub.of_eq (congrArg (AV.rw 8 V) (by rw [Qr0 hx1 q2])),sO,trivial⟩ ⟨sB,⟨_,rfl,SubB.of_eq (by rw [Qr0 hx1 q2])⟩,trivial⟩)
 <| fun q1=>have p1:=decF q1;.r 4<|.br 29 (decide ((1+(Qb7 s st k).length:Int)>1)) (fun q3=>have p3:=decT q3;.r 5<|.r 2<|.frz 8 [4] [] [V=V,1+(Qb7 s st k).length=([aI 0] :: (Qb7 s st k).map intA).length] ⟨rfl,(by first | rfl | (simp;done) | (simp;omega)),trivial⟩<|
 .f (.sl 1 false ((Qdf s st).map intA)) [] (.sl 1 false ([aI 0] :: (Qb7 s st k).map intA)) (by
  refine Sub.of_eq ?_;have e:=Qkj (s:=s) (st:=st) (by omega:s.l.length≤k);rw [show Qdf s st=0 :: Qb7 s st k from by unfold Qdf;rw [if_pos (by rw [← e];first | exact .inl (by omega) | exact .inr (by assumption)),e]];rfl))
 <| fun q3=>have p3:=decF q3;.u 3 [b1]<|
 .call (Zeq s.nexts st (by omega))<|
 .r 1<|.br 34 (Zg1 s st) (fun q4=>have p4:=booT q4;.r 2<|.frz 8 [4] [] [V=V,1+(Qb7 s st k).length=([aI 0] :: (Qb7 s st k).map intA).length] ⟨rfl,(by first | rfl | (simp;done) | (simp;omega)),trivial⟩<|
 .f (.sl 1 false ((Qdf s st).map intA)) [] (.sl 1 false ([aI 0] :: (Qb7 s st k).map intA)) (by
  refine Sub.of_eq ?_;have e:=Qkj (s:=s) (st:=st) (by omega:s.l.length≤k);rw [show Qdf s st=0 :: Qb7 s st k from by unfold Qdf;rw [if_pos (by rw [← e];first | exact .inl (by omega) | exact .inr (by assumption)),e]];rfl))
 <| fun q4=>have p4:=booF q4;.r 1<|.f (.sl 1 false ((Qdf s st).map intA)) [] aN (by
  rw [show Qdf s st=[] from by unfold Qdf;rw [if_neg (by rw [← Qkj (by omega:s.l.length≤k)];rintro (h | h)<;>first | omega | simp_all)]];exact Sub.nil _ _)) a1.1 a1.2 ha1)
theorem ver_eq {x y:Ver} (h1:x.stamp=y.stamp) (h2:x.gone=y.gone) (h3:x.n=y.n):x=y:=by cases x;cases y;simp_all
theorem chn_eq {x y:Chn} (h1:x.ino=y.ino) (h2:x.l=y.l):x=y:=by cases x;cases y;simp_all
theorem cnt_eq {x y:Cnt} (h1:x.stamp=y.stamp) (h2:x.next=y.next):x=y:=by cases x;cases y;simp_all
theorem sto_eq {x y:Sto} (h1:x.l=y.l) (h2:x.nexts=y.nexts) (h3:x.stamp=y.stamp):x=y:=by cases x;cases y;simp_all
theorem Qx5 (s t:Sto) (oks:OkS s) (okt:OkS t):Qai prog 34 [.agg (stoA s),.agg (stoA t)] (aB (dP (s=t))):=by
 have hb1:=oks.2.1;have hb2:=oks.2.2.1;have hc1:=okt.2.1;have hc2:=okt.2.2.1;exact Qad func34 (let R:AV:=aB (dP (s=t));
 .new fun b1=>.new fun b2=>.r 1<|.u 6 [b1,b2]<|
 .bn 16 s.stamp t.stamp (fun p1=>.r 17<|.r 1<|.f R [] (aB false) (by exact sF (fun h=>by subst h;omega)))
 <| fun p1=>.u 3 [b1]<|
 .lm 19 s.l chnA<|.u 3 [b2]<|
 .lm 22 t.l chnA<|.r 3<|.bn 25 (s.l.length:Int) (t.l.length:Int) (fun p2=>.r 8<|.r 1<|.f R [] (aB false) (by exact sF (fun h=>by subst h;omega)))
 <| fun p2=>.u 3 [b1]<|
 .lm 28 s.nexts cntA<|.u 3 [b2]<|
 .lm 31 t.nexts cntA<|.r 2<|.bn 33 (s.nexts.length:Int) (t.nexts.length:Int) (fun p3=>.r 1<|.f R [] (aB false) (by exact sF (fun h=>by subst h;omega)))
 <| fun p3=>.r 1<|let L1:Lp (Nat):=⟨fun a1=>⟨[(2,.ptr 2 b1 0),(3,.ptr 3 b2 0),(5,aI (a1:Int))],[(2,.box b1 25 (stoA s)),(3,.box b2 25 (stoA t))]⟩,fun a1=>s.nexts.length-a1,fun a1=>a1≤s.nexts.length∧s.nexts.take a1=t.nexts.take a1⟩
 .lp L1 0 ⟨Nat.zero_le _,rfl⟩ [(5,aI 0)] [] ⟨sR,sR,sO,trivial⟩ bb2 fun a1 ha1=>
 (fun (k:Nat) (hH1:k≤s.nexts.length∧s.nexts.take k=t.nexts.take k)=>.u 4 [b1]<|
 .lm 37 s.nexts cntA<|.r 1<|.bd 38 ((k:Int)<(s.nexts.length:Int)) (fun p4=>.ord [0,1,2,3,4,5,6,7,8,9,10]<|.u 3 [b1]<|
 .idxM s.nexts cntA k (m:=(k:Int)) rfl (by omega) fun x1 hx1=>
 .u 4 [b2]<|
 .idxM t.nexts cntA k (m:=(k:Int)) rfl (by omega) fun x2 hx2=>
 .r 1<|.eqS<|.nbb 51 ((x1.stamp==x2.stamp)&&((x1.next==x2.next)&&(true))) (fun p5=>.r 1<|.f R [] (aB false) (by
  refine sF (fun h=>?_);rw [h,hx2] at hx1;obtain rfl:=Option.some.inj hx1;simp_all))
 <| fun p5=>.run 3 [rng .i64 ((k:Int)+1)] ⟨Qam (by omega) (by omega),trivial⟩<|
 .bk L1 k (k+1) ⟨by omega,by rw [Qap hx1,Qap hx2,hH1.2];first | (congr 2;done) | (congr 2;exact cnt_eq (by simp_all [Qa0,Qac]) (by simp_all [Qa0,Qac]))⟩ (show s.nexts.length-(k+1)<s.nexts.length-k from (by omega)) [(5,aI ((k:Int)+1))] [] ⟨sR,sR,sO,trivial⟩ bb2)
 <| fun p4=>.r 1<|let L2:Lp (Nat):=⟨fun a2=>⟨[(2,.ptr 2 b1 0),(3,.ptr 3 b2 0),(6,aI (a2:Int))],[(2,.box b1 25 (stoA s)),(3,.box b2 25 (stoA t))]⟩,fun a2=>s.l.length-a2,fun a2=>a2≤s.l.length∧s.l.take a2=t.l.take a2⟩
 .lp L2 0 ⟨Nat.zero_le _,rfl⟩ [(6,aI 0)] [] ⟨sR,sR,sO,trivial⟩ bb2 fun a2 ha2=>
 (fun (k:Nat) (hH2:k≤s.l.length∧s.l.take k=t.l.take k)=>.u 4 [b1]<|
 .lm 55 s.l chnA<|.r 1<|.bd 56 ((k:Int)<(s.l.length:Int)) (fun p6=>.u 3 [b1]<|
 .idxM s.l chnA k (m:=(k:Int)) rfl (by omega) fun x3 hx3=>
 have okx3:=oks.2.2.2.1 x3 (List.mem_of_getElem? hx3);have blx3:=okx3.2.1;.r 1<|.new fun b3=>.u 1 [b3]<|
 .u 3 [b2]<|
 .idxM t.l chnA k (m:=(k:Int)) rfl (by omega) fun x4 hx4=>
 have okx4:=okt.2.2.2.1 x4 (List.mem_of_getElem? hx4);have blx4:=okx4.2.1;.r 1<|.new fun b4=>.u 1 [b4]<|
 .u 6 [b3,b4]<|
 .bn 74 x3.ino x4.ino (fun p7=>.r 8<|.r 1<|.f R [] (aB false) (by
  refine sF (fun h=>?_);rw [h,hx4] at hx3;obtain rfl:=Option.some.inj hx3;simp_all))
 <| fun p7=>.u 3 [b3]<|
 .lm 77 x3.l verA<|.u 3 [b4]<|
 .lm 80 x4.l verA<|.r 2<|.bn 82 (x3.l.length:Int) (x4.l.length:Int) (fun p8=>.r 1<|.f R [] (aB false) (by
  refine sF (fun h=>?_);rw [h,hx4] at hx3;obtain rfl:=Option.some.inj hx3;simp_all))
 <| fun p8=>.r 1<|let L3:Lp (Nat):=⟨fun a3=>⟨[(2,.ptr 2 b1 0),(3,.ptr 3 b2 0),(6,aI (k:Int)),(7,.ptr 7 b3 0),(8,.ptr 8 b4 0),(9,aI (a3:Int))],[(2,.box b1 25 (stoA s)),(3,.box b2 25 (stoA t)),(7,.box b3 98 [aI x3.ino,.sl 7 false (x3.l.map verA)]),(8,.box b4 98 [aI x4.ino,.sl 7 false (x4.l.map verA)])]⟩,fun a3=>x3.l.length-a3,fun a3=>a3≤x3.l.length∧x3.l.take a3=x4.l.take a3⟩
 .lp L3 0 ⟨Nat.zero_le _,rfl⟩ [(9,aI 0)] [] ⟨sR,sR,sR,sR,sR,sO,trivial⟩ bb4 fun a3 ha3=>
 (fun (j:Nat) (hH3:j≤x3.l.length∧x3.l.take j=x4.l.take j)=>.u 4 [b3]<|
 .lm 86 x3.l verA<|.r 1<|.bd 87 ((j:Int)<(x3.l.length:Int)) (fun p9=>.ord [0,1,2,3,4,5,6,7,8,9,10,11,12,13]<|.u 3 [b3]<|
 .idxM x3.l verA j (m:=(j:Int)) rfl (by omega) fun x5 hx5=>
 have okx5:=okx3.2.2 x5 (List.mem_of_getElem? hx5);.u 5 [b4]<|
 .idxM x4.l verA j (m:=(j:Int)) rfl (by omega) fun x6 hx6=>
 have okx6:=okx4.2.2 x6 (List.mem_of_getElem? hx6);.r 2<|.call (Qf6 x5.n x6.n (okx5).2 (okx6).2)<|
 .r 1<|.ord [0,1,2,3,4,5,6,7,8,9,10,11,12,13,14,15,16,17,18,19,20,21,22,23,24,25,26,27,28,29,30,31]<|.r 3<|.nbb 105 (dP (x5.n=x6.n)) (fun p10=>.r 29<|.r 1<|.f R [] (aB false) (by
  refine sF (fun h=>?_);rw [h,hx4] at hx3;obtain rfl:=Option.some.inj hx3;rw [hx6] at hx5;obtain rfl:=Option.some.inj hx5;simp_all [Qa0,Qac]))
 <| fun p10=>.u 3 [b3]<|
 .idx j (m:=(j:Int)) (xs:=x3.l.map verA) (e:=verA x5) rfl (map_some hx5)<|
 .u 5 [b4]<|
 .idx j (m:=(j:Int)) (xs:=x4.l.map verA) (e:=verA x6) rfl (map_some hx6)<|
 .r 5<|.bn 120 x5.stamp x6.stamp (fun p11=>.r 14<|.r 1<|.f R [] (aB false) (by
  refine sF (fun h=>?_);rw [h,hx4] at hx3;obtain rfl:=Option.some.inj hx3;rw [hx6] at hx5;obtain rfl:=Option.some.inj hx5;simp_all [Qa0,Qac]))
 <| fun p11=>.u 3 [b3]<|
 .idx j (m:=(j:Int)) (xs:=x3.l.map verA) (e:=verA x5) rfl (map_some hx5)<|
 .u 5 [b4]<|
 .idx j (m:=(j:Int)) (xs:=x4.l.map verA) (e:=verA x6) rfl (map_some hx6)<|
 .r 4<|.nbe 134 x5.gone x6.gone (fun p12=>.r 1<|.f R [] (aB false) (by
  refine sF (fun h=>?_);rw [h,hx4] at hx3;obtain rfl:=Option.some.inj hx3;rw [hx6] at hx5;obtain rfl:=Option.some.inj hx5;simp_all [Qa0,Qac]))
 <| fun p12=>.run 3 [rng .i64 ((j:Int)+1)] ⟨Qam (by omega) (by omega),trivial⟩<|
 .bk L3 j (j+1) ⟨by omega,by rw [Qap hx5,Qap hx6,hH3.2];first | (congr 2;done) | (congr 2;exact ver_eq (by simp_all [Qa0,Qac]) (by simp_all [Qa0,Qac]) (by simp_all [Qa0,Qac]))⟩ (show x3.l.length-(j+1)<x3.l.length-j from (by omega)) [(9,aI ((j:Int)+1))] [] ⟨sR,sR,sR,sR,sR,sO,trivial⟩ bb4)
 <| fun p9=>.run 3 [rng .i64 ((k:Int)+1)] ⟨Qam (by omega) (by omega),trivial⟩<|
 .bk L2 k (k+1) ⟨by omega,by rw [Qap hx3,Qap hx4,hH2.2];congr 2;exact chn_eq (by omega) (by have h:=hH3.2;rw [Qaw (by omega),Qaw (by omega)] at h;exact h)⟩ (show s.l.length-(k+1)<s.l.length-k from (by omega)) [(6,aI ((k:Int)+1))] [] ⟨sR,sR,sO,trivial⟩ bb2) a3 ha3)
 <| fun p6=>.r 1<|.f R [] (aB true) (by
  refine sT (sto_eq ?_ ?_ (by omega))
  ·have h:=hH2.2;rw [Qaw (by omega),Qaw (by omega)] at h;exact h
  ·have h:=hH1.2;rw [Qaw (by omega),Qaw (by omega)] at h;exact h)) a2 ha2) a1 ha1)
def Zk4 (s:Sto):Nat:=(s.l.map (fun c=>c.l.length)).sum
def wV (v:Ver):Nat:=v.n.l.length
def wC (c:Chn):Nat:=c.l.length+(c.l.map wV).sum
def few (s:Sto):Prop:=s.l.length+s.nexts.length+(s.l.map wC).sum≤200∧∀ c∈s.l,∀ v∈c.l,v.n.text.length≤4096
def Qqs (s:Sto) (k n:Nat):Prop:=k≤s.l.length∧n≤s.l.length+s.nexts.length+(s.l.map wC).sum ∧
 ((n=s.l.length+s.nexts.length+((s.l.take k).map wC).sum∧∀ c∈s.l.take k,∀ v∈c.l,v.n.text.length≤4096)∨200<n)∧n≤100000000000000
def Qtc (c:Chn) (n j m:Nat):Prop:=j≤c.l.length∧m≤100000000000000∧m=n+c.l.length+((c.l.take j).map wV).sum∧(∀ v∈c.l.take j,v.n.text.length≤4096)
theorem fewS0 (s:Sto) (h1:s.l.length≤8796093022207) (h2:s.nexts.length≤8796093022207):Qqs s 0 (s.l.length+s.nexts.length):=
 ⟨Nat.zero_le _,by omega,.inl ⟨by simp,fun c h=>by simp at h⟩,by omega⟩
theorem fewSV0 (c:Chn) (n:Nat) (h1:n≤200) (h2:c.l.length≤8796093022207):Qtc c n 0 (n+c.l.length):=⟨Nat.zero_le _,by omega,by simp,fun v h=>by simp at h⟩
theorem fewSV {c:Chn} {v:Ver} {n j m:Nat} (hv:c.l[j]?=some v) (h:Qtc c n j m) (h0:j<c.l.length) (h1:m≤200) (h2:v.n.text.length≤4096) (h3:v.n.l.length≤8796093022207):Qtc c n (j+1) (m+v.n.l.length):=by
 obtain ⟨_,_,e,ht⟩:=h;refine ⟨h0,by omega,by rw [Qlf wV hv,e];simp only [wV];omega,fun u hu=>?_⟩;rcases Qg2 hv hu with h | rfl
 ·exact ht u h
 ·exact h2
theorem Qww {s:Sto} {c:Chn} {k n j m:Nat} (hc:s.l[k]?=some c) (h:Qqs s k n) (h0:k<s.l.length) (hn:n≤200) (h':Qtc c n j m) (h3:¬ (j:Int)<c.l.length∨¬ (m:Int)≤200):Qqs s (k+1) m:=by
 obtain ⟨_,_,h,_⟩:=h;obtain ⟨hj,hm,e,ht⟩:=h';rcases h with ⟨h,htx⟩ | h
 ·have h5:=Qlf wC hc;have h6:=Qeq wC s.l (k+1);have h7:=Qeq wV c.l j;have h8:wC c=c.l.length+(c.l.map wV).sum:=rfl;refine ⟨h0,by omega,?_,hm⟩;by_cases h9:m≤200
  ·have hj':c.l.length≤j:=by omega
   rw [Qaw hj'] at e ht;refine .inl ⟨by omega,fun d hd=>?_⟩;rcases Qg2 hc hd with h | rfl
   ·exact htx d h
   ·exact ht
  ·exact .inr (by omega)
 ·omega
theorem Zhq {s:Sto} {c:Chn} {v:Ver} {k j:Nat} (hc:s.l[k]?=some c) (hv:c.l[j]?=some v) (h:¬ v.n.text.length≤4096):¬ few s:=fun hf=>h (hf.2 c (List.mem_of_getElem? hc) v (List.mem_of_getElem? hv))
theorem Qwx {s:Sto} {k n:Nat} (h:Qqs s k n) (h3:¬ (k:Int)<s.l.length∨¬ (n:Int)≤200):decide ((n:Int)≤200)=true↔few s:=by
 obtain ⟨hk,hle,h,_⟩:=h;rw [decide_eq_true_iff];refine ⟨fun hn=>?_,fun hf=>?_⟩
 ·have hk':s.l.length≤k:=by omega
  rcases h with ⟨h,ht⟩ | h
  ·rw [Qaw hk'] at h ht;exact ⟨by omega,ht⟩
  ·omega
 ·have:=hf.1;omega
theorem Zdw (s:Sto) (oks:OkS s):Qai prog 47 [.agg (stoA s)] (aB (dP (few s))):=by
 have hs1:=oks.2.1;have hs2:=oks.2.2.1;exact Qad func47 (let R:AV:=aB (dP (few s));
 .new fun b1=>.r 1<|.u 3 [b1]<|
 .lm 8 s.l chnA<|.u 3 [b1]<|
 .lm 11 s.nexts cntA<|.run 2 [rng .i64 ((s.l.length:Int)+(s.nexts.length:Int))] ⟨Qam (by omega) (by omega),trivial⟩<|
 .r 1<|let L1:Lp (Nat × Nat):=⟨fun a1=>⟨[(1,.ptr 1 b1 0),(4,aI (a1.1:Int)),(3,aI (a1.2:Int))],[(1,.box b1 25 (stoA s))]⟩,fun a1=>s.l.length-a1.1,fun a1=>Qqs s a1.1 a1.2⟩
 .lp L1 (0,s.l.length+s.nexts.length) (show Qqs s 0 (s.l.length+s.nexts.length) from fewS0 s hs1 hs2) [(4,aI 0),(3,aI ((s.l.length:Int)+(s.nexts.length:Int)))] [] ⟨sR,sO,sO,trivial⟩ bb1 fun a1 ha1=>
 (fun (k:Nat) (n:Nat) (hH1:Qqs s k n)=>.u 4 [b1]<|
 .lm 16 s.l chnA<|.r 2<|.bd 18 ((k:Int)<(s.l.length:Int)) (fun p1=>.r 3<|.bd 21 ((n:Int)≤200) (fun p2=>.u 4 [b1]<|
 .idxM s.l chnA k (m:=(k:Int)) rfl (by omega) fun x1 hx1=>
 have okx1:=oks.2.2.2.1 x1 (List.mem_of_getElem? hx1);have blx1:=okx1.2.1;.r 3<|.lm 31 x1.l verA<|.run 2 [rng .i64 ((n:Int)+(x1.l.length:Int))] ⟨Qam (by omega) (by omega),trivial⟩<|
 .r 1<|let L2:Lp (Nat × Nat):=⟨fun a2=>⟨[(1,.ptr 1 b1 0),(4,aI (k:Int)),(5,aI (a2.1:Int)),(3,aI (a2.2:Int))],[(1,.box b1 25 (stoA s))]⟩,fun a2=>x1.l.length-a2.1,fun a2=>Qtc x1 n a2.1 a2.2⟩
 .lp L2 (0,(n+x1.l.length)) (show Qtc x1 n 0 (n+x1.l.length) from (fewSV0 _ _ (by omega) (by omega))) [(5,aI 0),(3,aI ((n:Int)+(x1.l.length:Int)))] [] ⟨sR,sR,sO,sO,trivial⟩ bb1 fun a2 ha2=>
 (fun (j:Nat) (m:Nat) (hH2:Qtc x1 n j m)=>.u 4 [b1]<|
 .idx k (m:=(k:Int)) (xs:=s.l.map chnA) (e:=chnA x1) rfl (map_some hx1)<|
 .r 3<|.lm 40 x1.l verA<|.r 2<|.bd 42 ((j:Int)<(x1.l.length:Int)) (fun p3=>.r 3<|.bd 45 ((m:Int)≤200) (fun p4=>.u 4 [b1]<|
 .idx k (m:=(k:Int)) (xs:=s.l.map chnA) (e:=chnA x1) rfl (map_some hx1)<|
 .r 3<|.idxM x1.l verA j (m:=(j:Int)) rfl (by omega) fun x2 hx2=>
 have okx2:=okx1.2.2 x2 (List.mem_of_getElem? hx2);have blx2:=okx2.2.2.2.2.2.1;.r 4<|.lm 60 x2.n.l entA<|.run 2 [rng .i64 ((m:Int)+(x2.n.l.length:Int))] ⟨Qam (by omega) (by omega),trivial⟩<|
 .u 3 [b1]<|
 .idx k (m:=(k:Int)) (xs:=s.l.map chnA) (e:=chnA x1) rfl (map_some hx1)<|
 .r 3<|.idx j (m:=(j:Int)) (xs:=x1.l.map verA) (e:=verA x2) rfl (map_some hx2)<|
 .r 5<|.bd 74 (((x2.n.text).length:Int)>4096) (fun p5=>.r 1<|.f R [] (aB false) (by exact sF (Zhq hx1 hx2 (by omega))))
 <| fun p5=>.run 3 [rng .i64 ((j:Int)+1)] ⟨Qam (by omega) (by omega),trivial⟩<|
 .bk L2 (j,m) ((j+1),(m+x2.n.l.length)) (show Qtc x1 n (j+1) (m+x2.n.l.length) from (fewSV hx2 hH2 (by omega) (by omega) (by omega) (by omega))) (show x1.l.length-(j+1)<x1.l.length-j from (by omega)) [(5,aI ((j:Int)+1)),(3,aI ((m:Int)+(x2.n.l.length:Int)))] [] ⟨sR,sR,sO,sO,trivial⟩ bb1)
 <| fun p4=>.run 3 [rng .i64 ((k:Int)+1)] ⟨Qam (by omega) (by omega),trivial⟩<|
 .bk L1 (k,n) ((k+1),m) (show Qqs s (k+1) m from (Qww hx1 hH1 (by omega) (by omega) hH2 (by omega))) (show s.l.length-(k+1)<s.l.length-k from (by omega)) [(4,aI ((k:Int)+1))] [] ⟨sR,sO,sR,trivial⟩ bb1)
 <| fun p3=>.r 3<|.run 3 [rng .i64 ((k:Int)+1)] ⟨Qam (by omega) (by omega),trivial⟩<|
 .bk L1 (k,n) ((k+1),m) (show Qqs s (k+1) m from (Qww hx1 hH1 (by omega) (by omega) hH2 (by omega))) (show s.l.length-(k+1)<s.l.length-k from (by omega)) [(4,aI ((k:Int)+1))] [] ⟨sR,sO,sR,trivial⟩ bb1) a2.1 a2.2 ha2)
 <| fun p2=>.r 3<|.f R [] (aB (decide ((n:Int)≤200))) (by exact sE (Qwx hH1 (by omega))))
 <| fun p1=>.r 3<|.r 3<|.f R [] (aB (decide ((n:Int)≤200))) (by exact sE (Qwx hH1 (by omega)))) a1.1 a1.2 ha1)
def newS:Sto:=⟨[⟨1,[⟨1,false,Qib⟩]⟩],[⟨1,2⟩],1⟩
theorem Qkf:OkS newS:=⟨⟨by decide,by decide⟩,by show (1:Nat)≤_;omega,by show (1:Nat)≤_;omega,fun c h=>by
  obtain rfl:=List.mem_singleton.1 h;exact ⟨⟨by decide,by decide⟩,by show (1:Nat)≤_;omega,fun v hv=>by obtain rfl:=List.mem_singleton.1 hv;exact ⟨⟨by decide,by decide⟩,Qvt⟩⟩,
 fun c h=>by obtain rfl:=List.mem_singleton.1 h;exact ⟨⟨by decide,by decide⟩,⟨by decide,by decide⟩⟩⟩
theorem Qj1 {α:Type} {Q:Nat→α→Prop} {x:α} (h:Q 0 x):AllQ Q [x]:=fun i e he=>by
 match i,he with
 | 0,he=>simp at he;subst he;exact h
 | i+1,he=>simp at he
theorem Qyu:Qce newS:=by
 refine ⟨by decide,⟨by decide,Qj1 ⟨by decide,by decide,fun d h=>by omega⟩⟩,Qj1 (by show (1:Int)≤2;decide),Qj1 ⟨⟨by decide,⟨by decide,Qj1 ⟨by decide,by decide,fun d h=>by omega⟩⟩,Qj1 ⟨fun h=>(by cases h),fun _=>⟨?_,rfl⟩⟩⟩,fun d h=>by omega⟩⟩;exact ⟨by decide,by decide,by decide,.inl ⟨rfl,rfl,Qb8⟩⟩
theorem Qvf {α:Type} {f:α→Int} {st:Int} {l:List α} {x:α} (h:atD f st l=some x):x∈l:=by
 unfold atD at h
 split at h
 ·cases h
 ·exact List.mem_of_getElem? h
theorem Zfj {st:Int} {c:Chn} {n:Nod} (ok:OkC c) (h:Qb4 st c=some n):OkN n:=by
 unfold Qb4 at h
 split at h
 ·rename_i v hv
  split at h
  ·cases h
  ·obtain rfl:=Option.some.inj h;exact (ok.2.2 v (Qvf hv)).2
 ·cases h
theorem Qlv {s:Sto} (ok:OkS s) (st:Int):OkF (Qcm s st):=by
 refine ⟨?_,?_,fun n hn=>?_⟩
 ·show I64 (Qja s st);unfold Qja
  split
  ·rename_i c hc;exact (ok.2.2.2.2 c (Qvf hc)).2
  ·exact ⟨by decide,by decide⟩
 ·have:=List.length_filterMap_le (Qb4 st) s.l;have:=ok.2.1;show (s.l.filterMap (Qb4 st)).length≤_;omega
 ·obtain ⟨c,hc,hv⟩:=List.mem_filterMap.1 hn;exact Zfj (ok.2.2.2.1 c hc) hv
theorem Zfy (s:Sto) (st:Int):(Qdf s st).length≤s.l.length+1:=by
 unfold Qdf
 split
 ·have:=Qmt s st s.l.length;simp;omega
 ·simp
theorem Qwv {s:Sto} (h:few s):s.l.length≤200∧s.nexts.length≤200∧Zk4 s≤200:=by
 have h1:=h.1;have h2:(s.l.map (fun c=>c.l.length)).sum≤(s.l.map wC).sum:=by
  clear h h1
  induction s.l with
  | nil=>simp
  | cons c r ih=>simp only [List.map_cons,List.sum_cons,wC];omega
 unfold Zk4;omega
end Go.Proofs.YtahlldgocpabjaaGreat
