import Derived.Test.YtahlldgocpabjaaGreatMrgAH
set_option maxRecDepth 100000
set_option maxHeartbeats 8000000
set_option linter.unusedVariables false
set_option linter.unusedSimpArgs false
namespace Go.Proofs.YtahlldgocpabjaaGreat
open Go Go.RowKit Copyhold Go.Proofs.Tryz
theorem Qr9 (s:Sto) (st:Int) (oks:OkS s) (hf:s.l.length≤100000):Qah prog 52 [.agg (stoA s),aI st] (.agg (fsyA (Qck s st))):=by
 have hb1:=oks.2.1;have hb2:=oks.2.2.1;exact Qac func52 (
 .new fun b1=>.new fun b2=>.call (Qux)<|
 .r 5<|.r 1<|.new fun b3=>.u 1 [b3]<|
 .rowNilB 100 7 0 84 5<|.u 3 [b1]<|
 .lm 19 s.l chnA<|.r 1<|let L1:Lp (Nat × Value):=⟨fun a1=>⟨[(1,aI st),(2,.ptr 2 b1 0),(4,.ptr 4 b2 0),(5,.val (.func (.func 154) #[] #[])),(6,.val (.func (.func 155) #[] #[])),(7,.ptr 7 b3 0),(18,.sl 2 false (s.l.map chnA)),(19,aI (s.l.length:Int)),(20,aI (a1.1:Int))],[(2,.box b1 25 (stoA s)),(4,.box b2 28 [aN,aI 0]),(7,.box b3 28 [.rw 100 a1.2 (((Qcu s st a1.1).map nodA).length),aI 1]),(100,.row a1.2 84 5 ((Qcu s st a1.1).map nodA))]⟩,fun a1=>s.l.length-a1.1,fun a1=>a1.1≤s.l.length⟩
 .lp L1 (0,.slice none 0 0) (show 0≤s.l.length from Nat.zero_le _) [(20,aI 0)] [(7,.box b3 28 [.rw 100 (.slice none 0 0) 0,aI 1]),(100,.row (.slice none 0 0) 84 5 ([]))] ⟨sR,sR,sR,sR,sR,sR,sR,sR,sO,trivial⟩ ⟨sB,sB,⟨_,rfl,SubB.boxs sr2⟩,sB,trivial⟩ fun a1 ha1=>
 (fun (k:Nat) (V:Value) (hH1:k≤s.l.length)=>.r 1<|.bd 21 ((k:Int)<(s.l.length:Int)) (fun p1=>.idxM s.l chnA k (m:=(k:Int)) rfl (by omega) fun x1 hx1=>
 have okx1:=oks.2.2.2.1 x1 (List.mem_of_getElem? hx1);have blx1:=okx1.2.1;.r 1<|.new fun b4=>.u 1 [b4]<|
 .u 4 [b4]<|
 .call (Qso x1.l st (by omega))<|
 .r 1<|.r 3<|.bd 31 (((cutV Ver.stamp st x1.l:Int)-1)≥0) (fun p2=>.u 3 [b4]<|
 .idxM x1.l verA (cutV Ver.stamp st x1.l-1) (m:=(cutV Ver.stamp st x1.l:Int)-1) (by omega) (by have:=Qh0 Ver.stamp st x1.l;omega) fun x2 hx2=>
 have okx2:=okx1.2.2 x2 (List.mem_of_getElem? hx2);.r 4<|.br 39 (!x2.gone) (fun q3=>have q3:=notT q3;have p3:=booF q3;.ord [0,1,2,3,4,5,6,7,8,9,10,11]<|.u 5 [b3,b4]<|
 .idx (cutV Ver.stamp st x1.l-1) (m:=(cutV Ver.stamp st x1.l:Int)-1) (xs:=x1.l.map verA) (e:=verA x2) (by omega) (map_some hx2)<|
 .r 3<|.app 64 V ((Qcu s st k).map nodA) ([(nodA x2.n)]) (by have:=Ql9 s st k;simp only [List.length_map,List.length_cons,List.length_nil];omega) (by have:=Ql9 s st k;simp only [List.length_map,List.length_cons,List.length_nil];omega) fun V1=>
 .u 2 [b3]<|
 .run 2 [rng .i64 ((k:Int)+1)] ⟨Qai (by omega) (by omega),trivial⟩<|
 .bk L1 (k,V) ((k+1),V1) (show (k+1)≤s.l.length from (by show _≤_;omega)) (show s.l.length-(k+1)<s.l.length-k from (by omega)) [(20,aI ((k:Int)+1))] [(7,.box b3 28 [.rw 100 V1 (((Qcu s st k).map nodA).length+([(nodA x2.n)]:List (List AV)).length),aI 1]),(100,.row V1 84 5 (((Qcu s st k).map nodA)++([(nodA x2.n)])))] ⟨sR,sR,sR,sR,sR,sR,sR,sR,sO,trivial⟩ ⟨sB,sB,⟨_,rfl,SubB.boxs ⟨Sub.of_eq (by rw [Qjt hx1 (show Qb8 st x1=some x2.n from by rw [Qev (by omega) hx2,q3];rfl)];simp),sR,trivial⟩⟩,⟨_,rfl,SubB.of_eq (by rw [Qjt hx1 (show Qb8 st x1=some x2.n from by rw [Qev (by omega) hx2,q3];rfl)];simp [nodA])⟩,trivial⟩)
 <| fun q3=>have q3:=notF q3;have p3:=booT q3;.run 2 [rng .i64 ((k:Int)+1)] ⟨Qai (by omega) (by omega),trivial⟩<|
 .bk L1 (k,V) ((k+1),V) (show (k+1)≤s.l.length from (by show _≤_;omega)) (show s.l.length-(k+1)<s.l.length-k from (by omega)) [(20,aI ((k:Int)+1))] [(7,.box b3 28 [.rw 100 V (((Qcu s st k).map nodA).length),aI 1]),(100,.row V 84 5 ((Qcu s st k).map nodA))] ⟨sR,sR,sR,sR,sR,sR,sR,sR,sO,trivial⟩ ⟨sB,sB,⟨_,rfl,SubB.boxs ⟨Sub.of_eq (by rw [Qfi hx1 (show Qb8 st x1=none from by rw [Qev (by omega) hx2,q3];rfl)]),sR,trivial⟩⟩,⟨_,rfl,SubB.of_eq (by rw [Qfi hx1 (show Qb8 st x1=none from by rw [Qev (by omega) hx2,q3];rfl)])⟩,trivial⟩)
 <| fun p2=>.r 8<|.run 2 [rng .i64 ((k:Int)+1)] ⟨Qai (by omega) (by omega),trivial⟩<|
 .bk L1 (k,V) ((k+1),V) (show (k+1)≤s.l.length from (by show _≤_;omega)) (show s.l.length-(k+1)<s.l.length-k from (by omega)) [(20,aI ((k:Int)+1))] [(7,.box b3 28 [.rw 100 V (((Qcu s st k).map nodA).length),aI 1]),(100,.row V 84 5 ((Qcu s st k).map nodA))] ⟨sR,sR,sR,sR,sR,sR,sR,sR,sO,trivial⟩ ⟨sB,sB,⟨_,rfl,SubB.boxs ⟨Sub.of_eq (by rw [Qfi hx1 (show Qb8 st x1=none from Qia (by have:=Qh0 Ver.stamp st x1.l;omega))]),sR,trivial⟩⟩,⟨_,rfl,SubB.of_eq (by rw [Qfi hx1 (show Qb8 st x1=none from Qia (by have:=Qh0 Ver.stamp st x1.l;omega))])⟩,trivial⟩)
 <| fun p1=>.u 4 [b1]<|
 .call (Qoi s.nexts st (by omega))<|
 .r 1<|.r 2<|.bd 58 (((cutV Cnt.stamp st s.nexts:Int)-1)≥0) (fun p4=>.u 3 [b1]<|
 .idxM s.nexts cntA (cutV Cnt.stamp st s.nexts-1) (m:=(cutV Cnt.stamp st s.nexts:Int)-1) (by omega) (by have:=Qh0 Cnt.stamp st s.nexts;omega) fun x3 hx3=>
 have okx3:=oks.2.2.2.2 x3 (List.mem_of_getElem? hx3);.u 4 [b3]<|
 .u 2 [b3,b2]<|
 .frz 100 [4] [4] [V=V,((Qcu s st k).map nodA).length=((Qcu s st k).map nodA).length] ⟨rfl,(by first | rfl | (simp;done) | (simp;omega)),trivial⟩<|
 .f (.agg (fsyA (Qck s st))) [b2] (.agg [.sl 5 false ((Qcu s st k).map nodA),aI x3.next]) (by exact Sub.aggs ⟨Sub.of_eq (by rw [Qju (by omega)];rfl),Sub.of_eq (congrArg aI (Qxt (by omega) hx3).symm),trivial⟩))
 <| fun p4=>.u 2 [b3,b2]<|
 .frz 100 [4] [4] [V=V,((Qcu s st k).map nodA).length=((Qcu s st k).map nodA).length] ⟨rfl,(by first | rfl | (simp;done) | (simp;omega)),trivial⟩<|
 .f (.agg (fsyA (Qck s st))) [b2] (.agg [.sl 5 false ((Qcu s st k).map nodA),aI 1]) (by exact Sub.aggs ⟨Sub.of_eq (by rw [Qju (by omega)];rfl),Sub.of_eq (congrArg aI (Qpg (by have:=Qh0 Cnt.stamp st s.nexts;omega)).symm),trivial⟩)) a1.1 a1.2 ha1)
theorem Qo2 (s:Sto) (st:Int) (oks:OkS s) (hf:s.l.length≤100000):Qah prog 39 [.agg (stoA s),aI st] (.agg (fsyA (Qck s st))):=by
 have hb1:=oks.2.1;have hb2:=oks.2.2.1;exact Qac func39 (
 .new fun b1=>.new fun b2=>.r 1<|.new fun b3=>.u 1 [b3]<|
 .rowNilB 100 5 0 84 5<|.r 1<|let L1:Lp (Nat × Value):=⟨fun a1=>⟨[(1,aI st),(2,.ptr 2 b1 0),(4,.ptr 4 b2 0),(5,.ptr 5 b3 0),(6,aI (a1.1:Int))],[(2,.box b1 25 (stoA s)),(4,.box b2 28 [aN,aI 0]),(5,.box b3 28 [.rw 100 a1.2 (((Qcu s st a1.1).map nodA).length),aI 1]),(100,.row a1.2 84 5 ((Qcu s st a1.1).map nodA))]⟩,fun a1=>s.l.length-a1.1,fun a1=>a1.1≤s.l.length⟩
 .lp L1 (0,.slice none 0 0) (show 0≤s.l.length from Nat.zero_le _) [(6,aI 0)] [(5,.box b3 28 [.rw 100 (.slice none 0 0) 0,aI 1]),(100,.row (.slice none 0 0) 84 5 ([]))] ⟨sR,sR,sR,sR,sO,trivial⟩ ⟨sB,sB,⟨_,rfl,SubB.boxs sr2⟩,sB,trivial⟩ fun a1 ha1=>
 (fun (k:Nat) (V:Value) (hH1:k≤s.l.length)=>.u 4 [b1]<|
 .lm 13 s.l chnA<|.r 1<|.bd 14 ((k:Int)<(s.l.length:Int)) (fun p1=>.u 3 [b1]<|
 .idxM s.l chnA k (m:=(k:Int)) rfl (by omega) fun x1 hx1=>
 have okx1:=oks.2.2.2.1 x1 (List.mem_of_getElem? hx1);have blx1:=okx1.2.1;.r 2<|.call (Qzq x1 st (by omega))<|
 .r 1<|.r 3<|.bd 26 (((cutV Ver.stamp st x1.l:Int)-1)≥0) (fun p2=>.u 3 [b1]<|
 .idx k (m:=(k:Int)) (xs:=s.l.map chnA) (e:=chnA x1) rfl (map_some hx1)<|
 .r 3<|.idxM x1.l verA (cutV Ver.stamp st x1.l-1) (m:=(cutV Ver.stamp st x1.l:Int)-1) (by omega) (by have:=Qh0 Ver.stamp st x1.l;omega) fun x2 hx2=>
 have okx2:=okx1.2.2 x2 (List.mem_of_getElem? hx2);.r 4<|.br 38 (!x2.gone) (fun q3=>have q3:=notT q3;have p3:=booF q3;.ord [0,1,2,3,4,5,6,7,8,9,10,11,12,13,14,15]<|.u 5 [b3,b1]<|
 .idx k (m:=(k:Int)) (xs:=s.l.map chnA) (e:=chnA x1) rfl (map_some hx1)<|
 .r 3<|.idx (cutV Ver.stamp st x1.l-1) (m:=(cutV Ver.stamp st x1.l:Int)-1) (xs:=x1.l.map verA) (e:=verA x2) (by omega) (map_some hx2)<|
 .r 3<|.app 64 V ((Qcu s st k).map nodA) ([(nodA x2.n)]) (by have:=Ql9 s st k;simp only [List.length_map,List.length_cons,List.length_nil];omega) (by have:=Ql9 s st k;simp only [List.length_map,List.length_cons,List.length_nil];omega) fun V1=>
 .u 2 [b3]<|
 .run 3 [rng .i64 ((k:Int)+1)] ⟨Qai (by omega) (by omega),trivial⟩<|
 .bk L1 (k,V) ((k+1),V1) (show (k+1)≤s.l.length from (by show _≤_;omega)) (show s.l.length-(k+1)<s.l.length-k from (by omega)) [(6,aI ((k:Int)+1))] [(5,.box b3 28 [.rw 100 V1 (((Qcu s st k).map nodA).length+([(nodA x2.n)]:List (List AV)).length),aI 1]),(100,.row V1 84 5 (((Qcu s st k).map nodA)++([(nodA x2.n)])))] ⟨sR,sR,sR,sR,sO,trivial⟩ ⟨sB,sB,⟨_,rfl,SubB.boxs ⟨Sub.of_eq (by rw [Qjt hx1 (show Qb8 st x1=some x2.n from by rw [Qev (by omega) hx2,q3];rfl)];simp),sR,trivial⟩⟩,⟨_,rfl,SubB.of_eq (by rw [Qjt hx1 (show Qb8 st x1=some x2.n from by rw [Qev (by omega) hx2,q3];rfl)];simp [nodA])⟩,trivial⟩)
 <| fun q3=>have q3:=notF q3;have p3:=booT q3;.run 3 [rng .i64 ((k:Int)+1)] ⟨Qai (by omega) (by omega),trivial⟩<|
 .bk L1 (k,V) ((k+1),V) (show (k+1)≤s.l.length from (by show _≤_;omega)) (show s.l.length-(k+1)<s.l.length-k from (by omega)) [(6,aI ((k:Int)+1))] [(5,.box b3 28 [.rw 100 V (((Qcu s st k).map nodA).length),aI 1]),(100,.row V 84 5 ((Qcu s st k).map nodA))] ⟨sR,sR,sR,sR,sO,trivial⟩ ⟨sB,sB,⟨_,rfl,SubB.boxs ⟨Sub.of_eq (by rw [Qfi hx1 (show Qb8 st x1=none from by rw [Qev (by omega) hx2,q3];rfl)]),sR,trivial⟩⟩,⟨_,rfl,SubB.of_eq (by rw [Qfi hx1 (show Qb8 st x1=none from by rw [Qev (by omega) hx2,q3];rfl)])⟩,trivial⟩)
 <| fun p2=>.r 12<|.run 3 [rng .i64 ((k:Int)+1)] ⟨Qai (by omega) (by omega),trivial⟩<|
 .bk L1 (k,V) ((k+1),V) (show (k+1)≤s.l.length from (by show _≤_;omega)) (show s.l.length-(k+1)<s.l.length-k from (by omega)) [(6,aI ((k:Int)+1))] [(5,.box b3 28 [.rw 100 V (((Qcu s st k).map nodA).length),aI 1]),(100,.row V 84 5 ((Qcu s st k).map nodA))] ⟨sR,sR,sR,sR,sO,trivial⟩ ⟨sB,sB,⟨_,rfl,SubB.boxs ⟨Sub.of_eq (by rw [Qfi hx1 (show Qb8 st x1=none from Qia (by have:=Qh0 Ver.stamp st x1.l;omega))]),sR,trivial⟩⟩,⟨_,rfl,SubB.of_eq (by rw [Qfi hx1 (show Qb8 st x1=none from Qia (by have:=Qh0 Ver.stamp st x1.l;omega))])⟩,trivial⟩)
 <| fun p1=>.u 2 [b1]<|
 .call (Qzs s st (by omega))<|
 .r 1<|.r 2<|.bd 58 (((cutV Cnt.stamp st s.nexts:Int)-1)≥0) (fun p4=>.u 3 [b1]<|
 .idxM s.nexts cntA (cutV Cnt.stamp st s.nexts-1) (m:=(cutV Cnt.stamp st s.nexts:Int)-1) (by omega) (by have:=Qh0 Cnt.stamp st s.nexts;omega) fun x3 hx3=>
 have okx3:=oks.2.2.2.2 x3 (List.mem_of_getElem? hx3);.u 4 [b3]<|
 .u 2 [b3,b2]<|
 .frz 100 [4] [4] [V=V,((Qcu s st k).map nodA).length=((Qcu s st k).map nodA).length] ⟨rfl,(by first | rfl | (simp;done) | (simp;omega)),trivial⟩<|
 .f (.agg (fsyA (Qck s st))) [b2] (.agg [.sl 5 false ((Qcu s st k).map nodA),aI x3.next]) (by exact Sub.aggs ⟨Sub.of_eq (by rw [Qju (by omega)];rfl),Sub.of_eq (congrArg aI (Qxt (by omega) hx3).symm),trivial⟩))
 <| fun p4=>.u 2 [b3,b2]<|
 .frz 100 [4] [4] [V=V,((Qcu s st k).map nodA).length=((Qcu s st k).map nodA).length] ⟨rfl,(by first | rfl | (simp;done) | (simp;omega)),trivial⟩<|
 .f (.agg (fsyA (Qck s st))) [b2] (.agg [.sl 5 false ((Qcu s st k).map nodA),aI 1]) (by exact Sub.aggs ⟨Sub.of_eq (by rw [Qju (by omega)];rfl),Sub.of_eq (congrArg aI (Qpg (by have:=Qh0 Cnt.stamp st s.nexts;omega)).symm),trivial⟩)) a1.1 a1.2 ha1)
theorem Zb5 (x:Ver) (st:Int):Qah prog 111 [.agg (verA x),.dptr [aI st]] (aB (decide (x.stamp>st))):=by
 exact Qac func111 (let R:AV:=aB (decide (x.stamp>st));
 .new fun b1=>.r 1<|.u 5 [b1]<|
 .fi R [])
theorem Zex (l:List Ver) (st:Int) (hl:l.length≤8796093022207):Qah prog 164 [.sl 7 false (l.map verA),.clo 111 [.dptr [aI st]]] (aI (idxF (fun (x:Ver)=>decide (x.stamp>st)) l)):=by
 exact Qac func164 (
 .r 1<|.r 2<|.lm 7 l verA<|.r 1<|let L1:Lp (Nat):=⟨fun a1=>⟨[(0,.sl 7 false (l.map verA)),(1,.clo 111 [.dptr [aI st]]),(7,aI (l.length:Int)),(8,aI (a1:Int))],[]⟩,fun a1=>l.length-a1,fun a1=>a1≤l.length∧Qa3 (fun _ x=>(fun (x:Ver)=>decide (x.stamp>st)) x=false) l a1⟩
 .lp L1 0 ⟨Nat.zero_le _,Qa3.zero _ _⟩ [(8,aI 0)] [] ⟨sR,sR,sR,sO,trivial⟩ trivial fun a1 ha1=>
 (fun (k:Nat) (hH1:k≤l.length∧Qa3 (fun _ x=>(fun (x:Ver)=>decide (x.stamp>st)) x=false) l k)=>.r 1<|.br 9 (decide ((k:Int)<(l.length:Int))) (fun q1=>have p1:=decT q1;.r 2<|.r 3<|.idxM l verA k (m:=(k:Int)) rfl (by omega) fun x1 hx1=>
 .r 1<|.call (Zb5 x1 st)<|
 .br 16 (decide (x1.stamp>st)) (fun q2=>have p2:=decT q2;.r 2<|.f (aI (idxF (fun (x:Ver)=>decide (x.stamp>st)) l)) [] (aI (k:Int)) (by exact Sub.of_eq (congrArg aI (Qv7 (fun (x:Ver)=>decide (x.stamp>st)) l k x1 hH1.2 hx1 (by assumption)).symm)))
 <| fun q2=>have p2:=decF q2;.run 2 [rng .i64 ((k:Int)+1)] ⟨Qai (by omega) (by omega),trivial⟩<|
 .bk L1 k (k+1) ⟨by omega,hH1.2.step hx1 (by assumption)⟩ (show l.length-(k+1)<l.length-k from (by omega)) [(8,aI ((k:Int)+1))] [] ⟨sR,sR,sR,sO,trivial⟩ trivial)
 <| fun q1=>have p1:=decF q1;.r 1<|.f (aI (idxF (fun (x:Ver)=>decide (x.stamp>st)) l)) [] (aI (-1)) (by exact Sub.of_eq (congrArg aI (Qnu (fun (x:Ver)=>decide (x.stamp>st)) l (hH1.2.full (by omega))).symm))) a1 ha1)
theorem Zgk (l:List Ver) (st:Int) (hl:l.length≤8796093022207):Qah prog 110 [.sl 7 false (l.map verA),.clo 111 [.dptr [aI st]]] (aB (l.any (fun (x:Ver)=>decide (x.stamp>st)))):=by
 exact Qac func110 (
 .r 1<|.r 2<|.call (Zex l st (by omega))<|
 .r 2<|.f (aB (l.any (fun (x:Ver)=>decide (x.stamp>st)))) [] (aB (decide ((idxF (fun (x:Ver)=>decide (x.stamp>st)) l)≥0))) (by exact Sub.of_eq (congrArg aB (Qqz (fun (x:Ver)=>decide (x.stamp>st)) l))))
theorem Zb4 (x:Cnt) (st:Int):Qah prog 113 [.agg [aI x.stamp,aI x.next],.dptr [aI st]] (aB (decide (x.stamp>st))):=by
 exact Qac func113 (let R:AV:=aB (decide (x.stamp>st));
 .new fun b1=>.r 1<|.u 5 [b1]<|
 .fi R [])
theorem Zew (l:List Cnt) (st:Int) (hl:l.length≤8796093022207):Qah prog 165 [.sl 2 false (l.map cntA),.clo 113 [.dptr [aI st]]] (aI (idxF (fun (x:Cnt)=>decide (x.stamp>st)) l)):=by
 exact Qac func165 (
 .r 1<|.r 2<|.lm 7 l cntA<|.r 1<|let L1:Lp (Nat):=⟨fun a1=>⟨[(0,.sl 2 false (l.map cntA)),(1,.clo 113 [.dptr [aI st]]),(7,aI (l.length:Int)),(8,aI (a1:Int))],[]⟩,fun a1=>l.length-a1,fun a1=>a1≤l.length∧Qa3 (fun _ x=>(fun (x:Cnt)=>decide (x.stamp>st)) x=false) l a1⟩
 .lp L1 0 ⟨Nat.zero_le _,Qa3.zero _ _⟩ [(8,aI 0)] [] ⟨sR,sR,sR,sO,trivial⟩ trivial fun a1 ha1=>
 (fun (k:Nat) (hH1:k≤l.length∧Qa3 (fun _ x=>(fun (x:Cnt)=>decide (x.stamp>st)) x=false) l k)=>.r 1<|.br 9 (decide ((k:Int)<(l.length:Int))) (fun q1=>have p1:=decT q1;.r 2<|.r 3<|.idxM l cntA k (m:=(k:Int)) rfl (by omega) fun x1 hx1=>
 .r 1<|.call (Zb4 x1 st)<|
 .br 16 (decide (x1.stamp>st)) (fun q2=>have p2:=decT q2;.r 2<|.f (aI (idxF (fun (x:Cnt)=>decide (x.stamp>st)) l)) [] (aI (k:Int)) (by exact Sub.of_eq (congrArg aI (Qv7 (fun (x:Cnt)=>decide (x.stamp>st)) l k x1 hH1.2 hx1 (by assumption)).symm)))
 <| fun q2=>have p2:=decF q2;.run 2 [rng .i64 ((k:Int)+1)] ⟨Qai (by omega) (by omega),trivial⟩<|
 .bk L1 k (k+1) ⟨by omega,hH1.2.step hx1 (by assumption)⟩ (show l.length-(k+1)<l.length-k from (by omega)) [(8,aI ((k:Int)+1))] [] ⟨sR,sR,sR,sO,trivial⟩ trivial)
 <| fun q1=>have p1:=decF q1;.r 1<|.f (aI (idxF (fun (x:Cnt)=>decide (x.stamp>st)) l)) [] (aI (-1)) (by exact Sub.of_eq (congrArg aI (Qnu (fun (x:Cnt)=>decide (x.stamp>st)) l (hH1.2.full (by omega))).symm))) a1 ha1)
theorem Zgj (l:List Cnt) (st:Int) (hl:l.length≤8796093022207):Qah prog 112 [.sl 2 false (l.map cntA),.clo 113 [.dptr [aI st]]] (aB (l.any (fun (x:Cnt)=>decide (x.stamp>st)))):=by
 exact Qac func112 (
 .r 1<|.r 2<|.call (Zew l st (by omega))<|
 .r 2<|.f (aB (l.any (fun (x:Cnt)=>decide (x.stamp>st)))) [] (aB (decide ((idxF (fun (x:Cnt)=>decide (x.stamp>st)) l)≥0))) (by exact Sub.of_eq (congrArg aB (Qqz (fun (x:Cnt)=>decide (x.stamp>st)) l))))
theorem Qzi (s:Sto) (st:Int) (oks:OkS s) (hf:s.l.length≤100000):Qah prog 62 [.agg (stoA s),aI st] (.sl 1 false ((Qby s st).map intA)):=by
 have hb1:=oks.2.1;have hb2:=oks.2.2.1;exact Qac func62 (
 .new fun b1=>.new fun b2=>.r 1<|.frz 3 [2,3,4] [2] [b2=b2] rt1<|
 .litN fun V1=>.r 1<|.u 3 [b1]<|
 .lm 11 s.l chnA<|.r 1<|let L1:Lp (Nat × Value):=⟨fun a1=>⟨[(2,.ptr 2 b1 0),(3,.dptr [aI st]),(10,.sl 2 false (s.l.map chnA)),(11,aI (s.l.length:Int)),(5,.rw 8 a1.2 (1+(Qbl s st a1.1).length)),(12,aI (a1.1:Int))],[(2,.box b1 25 (stoA s)),(8,.row a1.2 3 1 ([aI 0] :: (Qbl s st a1.1).map intA))]⟩,fun a1=>s.l.length-a1.1,fun a1=>a1.1≤s.l.length⟩
 .lp L1 (0,V1) (show 0≤s.l.length from Nat.zero_le _) [(5,.rw 8 V1 1),(12,aI 0)] [(8,.row V1 3 1 ([[aI 0]]))] ⟨sR,sR,sR,sR,sR,sO,trivial⟩ bb2 fun a1 ha1=>
 (fun (k:Nat) (V:Value) (hH1:k≤s.l.length)=>.r 1<|.br 13 (decide ((k:Int)<(s.l.length:Int))) (fun q1=>have p1:=decT q1;.idxM s.l chnA k (m:=(k:Int)) rfl (by omega) fun x1 hx1=>
 have okx1:=oks.2.2.2.1 x1 (List.mem_of_getElem? hx1);have blx1:=okx1.2.1;.r 1<|.new fun b3=>.u 1 [b3]<|
 .u 3 [b3]<|
 .call (Zgk x1.l st (by omega))<|
 .br 19 (Qe9 st x1) (fun q2=>have p2:=booT q2;.u 4 [b3]<|
 .app 8 V ([aI 0] :: (Qbl s st k).map intA) ([[aI x1.ino]]) (by have:=Qhu s st k;simp only [List.length_map,List.length_cons,List.length_nil];omega) (by have:=Qhu s st k;simp only [List.length_map,List.length_cons,List.length_nil];omega) fun V2=>
 .r 1<|.run 2 [rng .i64 ((k:Int)+1)] ⟨Qai (by omega) (by omega),trivial⟩<|
 .bk L1 (k,V) ((k+1),V2) (show (k+1)≤s.l.length from (by show _≤_;omega)) (show s.l.length-(k+1)<s.l.length-k from (by omega)) [(5,.rw 8 V2 (([aI 0] :: (Qbl s st k).map intA).length+([[aI x1.ino]]:List (List AV)).length)),(12,aI ((k:Int)+1))] [(8,.row V2 3 1 (([aI 0] :: (Qbl s st k).map intA)++([[aI x1.ino]])))] ⟨sR,sR,sR,sR,Sub.of_eq (congrArg (AV.rw 8 V2) (by rw [Qgj hx1 q2];simp;try omega)),sO,trivial⟩ ⟨sB,⟨_,rfl,SubB.of_eq (by rw [Qgj hx1 q2];simp [intA])⟩,trivial⟩)
 <| fun q2=>have p2:=booF q2;.run 2 [rng .i64 ((k:Int)+1)] ⟨Qai (by omega) (by omega),trivial⟩<|
 .bk L1 (k,V) ((k+1),V) (show (k+1)≤s.l.length from (by show _≤_;omega)) (show s.l.length-(k+1)<s.l.length-k from (by omega)) [(5,.rw 8 V (1+(Qbl s st k).length)),(12,aI ((k:Int)+1))] [(8,.row V 3 1 ([aI 0] :: (Qbl s st k).map intA))] ⟨sR,sR,sR,sR,Sub.of_eq (congrArg (AV.rw 8 V) (by rw [Qht hx1 q2])),sO,trivial⟩ ⟨sB,⟨_,rfl,SubB.of_eq (by rw [Qht hx1 q2])⟩,trivial⟩)
 <| fun q1=>have p1:=decF q1;.r 4<|.br 29 (decide ((1+(Qbl s st k).length:Int)>1)) (fun q3=>have p3:=decT q3;.r 5<|.r 2<|.frz 8 [4] [] [V=V,1+(Qbl s st k).length=([aI 0] :: (Qbl s st k).map intA).length] ⟨rfl,(by first | rfl | (simp;done) | (simp;omega)),trivial⟩<|
 .f (.sl 1 false ((Qby s st).map intA)) [] (.sl 1 false ([aI 0] :: (Qbl s st k).map intA)) (by
  refine Sub.of_eq ?_;have e:=Qe0 (s:=s) (st:=st) (by omega:s.l.length≤k);rw [show Qby s st=0 :: Qbl s st k from by unfold Qby;rw [if_pos (by rw [← e];first | exact .inl (by omega) | exact .inr (by assumption)),e]];rfl))
 <| fun q3=>have p3:=decF q3;.u 3 [b1]<|
 .call (Zgj s.nexts st (by omega))<|
 .r 1<|.br 34 (Zah s st) (fun q4=>have p4:=booT q4;.r 2<|.frz 8 [4] [] [V=V,1+(Qbl s st k).length=([aI 0] :: (Qbl s st k).map intA).length] ⟨rfl,(by first | rfl | (simp;done) | (simp;omega)),trivial⟩<|
 .f (.sl 1 false ((Qby s st).map intA)) [] (.sl 1 false ([aI 0] :: (Qbl s st k).map intA)) (by
  refine Sub.of_eq ?_;have e:=Qe0 (s:=s) (st:=st) (by omega:s.l.length≤k);rw [show Qby s st=0 :: Qbl s st k from by unfold Qby;rw [if_pos (by rw [← e];first | exact .inl (by omega) | exact .inr (by assumption)),e]];rfl))
 <| fun q4=>have p4:=booF q4;.r 1<|.f (.sl 1 false ((Qby s st).map intA)) [] aN (by
  rw [show Qby s st=[] from by unfold Qby;rw [if_neg (by rw [← Qe0 (by omega:s.l.length≤k)];rintro (h | h)<;>first | omega | simp_all)]];exact Sub.nil _ _)) a1.1 a1.2 ha1)
theorem Qip {st:Int} {c:Chn} {j:Nat} {la v:Bool} (h1:j≤c.l.length) (h2:la=(c.l.take j).any (fun v=>decide (v.stamp>st))) (h3:¬ (j:Int)<c.l.length) (q:la=v):Qe9 st c=v:=by
 rw [Qat (by omega)] at h2;rw [← q,h2];rfl
theorem Qv5 {st:Int} {c:Chn} {j:Nat} {la:Bool} {x:Ver} (hx:c.l[j]?=some x) (h2:la=(c.l.take j).any (fun v=>decide (v.stamp>st))) (q:la=false):j+1≤c.l.length∧decide (x.stamp>st)=(c.l.take (j+1)).any (fun v=>decide (v.stamp>st)):=by
 refine ⟨Qan hx,?_⟩;rw [Qmk hx,← h2,q,Bool.false_or]
theorem Qv4 {st:Int} {c:Chn} {j:Nat} {la:Bool} (hj:j<c.l.length) (h2:la=(c.l.take j).any (fun v=>decide (v.stamp>st))) (q:la=true):j+1≤c.l.length∧true=(c.l.take (j+1)).any (fun v=>decide (v.stamp>st)):=by
 obtain ⟨x,hx⟩:=Qdo hj;refine ⟨hj,?_⟩;rw [Qmk hx,← h2,q,Bool.true_or]
theorem Zag {s:Sto} {st:Int} {j:Nat} {mp b:Bool} {x:Cnt} (hx:s.nexts[j]?=some x) (h2:mp=(b||(s.nexts.take j).any (fun c=>decide (c.stamp>st)))) (q:mp=false):j+1≤s.nexts.length∧decide (x.stamp>st)=(b||(s.nexts.take (j+1)).any (fun c=>decide (c.stamp>st))):=by
 refine ⟨Qan hx,?_⟩;rw [Qmk hx,← Bool.or_assoc,← h2,q,Bool.false_or]
theorem Zd6 {s:Sto} {st:Int} {j:Nat} {mp b:Bool} (h2:mp=(b||(s.nexts.take j).any (fun c=>decide (c.stamp>st)))) (hj:j<s.nexts.length) (q:mp=true):j+1≤s.nexts.length∧true=(b||(s.nexts.take (j+1)).any (fun c=>decide (c.stamp>st))):=by
 obtain ⟨x,hx⟩:=Qdo hj;refine ⟨hj,?_⟩;rw [Qmk hx,← Bool.or_assoc,← h2,q,Bool.true_or]
theorem Qu8 (s:Sto) (st:Int) (oks:OkS s) (hf:s.l.length≤100000):Qah prog 63 [.agg (stoA s),aI st] (.sl 1 false ((Qby s st).map intA)):=by
 have hb1:=oks.2.1;have hb2:=oks.2.2.1;exact Qac func63 (
 .new fun b1=>.r 1<|.litN fun V1=>.r 1<|.r 1<|.r 1<|let L1:Lp (Nat × Value × Bool):=⟨fun a1=>⟨[(1,aI st),(2,.ptr 2 b1 0),(7,aI (a1.1:Int)),(5,.rw 11 a1.2.1 (1+(Qbl s st a1.1).length)),(6,aB a1.2.2)],[(2,.box b1 25 (stoA s)),(11,.row a1.2.1 3 1 ([aI 0] :: (Qbl s st a1.1).map intA))]⟩,fun a1=>s.l.length-a1.1,fun a1=>a1.1≤s.l.length∧a1.2.2=decide (1≤(Qbl s st a1.1).length)⟩
 .lp L1 (0,V1,false) ⟨Nat.zero_le _,rfl⟩ [(7,aI 0),(5,.rw 11 V1 1)] [(11,.row V1 3 1 ([[aI 0]]))] ⟨sR,sR,sO,sR,sR,trivial⟩ bb2 fun a1 ha1=>
 (fun (k:Nat) (V:Value) (mo:Bool) (hH1:k≤s.l.length∧mo=decide (1≤(Qbl s st k).length))=>.u 4 [b1]<|
 .lm 15 s.l chnA<|.r 1<|.bd 16 ((k:Int)<(s.l.length:Int)) (fun p1=>.r 1<|.r 1<|.ex (Qdo (l:=s.l) (k:=k) (by omega)) fun x1 hx1=>
 have okx1:=oks.2.2.2.1 x1 (List.mem_of_getElem? hx1);have blx1:=okx1.2.1;let L2:Lp (Nat × Bool):=⟨fun a2=>⟨[(1,aI st),(2,.ptr 2 b1 0),(7,aI (k:Int)),(5,.rw 11 V (1+(Qbl s st k).length)),(6,aB mo),(9,aI (a2.1:Int)),(8,aB a2.2)],[(2,.box b1 25 (stoA s)),(11,.row V 3 1 ([aI 0] :: (Qbl s st k).map intA))]⟩,fun a2=>x1.l.length-a2.1,fun a2=>a2.1≤x1.l.length∧a2.2=(x1.l.take a2.1).any (fun v=>decide (v.stamp>st))⟩
 .lp L2 (0,false) ⟨Nat.zero_le _,rfl⟩ [(9,aI 0)] [] ⟨sR,sR,sR,sR,sR,sO,sR,trivial⟩ bb2 fun a2 ha2=>
 (fun (j:Nat) (la:Bool) (hH2:j≤x1.l.length∧la=(x1.l.take j).any (fun v=>decide (v.stamp>st)))=>.u 4 [b1]<|
 .idx k (m:=(k:Int)) (xs:=s.l.map chnA) (e:=chnA x1) rfl (map_some hx1)<|
 .r 3<|.lm 26 x1.l verA<|.r 1<|.bd 27 ((j:Int)<(x1.l.length:Int)) (fun p2=>.r 2<|.br 31 (la) (fun q3=>have p3:=booT q3;.r 14<|.run 3 [rng .i64 ((j:Int)+1)] ⟨Qai (by omega) (by omega),trivial⟩<|
 .bk L2 (j,la) ((j+1),true) (show (j+1)≤x1.l.length∧true=(x1.l.take (j+1)).any (fun v=>decide (v.stamp>st)) from (Qv4 (by omega) hH2.2 q3)) (show x1.l.length-(j+1)<x1.l.length-j from (by omega)) [(9,aI ((j:Int)+1))] [] ⟨sR,sR,sR,sR,sR,sO,sR,trivial⟩ bb2)
 <| fun q3=>have p3:=booF q3;.u 3 [b1]<|
 .idx k (m:=(k:Int)) (xs:=s.l.map chnA) (e:=chnA x1) rfl (map_some hx1)<|
 .r 3<|.idxM x1.l verA j (m:=(j:Int)) rfl (by omega) fun x2 hx2=>
 have okx2:=okx1.2.2 x2 (List.mem_of_getElem? hx2);.r 6<|.run 3 [rng .i64 ((j:Int)+1)] ⟨Qai (by omega) (by omega),trivial⟩<|
 .bk L2 (j,la) ((j+1),decide (x2.stamp>st)) (show (j+1)≤x1.l.length∧(decide (x2.stamp>st))=(x1.l.take (j+1)).any (fun v=>decide (v.stamp>st)) from (Qv5 hx2 hH2.2 q3)) (show x1.l.length-(j+1)<x1.l.length-j from (by omega)) [(9,aI ((j:Int)+1))] [] ⟨sR,sR,sR,sR,sR,sO,sR,trivial⟩ bb2)
 <| fun p2=>.r 1<|.br 45 (la) (fun q4=>have p4:=booT q4;.u 4 [b1]<|
 .idx k (m:=(k:Int)) (xs:=s.l.map chnA) (e:=chnA x1) rfl (map_some hx1)<|
 .r 3<|.app 8 V ([aI 0] :: (Qbl s st k).map intA) ([[aI x1.ino]]) (by have:=Qhu s st k;simp only [List.length_map,List.length_cons,List.length_nil];omega) (by have:=Qhu s st k;simp only [List.length_map,List.length_cons,List.length_nil];omega) fun V2=>
 .r 1<|.r 1<|.run 3 [rng .i64 ((k:Int)+1)] ⟨Qai (by omega) (by omega),trivial⟩<|
 .bk L1 (k,V,mo) ((k+1),V2,true) ⟨by omega,by rw [Qgj hx1 ((Qip hH2.1 hH2.2 (by omega) q4:Qe9 st x1=true))];simp⟩ (show s.l.length-(k+1)<s.l.length-k from (by omega)) [(7,aI ((k:Int)+1)),(5,.rw 11 V2 (([aI 0] :: (Qbl s st k).map intA).length+([[aI x1.ino]]:List (List AV)).length))] [(11,.row V2 3 1 (([aI 0] :: (Qbl s st k).map intA)++([[aI x1.ino]])))] ⟨sR,sR,sO,Sub.of_eq (congrArg (AV.rw 11 V2) (by rw [Qgj hx1 ((Qip hH2.1 hH2.2 (by omega) q4:Qe9 st x1=true))];simp;try omega)),sR,trivial⟩ ⟨sB,⟨_,rfl,SubB.of_eq (by rw [Qgj hx1 ((Qip hH2.1 hH2.2 (by omega) q4:Qe9 st x1=true))];simp [intA])⟩,trivial⟩)
 <| fun q4=>have p4:=booF q4;.run 3 [rng .i64 ((k:Int)+1)] ⟨Qai (by omega) (by omega),trivial⟩<|
 .bk L1 (k,V,mo) ((k+1),V,mo) ⟨by omega,by rw [Qht hx1 ((Qip hH2.1 hH2.2 (by omega) q4:Qe9 st x1=false))];exact hH1.2⟩ (show s.l.length-(k+1)<s.l.length-k from (by omega)) [(7,aI ((k:Int)+1)),(5,.rw 11 V (1+(Qbl s st k).length))] [(11,.row V 3 1 ([aI 0] :: (Qbl s st k).map intA))] ⟨sR,sR,sO,Sub.of_eq (congrArg (AV.rw 11 V) (by rw [Qht hx1 ((Qip hH2.1 hH2.2 (by omega) q4:Qe9 st x1=false))])),sR,trivial⟩ ⟨sB,⟨_,rfl,SubB.of_eq (by rw [Qht hx1 ((Qip hH2.1 hH2.2 (by omega) q4:Qe9 st x1=false))])⟩,trivial⟩) a2.1 a2.2 ha2)
 <| fun p1=>.r 1<|let L3:Lp (Nat × Bool):=⟨fun a3=>⟨[(1,aI st),(2,.ptr 2 b1 0),(5,.rw 11 V (1+(Qbl s st k).length)),(10,aI (a3.1:Int)),(6,aB a3.2)],[(2,.box b1 25 (stoA s)),(11,.row V 3 1 ([aI 0] :: (Qbl s st k).map intA))]⟩,fun a3=>s.nexts.length-a3.1,fun a3=>a3.1≤s.nexts.length∧a3.2=(decide (1≤(Qbl s st s.l.length).length)||(s.nexts.take a3.1).any (fun c=>decide (c.stamp>st)))⟩
 .lp L3 (0,mo) ⟨Nat.zero_le _,by rw [hH1.2,Qe0 (by omega)];simp⟩ [(10,aI 0)] [] ⟨sR,sR,sR,sO,sR,trivial⟩ bb2 fun a3 ha3=>
 (fun (j:Nat) (mp:Bool) (hH3:j≤s.nexts.length∧mp=(decide (1≤(Qbl s st s.l.length).length)||(s.nexts.take j).any (fun c=>decide (c.stamp>st))))=>.u 4 [b1]<|
 .lm 58 s.nexts cntA<|.r 1<|.bd 59 ((j:Int)<(s.nexts.length:Int)) (fun p5=>.r 2<|.br 63 (mp) (fun q6=>have p6:=booT q6;.r 10<|.run 3 [rng .i64 ((j:Int)+1)] ⟨Qai (by omega) (by omega),trivial⟩<|
 .bk L3 (j,mp) ((j+1),true) (show (j+1)≤s.nexts.length∧true=(decide (1≤(Qbl s st s.l.length).length)||(s.nexts.take (j+1)).any (fun c=>decide (c.stamp>st))) from (Zd6 hH3.2 (by omega) q6)) (show s.nexts.length-(j+1)<s.nexts.length-j from (by omega)) [(10,aI ((j:Int)+1))] [] ⟨sR,sR,sR,sO,sR,trivial⟩ bb2)
 <| fun q6=>have p6:=booF q6;.u 3 [b1]<|
 .idxM s.nexts cntA j (m:=(j:Int)) rfl (by omega) fun x3 hx3=>
 have okx3:=oks.2.2.2.2 x3 (List.mem_of_getElem? hx3);.r 6<|.run 3 [rng .i64 ((j:Int)+1)] ⟨Qai (by omega) (by omega),trivial⟩<|
 .bk L3 (j,mp) ((j+1),decide (x3.stamp>st)) (show (j+1)≤s.nexts.length∧(decide (x3.stamp>st))=(decide (1≤(Qbl s st s.l.length).length)||(s.nexts.take (j+1)).any (fun c=>decide (c.stamp>st))) from (Zag hx3 hH3.2 q6)) (show s.nexts.length-(j+1)<s.nexts.length-j from (by omega)) [(10,aI ((j:Int)+1))] [] ⟨sR,sR,sR,sO,sR,trivial⟩ bb2)
 <| fun p5=>.r 2<|.br 74 (!mp) (fun q7=>have q7:=notT q7;have p7:=booF q7;.r 1<|.f (.sl 1 false ((Qby s st).map intA)) [] aN (by
  have e:Zah s st=(s.nexts.take j).any (fun c=>decide (c.stamp>st)):=by rw [Qat (by omega)];rfl
  have e2:=Qe0 (s:=s) (st:=st) (by omega:s.l.length≤k);have e3:=hH3.2;rw [q7,← e] at e3;rw [show Qby s st=[] from by unfold Qby;rw [if_neg (by rintro (h | h)<;>simp_all)]];exact Sub.nil _ _))
 <| fun q7=>have q7:=notF q7;have p7:=booT q7;.r 2<|.frz 11 [4] [] [V=V,1+(Qbl s st k).length=([aI 0] :: (Qbl s st k).map intA).length] ⟨rfl,(by first | rfl | (simp;done) | (simp;omega)),trivial⟩<|
 .f (.sl 1 false ((Qby s st).map intA)) [] (.sl 1 false ([aI 0] :: (Qbl s st k).map intA)) (by
  have e:Zah s st=(s.nexts.take j).any (fun c=>decide (c.stamp>st)):=by rw [Qat (by omega)];rfl
  have e2:=Qe0 (s:=s) (st:=st) (by omega:s.l.length≤k);have e3:=hH3.2;rw [q7,← e] at e3;refine Sub.of_eq ?_;rw [show Qby s st=0 :: Qbl s st k from by unfold Qby;rw [e2,if_pos (by have:=e3.symm;simpa using this)]];rfl)) a3.1 a3.2 ha3) a1.1 a1.2.1 a1.2.2 ha1)
end Go.Proofs.YtahlldgocpabjaaGreat
