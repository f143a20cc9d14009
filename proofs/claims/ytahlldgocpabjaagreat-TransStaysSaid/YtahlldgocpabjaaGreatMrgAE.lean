import Derived.Test.YtahlldgocpabjaaGreatMrgAD
set_option maxRecDepth 100000
set_option maxHeartbeats 8000000
set_option linter.unusedVariables false
set_option linter.unusedSimpArgs false
namespace Go.Proofs.YtahlldgocpabjaaGreat
open Go Go.RowKit Copyhold
theorem Qpt (s:Sto) (st:Int) (oks:OkS s) (hf:s.l.length≤100000):Qaj Tryz.prog 52 [.agg [.sl 2 false (s.l.map chnA),.sl 2 false (s.nexts.map cntA),aI s.stamp],aI st] (.agg (fsyA (Qkv s st))):=by
 have hb1:=oks.2.1
 have hb2:=oks.2.2.1
 exact Qac (F:=Tryz.f52) 400 (
 .new fun b1=>.new fun b2=>.call (Qrz)<|
 .r 5<|.r 1<|.new fun b3=>.run 1 [b3=b3] rt1<|
 .rowNilB 100 7 0 84 5<|.run 3 [b1=b1] rt1<|
 .val 19 (show (aI ((s.l.map chnA).length:Int):AV)=aI (s.l.length:Int) from by rw [List.length_map])<|.r 1<|let L1:Lp (Nat × Value):=⟨fun a1=>⟨[(1,aI st),(2,.ptr 2 b1 0),(4,.ptr 4 b2 0),(5,.val (.func (.func 154) #[] #[])),(6,.val (.func (.func 155) #[] #[])),(7,.ptr 7 b3 0),(18,.sl 2 false (s.l.map chnA)),(19,aI (s.l.length:Int)),(20,aI (a1.1:Int))],[(2,.box b1 25 [.sl 2 false (s.l.map chnA),.sl 2 false (s.nexts.map cntA),aI s.stamp]),(4,.box b2 28 [aN,aI 0]),(7,.box b3 28 [.rw 100 a1.2 (((Qd7 s st a1.1).map nodA).length),aI 1]),(100,.row a1.2 84 5 ((Qd7 s st a1.1).map nodA))]⟩,fun a1=>s.l.length-a1.1,fun a1=>a1.1≤s.l.length⟩
 .loop L1 (0,.slice none 0 0) (show 0≤s.l.length from Nat.zero_le _) ⟨[(1,aI st),(2,.ptr 2 b1 0),(4,.ptr 4 b2 0),(5,.val (.func (.func 154) #[] #[])),(6,.val (.func (.func 155) #[] #[])),(7,.ptr 7 b3 0),(18,.sl 2 false (s.l.map chnA)),(19,aI (s.l.length:Int)),(20,aI 0)],[(2,.box b1 25 [.sl 2 false (s.l.map chnA),.sl 2 false (s.nexts.map cntA),aI s.stamp]),(4,.box b2 28 [aN,aI 0]),(7,.box b3 28 [.rw 100 (.slice none 0 0) 0,aI 1]),(100,.row (.slice none 0 0) 84 5 ([]))]⟩ ⟨sR,sR,sR,sR,sR,sR,sR,sR,Sub.of_eq (congrArg aI (by first | omega | rfl)),trivial⟩ ⟨⟨_,rfl,SubB.refl _⟩,⟨_,rfl,SubB.refl _⟩,⟨_,rfl,SubB.boxs sr2⟩,⟨_,rfl,SubB.refl _⟩,trivial⟩ fun a1 ha1=>
 (fun (k:Nat) (V:Value) (hH1:k≤s.l.length)=>.r 1<|.br 21 (decide ((k:Int)<(s.l.length:Int))) (fun q1=>have p1:=decT q1;.idxM s.l chnA k (m:=(k:Int)) rfl (by omega) fun x1 hx1=>
 have okx1:=oks.2.2.2.1 x1 (List.mem_of_getElem? hx1);have blx1:=okx1.2.1;.r 1<|.new fun b4=>.run 1 [b4=b4] rt1<|
 .run 4 [b4=b4] rt1<|
 .call (Qp1 x1.l st (by omega))<|
 .r 1<|.r 3<|.br 31 (decide (((cutV Ver.stamp st x1.l:Int)-1)≥0)) (fun q2=>have p2:=decT q2;.run 3 [b4=b4] rt1<|
 .idxM x1.l verA (cutV Ver.stamp st x1.l-1) (m:=(cutV Ver.stamp st x1.l:Int)-1) (by omega) (by have:=Qnx Ver.stamp st x1.l;omega) fun x2 hx2=>
 have okx2:=okx1.2.2 x2 (List.mem_of_getElem? hx2);.r 4<|.br 39 (!x2.gone) (fun q3=>have q3:=notT q3;have p3:=booF q3;.ord [0,1,2,3,4,5,6,7,8,9,10,11]<|.run 5 [b3=b3,b4=b4] rt2<|
 .idx (cutV Ver.stamp st x1.l-1) (m:=(cutV Ver.stamp st x1.l:Int)-1) (xs:=x1.l.map verA) (e:=verA x2) (by omega) (map_some hx2)<|
 .r 3<|.app 64 V ((Qd7 s st k).map nodA) ([(nodA x2.n)]) (by have:=Qt4 s st k;simp only [List.length_map,List.length_cons,List.length_nil];omega) (by have:=Qt4 s st k;simp only [List.length_map,List.length_cons,List.length_nil];omega) fun V1=>
 .run 2 [b3=b3] rt1<|
 .run 2 [rng .i64 ((k:Int)+1)] ⟨Qas (by omega) (by omega),trivial⟩<|
 .back L1 (k,V) ((k+1),V1) (show (k+1)≤s.l.length from (by show _≤_;omega)) (show s.l.length-(k+1)<s.l.length-k from (by omega)) ⟨[(1,aI st),(2,.ptr 2 b1 0),(4,.ptr 4 b2 0),(5,.val (.func (.func 154) #[] #[])),(6,.val (.func (.func 155) #[] #[])),(7,.ptr 7 b3 0),(18,.sl 2 false (s.l.map chnA)),(19,aI (s.l.length:Int)),(20,aI ((k:Int)+1))],[(2,.box b1 25 [.sl 2 false (s.l.map chnA),.sl 2 false (s.nexts.map cntA),aI s.stamp]),(4,.box b2 28 [aN,aI 0]),(7,.box b3 28 [.rw 100 V1 (((Qd7 s st k).map nodA).length+([(nodA x2.n)]:List (List AV)).length),aI 1]),(100,.row V1 84 5 (((Qd7 s st k).map nodA)++([(nodA x2.n)])))]⟩ ⟨sR,sR,sR,sR,sR,sR,sR,sR,Sub.of_eq (congrArg aI (by first | omega | rfl)),trivial⟩ ⟨⟨_,rfl,SubB.refl _⟩,⟨_,rfl,SubB.refl _⟩,⟨_,rfl,SubB.boxs ⟨Sub.of_eq (by rw [Qp2 hx1 (show Qfa st x1=some x2.n from by rw [Qkg (by omega) hx2,q3];rfl)];simp),sR,trivial⟩⟩,⟨_,rfl,SubB.of_eq (by rw [Qp2 hx1 (show Qfa st x1=some x2.n from by rw [Qkg (by omega) hx2,q3];rfl)];simp [nodA])⟩,trivial⟩)
 <| fun q3=>have q3:=notF q3;have p3:=booT q3;.run 2 [rng .i64 ((k:Int)+1)] ⟨Qas (by omega) (by omega),trivial⟩<|
 .back L1 (k,V) ((k+1),V) (show (k+1)≤s.l.length from (by show _≤_;omega)) (show s.l.length-(k+1)<s.l.length-k from (by omega)) ⟨[(1,aI st),(2,.ptr 2 b1 0),(4,.ptr 4 b2 0),(5,.val (.func (.func 154) #[] #[])),(6,.val (.func (.func 155) #[] #[])),(7,.ptr 7 b3 0),(18,.sl 2 false (s.l.map chnA)),(19,aI (s.l.length:Int)),(20,aI ((k:Int)+1))],[(2,.box b1 25 [.sl 2 false (s.l.map chnA),.sl 2 false (s.nexts.map cntA),aI s.stamp]),(4,.box b2 28 [aN,aI 0]),(7,.box b3 28 [.rw 100 V (((Qd7 s st k).map nodA).length),aI 1]),(100,.row V 84 5 ((Qd7 s st k).map nodA))]⟩ ⟨sR,sR,sR,sR,sR,sR,sR,sR,Sub.of_eq (congrArg aI (by first | omega | rfl)),trivial⟩ ⟨⟨_,rfl,SubB.refl _⟩,⟨_,rfl,SubB.refl _⟩,⟨_,rfl,SubB.boxs ⟨Sub.of_eq (by rw [Qkj hx1 (show Qfa st x1=none from by rw [Qkg (by omega) hx2,q3];rfl)]),sR,trivial⟩⟩,⟨_,rfl,SubB.of_eq (by rw [Qkj hx1 (show Qfa st x1=none from by rw [Qkg (by omega) hx2,q3];rfl)])⟩,trivial⟩)
 <| fun q2=>have p2:=decF q2;.r 8<|.run 2 [rng .i64 ((k:Int)+1)] ⟨Qas (by omega) (by omega),trivial⟩<|
 .back L1 (k,V) ((k+1),V) (show (k+1)≤s.l.length from (by show _≤_;omega)) (show s.l.length-(k+1)<s.l.length-k from (by omega)) ⟨[(1,aI st),(2,.ptr 2 b1 0),(4,.ptr 4 b2 0),(5,.val (.func (.func 154) #[] #[])),(6,.val (.func (.func 155) #[] #[])),(7,.ptr 7 b3 0),(18,.sl 2 false (s.l.map chnA)),(19,aI (s.l.length:Int)),(20,aI ((k:Int)+1))],[(2,.box b1 25 [.sl 2 false (s.l.map chnA),.sl 2 false (s.nexts.map cntA),aI s.stamp]),(4,.box b2 28 [aN,aI 0]),(7,.box b3 28 [.rw 100 V (((Qd7 s st k).map nodA).length),aI 1]),(100,.row V 84 5 ((Qd7 s st k).map nodA))]⟩ ⟨sR,sR,sR,sR,sR,sR,sR,sR,Sub.of_eq (congrArg aI (by first | omega | rfl)),trivial⟩ ⟨⟨_,rfl,SubB.refl _⟩,⟨_,rfl,SubB.refl _⟩,⟨_,rfl,SubB.boxs ⟨Sub.of_eq (by rw [Qkj hx1 (show Qfa st x1=none from Qmz (by have:=Qnx Ver.stamp st x1.l;omega))]),sR,trivial⟩⟩,⟨_,rfl,SubB.of_eq (by rw [Qkj hx1 (show Qfa st x1=none from Qmz (by have:=Qnx Ver.stamp st x1.l;omega))])⟩,trivial⟩)
 <| fun q1=>have p1:=decF q1;.run 4 [b1=b1] rt1<|
 .call (Qmq s.nexts st (by omega))<|
 .r 1<|.r 2<|.br 58 (decide (((cutV Cnt.stamp st s.nexts:Int)-1)≥0)) (fun q4=>have p4:=decT q4;.run 3 [b1=b1] rt1<|
 .idxM s.nexts cntA (cutV Cnt.stamp st s.nexts-1) (m:=(cutV Cnt.stamp st s.nexts:Int)-1) (by omega) (by have:=Qnx Cnt.stamp st s.nexts;omega) fun x3 hx3=>
 have okx3:=oks.2.2.2.2 x3 (List.mem_of_getElem? hx3);.run 4 [b3=b3] rt1<|
 .run 2 [b3=b3,b2=b2] rt2<|
 .frz 100 [4] [4] [V=V,((Qd7 s st k).map nodA).length=((Qd7 s st k).map nodA).length] ⟨rfl,(by first | rfl | (simp;done) | (simp;omega)),trivial⟩<|
 .fin (x:=.agg [.sl 5 false ((Qd7 s st k).map nodA),aI x3.next]) (r:=.agg (fsyA (Qkv s st))) [b2=b2] rt1 (by exact Sub.aggs ⟨Sub.of_eq (by rw [Qp3 (by omega)];rfl),Sub.of_eq (congrArg aI (Zeb (by omega) hx3).symm),trivial⟩))
 <| fun q4=>have p4:=decF q4;.run 2 [b3=b3,b2=b2] rt2<|
 .frz 100 [4] [4] [V=V,((Qd7 s st k).map nodA).length=((Qd7 s st k).map nodA).length] ⟨rfl,(by first | rfl | (simp;done) | (simp;omega)),trivial⟩<|
 .fin (x:=.agg [.sl 5 false ((Qd7 s st k).map nodA),aI 1]) (r:=.agg (fsyA (Qkv s st))) [b2=b2] rt1 (by exact Sub.aggs ⟨Sub.of_eq (by rw [Qp3 (by omega)];rfl),Sub.of_eq (congrArg aI (Qwt (by have:=Qnx Cnt.stamp st s.nexts;omega)).symm),trivial⟩)) a1.1 a1.2 ha1) Tryz.func52 rfl (by kernel_rfl) (by kernel_rfl)
theorem Qyc (x:Ver) (st:Int):Qaj Tryz.prog 111 [.agg [aI x.stamp,aB x.gone,aI x.n.ino,aI x.n.kind,aI x.n.links,aS x.n.text,.sl 2 false (x.n.l.map entA)],.dptr [aI st]] (aB (decide (x.stamp>st))):=by
 exact Qac (F:=Tryz.f111) 400 (
 .new fun b1=>.r 1<|.run 5 [b1=b1] rt1<|
 .fin (x:=aB (decide (x.stamp>st))) (r:=aB (decide (x.stamp>st))) [] trivial (by exact sR)) Tryz.func111 rfl (by kernel_rfl) (by kernel_rfl)
theorem Zat (l:List Ver) (st:Int) (hl:l.length≤8796093022207):Qaj Tryz.prog 164 [.sl 7 false (l.map verA),.clo 111 [.dptr [aI st]]] (aI (idxF (fun (x:Ver)=>decide (x.stamp>st)) l)):=by
 exact Qac (F:=Tryz.f164) 400 (
 .r 1<|.r 2<|.val 7 (show (aI ((l.map verA).length:Int):AV)=aI (l.length:Int) from by rw [List.length_map])<|.r 1<|let L1:Lp (Nat):=⟨fun a1=>⟨[(0,.sl 7 false (l.map verA)),(1,.clo 111 [.dptr [aI st]]),(7,aI (l.length:Int)),(8,aI (a1:Int))],[]⟩,fun a1=>l.length-a1,fun a1=>a1≤l.length∧Qa1 (fun _ x=>(fun (x:Ver)=>decide (x.stamp>st)) x=false) l a1⟩
 .loop L1 0 (show 0≤l.length∧Qa1 (fun _ x=>(fun (x:Ver)=>decide (x.stamp>st)) x=false) l 0 from ⟨Nat.zero_le _,Qa1.zero _ _⟩) ⟨[(0,.sl 7 false (l.map verA)),(1,.clo 111 [.dptr [aI st]]),(7,aI (l.length:Int)),(8,aI 0)],[]⟩ ⟨sR,sR,sR,Sub.of_eq (congrArg aI (by first | omega | rfl)),trivial⟩ trivial fun a1 ha1=>
 (fun (k:Nat) (hH1:k≤l.length∧Qa1 (fun _ x=>(fun (x:Ver)=>decide (x.stamp>st)) x=false) l k)=>.r 1<|.br 9 (decide ((k:Int)<(l.length:Int))) (fun q1=>have p1:=decT q1;.r 2<|.r 3<|.idxM l verA k (m:=(k:Int)) rfl (by omega) fun x1 hx1=>
 .r 1<|.call (Qyc x1 st)<|
 .br 16 (decide (x1.stamp>st)) (fun q2=>have p2:=decT q2;.r 2<|.fin (x:=aI (k:Int)) (r:=aI (idxF (fun (x:Ver)=>decide (x.stamp>st)) l)) [] trivial (by exact Sub.of_eq (congrArg aI (Qs2 (fun (x:Ver)=>decide (x.stamp>st)) l k x1 hH1.2 hx1 (by assumption)).symm)))
 <| fun q2=>have p2:=decF q2;.run 2 [rng .i64 ((k:Int)+1)] ⟨Qas (by omega) (by omega),trivial⟩<|
 .back L1 k (k+1) (show (k+1)≤l.length∧Qa1 (fun _ x=>(fun (x:Ver)=>decide (x.stamp>st)) x=false) l (k+1) from ⟨by omega,hH1.2.step hx1 (by assumption)⟩) (show l.length-(k+1)<l.length-k from (by omega)) ⟨[(0,.sl 7 false (l.map verA)),(1,.clo 111 [.dptr [aI st]]),(7,aI (l.length:Int)),(8,aI ((k:Int)+1))],[]⟩ ⟨sR,sR,sR,Sub.of_eq (congrArg aI (by first | omega | rfl)),trivial⟩ trivial)
 <| fun q1=>have p1:=decF q1;.r 1<|.fin (x:=aI (-1)) (r:=aI (idxF (fun (x:Ver)=>decide (x.stamp>st)) l)) [] trivial (by exact Sub.of_eq (congrArg aI (Ql1 (fun (x:Ver)=>decide (x.stamp>st)) l (hH1.2.full (by omega))).symm))) a1 ha1) Tryz.func164 rfl (by kernel_rfl) (by kernel_rfl)
theorem Zcc (l:List Ver) (st:Int) (hl:l.length≤8796093022207):Qaj Tryz.prog 110 [.sl 7 false (l.map verA),.clo 111 [.dptr [aI st]]] (aB (l.any (fun (x:Ver)=>decide (x.stamp>st)))):=by
 exact Qac (F:=Tryz.f110) 400 (
 .r 1<|.r 2<|.call (Zat l st (by omega))<|
 .r 2<|.fin (x:=aB (decide ((idxF (fun (x:Ver)=>decide (x.stamp>st)) l)≥0))) (r:=aB (l.any (fun (x:Ver)=>decide (x.stamp>st)))) [] trivial (by exact Sub.of_eq (congrArg aB (Qo0 (fun (x:Ver)=>decide (x.stamp>st)) l)))) Tryz.func110 rfl (by kernel_rfl) (by kernel_rfl)
theorem Qyb (x:Cnt) (st:Int):Qaj Tryz.prog 113 [.agg [aI x.stamp,aI x.next],.dptr [aI st]] (aB (decide (x.stamp>st))):=by
 exact Qac (F:=Tryz.f113) 400 (
 .new fun b1=>.r 1<|.run 5 [b1=b1] rt1<|
 .fin (x:=aB (decide (x.stamp>st))) (r:=aB (decide (x.stamp>st))) [] trivial (by exact sR)) Tryz.func113 rfl (by kernel_rfl) (by kernel_rfl)
theorem Zas (l:List Cnt) (st:Int) (hl:l.length≤8796093022207):Qaj Tryz.prog 165 [.sl 2 false (l.map cntA),.clo 113 [.dptr [aI st]]] (aI (idxF (fun (x:Cnt)=>decide (x.stamp>st)) l)):=by
 exact Qac (F:=Tryz.f165) 400 (
 .r 1<|.r 2<|.val 7 (show (aI ((l.map cntA).length:Int):AV)=aI (l.length:Int) from by rw [List.length_map])<|.r 1<|let L1:Lp (Nat):=⟨fun a1=>⟨[(0,.sl 2 false (l.map cntA)),(1,.clo 113 [.dptr [aI st]]),(7,aI (l.length:Int)),(8,aI (a1:Int))],[]⟩,fun a1=>l.length-a1,fun a1=>a1≤l.length∧Qa1 (fun _ x=>(fun (x:Cnt)=>decide (x.stamp>st)) x=false) l a1⟩
 .loop L1 0 (show 0≤l.length∧Qa1 (fun _ x=>(fun (x:Cnt)=>decide (x.stamp>st)) x=false) l 0 from ⟨Nat.zero_le _,Qa1.zero _ _⟩) ⟨[(0,.sl 2 false (l.map cntA)),(1,.clo 113 [.dptr [aI st]]),(7,aI (l.length:Int)),(8,aI 0)],[]⟩ ⟨sR,sR,sR,Sub.of_eq (congrArg aI (by first | omega | rfl)),trivial⟩ trivial fun a1 ha1=>
 (fun (k:Nat) (hH1:k≤l.length∧Qa1 (fun _ x=>(fun (x:Cnt)=>decide (x.stamp>st)) x=false) l k)=>.r 1<|.br 9 (decide ((k:Int)<(l.length:Int))) (fun q1=>have p1:=decT q1;.r 2<|.r 3<|.idxM l cntA k (m:=(k:Int)) rfl (by omega) fun x1 hx1=>
 .r 1<|.call (Qyb x1 st)<|
 .br 16 (decide (x1.stamp>st)) (fun q2=>have p2:=decT q2;.r 2<|.fin (x:=aI (k:Int)) (r:=aI (idxF (fun (x:Cnt)=>decide (x.stamp>st)) l)) [] trivial (by exact Sub.of_eq (congrArg aI (Qs2 (fun (x:Cnt)=>decide (x.stamp>st)) l k x1 hH1.2 hx1 (by assumption)).symm)))
 <| fun q2=>have p2:=decF q2;.run 2 [rng .i64 ((k:Int)+1)] ⟨Qas (by omega) (by omega),trivial⟩<|
 .back L1 k (k+1) (show (k+1)≤l.length∧Qa1 (fun _ x=>(fun (x:Cnt)=>decide (x.stamp>st)) x=false) l (k+1) from ⟨by omega,hH1.2.step hx1 (by assumption)⟩) (show l.length-(k+1)<l.length-k from (by omega)) ⟨[(0,.sl 2 false (l.map cntA)),(1,.clo 113 [.dptr [aI st]]),(7,aI (l.length:Int)),(8,aI ((k:Int)+1))],[]⟩ ⟨sR,sR,sR,Sub.of_eq (congrArg aI (by first | omega | rfl)),trivial⟩ trivial)
 <| fun q1=>have p1:=decF q1;.r 1<|.fin (x:=aI (-1)) (r:=aI (idxF (fun (x:Cnt)=>decide (x.stamp>st)) l)) [] trivial (by exact Sub.of_eq (congrArg aI (Ql1 (fun (x:Cnt)=>decide (x.stamp>st)) l (hH1.2.full (by omega))).symm))) a1 ha1) Tryz.func165 rfl (by kernel_rfl) (by kernel_rfl)
theorem Zcb (l:List Cnt) (st:Int) (hl:l.length≤8796093022207):Qaj Tryz.prog 112 [.sl 2 false (l.map cntA),.clo 113 [.dptr [aI st]]] (aB (l.any (fun (x:Cnt)=>decide (x.stamp>st)))):=by
 exact Qac (F:=Tryz.f112) 400 (
 .r 1<|.r 2<|.call (Zas l st (by omega))<|
 .r 2<|.fin (x:=aB (decide ((idxF (fun (x:Cnt)=>decide (x.stamp>st)) l)≥0))) (r:=aB (l.any (fun (x:Cnt)=>decide (x.stamp>st)))) [] trivial (by exact Sub.of_eq (congrArg aB (Qo0 (fun (x:Cnt)=>decide (x.stamp>st)) l)))) Tryz.func112 rfl (by kernel_rfl) (by kernel_rfl)
theorem Qv2 (s:Sto) (st:Int) (oks:OkS s) (hf:s.l.length≤100000):Qaj Tryz.prog 62 [.agg [.sl 2 false (s.l.map chnA),.sl 2 false (s.nexts.map cntA),aI s.stamp],aI st] (.sl 1 false ((Qc9 s st).map intA)):=by
 have hb1:=oks.2.1
 have hb2:=oks.2.2.1
 exact Qac (F:=Tryz.f62) 400 (
 .new fun b1=>.new fun b2=>.r 1<|.frz 3 [2,3,4] [2] [b2=b2] rt1<|
 .litN fun V1=>.r 1<|.run 3 [b1=b1] rt1<|
 .val 11 (show (aI ((s.l.map chnA).length:Int):AV)=aI (s.l.length:Int) from by rw [List.length_map])<|.r 1<|let L1:Lp (Nat × Value):=⟨fun a1=>⟨[(2,.ptr 2 b1 0),(3,.dptr [aI st]),(10,.sl 2 false (s.l.map chnA)),(11,aI (s.l.length:Int)),(5,.rw 8 a1.2 (1+(Qb6 s st a1.1).length)),(12,aI (a1.1:Int))],[(2,.box b1 25 [.sl 2 false (s.l.map chnA),.sl 2 false (s.nexts.map cntA),aI s.stamp]),(8,.row a1.2 3 1 ([aI 0] :: (Qb6 s st a1.1).map intA))]⟩,fun a1=>s.l.length-a1.1,fun a1=>a1.1≤s.l.length⟩
 .loop L1 (0,V1) (show 0≤s.l.length from Nat.zero_le _) ⟨[(2,.ptr 2 b1 0),(3,.dptr [aI st]),(10,.sl 2 false (s.l.map chnA)),(11,aI (s.l.length:Int)),(5,.rw 8 V1 1),(12,aI 0)],[(2,.box b1 25 [.sl 2 false (s.l.map chnA),.sl 2 false (s.nexts.map cntA),aI s.stamp]),(8,.row V1 3 1 ([[aI 0]]))]⟩ ⟨sR,sR,sR,sR,sR,Sub.of_eq (congrArg aI (by first | omega | rfl)),trivial⟩ ⟨⟨_,rfl,SubB.refl _⟩,⟨_,rfl,SubB.refl _⟩,trivial⟩ fun a1 ha1=>
 (fun (k:Nat) (V:Value) (hH1:k≤s.l.length)=>.r 1<|.br 13 (decide ((k:Int)<(s.l.length:Int))) (fun q1=>have p1:=decT q1;.idxM s.l chnA k (m:=(k:Int)) rfl (by omega) fun x1 hx1=>
 have okx1:=oks.2.2.2.1 x1 (List.mem_of_getElem? hx1);have blx1:=okx1.2.1;.r 1<|.new fun b3=>.run 1 [b3=b3] rt1<|
 .run 3 [b3=b3] rt1<|
 .call (Zcc x1.l st (by omega))<|
 .br 19 (Qnr st x1) (fun q2=>have p2:=booT q2;.run 4 [b3=b3] rt1<|
 .app 8 V ([aI 0] :: (Qb6 s st k).map intA) ([[aI x1.ino]]) (by have:=Qlv s st k;simp only [List.length_map,List.length_cons,List.length_nil];omega) (by have:=Qlv s st k;simp only [List.length_map,List.length_cons,List.length_nil];omega) fun V2=>
 .r 1<|.run 2 [rng .i64 ((k:Int)+1)] ⟨Qas (by omega) (by omega),trivial⟩<|
 .back L1 (k,V) ((k+1),V2) (show (k+1)≤s.l.length from (by show _≤_;omega)) (show s.l.length-(k+1)<s.l.length-k from (by omega)) ⟨[(2,.ptr 2 b1 0),(3,.dptr [aI st]),(10,.sl 2 false (s.l.map chnA)),(11,aI (s.l.length:Int)),(5,.rw 8 V2 (([aI 0] :: (Qb6 s st k).map intA).length+([[aI x1.ino]]:List (List AV)).length)),(12,aI ((k:Int)+1))],[(2,.box b1 25 [.sl 2 false (s.l.map chnA),.sl 2 false (s.nexts.map cntA),aI s.stamp]),(8,.row V2 3 1 (([aI 0] :: (Qb6 s st k).map intA)++([[aI x1.ino]])))]⟩ ⟨sR,sR,sR,sR,Sub.of_eq (congrArg (AV.rw 8 V2) (by rw [Qnq hx1 q2];simp;try omega)),Sub.of_eq (congrArg aI (by first | omega | rfl)),trivial⟩ ⟨⟨_,rfl,SubB.refl _⟩,⟨_,rfl,SubB.of_eq (by rw [Qnq hx1 q2];simp [intA])⟩,trivial⟩)
 <| fun q2=>have p2:=booF q2;.run 2 [rng .i64 ((k:Int)+1)] ⟨Qas (by omega) (by omega),trivial⟩<|
 .back L1 (k,V) ((k+1),V) (show (k+1)≤s.l.length from (by show _≤_;omega)) (show s.l.length-(k+1)<s.l.length-k from (by omega)) ⟨[(2,.ptr 2 b1 0),(3,.dptr [aI st]),(10,.sl 2 false (s.l.map chnA)),(11,aI (s.l.length:Int)),(5,.rw 8 V (1+(Qb6 s st k).length)),(12,aI ((k:Int)+1))],[(2,.box b1 25 [.sl 2 false (s.l.map chnA),.sl 2 false (s.nexts.map cntA),aI s.stamp]),(8,.row V 3 1 ([aI 0] :: (Qb6 s st k).map intA))]⟩ ⟨sR,sR,sR,sR,Sub.of_eq (congrArg (AV.rw 8 V) (by rw [Qqp hx1 q2])),Sub.of_eq (congrArg aI (by first | omega | rfl)),trivial⟩ ⟨⟨_,rfl,SubB.refl _⟩,⟨_,rfl,SubB.of_eq (by rw [Qqp hx1 q2])⟩,trivial⟩)
 <| fun q1=>have p1:=decF q1;.r 4<|.br 29 (decide ((1+(Qb6 s st k).length:Int)>1)) (fun q3=>have p3:=decT q3;.r 5<|.r 2<|.frz 8 [4] [] [V=V,1+(Qb6 s st k).length=([aI 0] :: (Qb6 s st k).map intA).length] ⟨rfl,(by first | rfl | (simp;done) | (simp;omega)),trivial⟩<|
 .fin (x:=.sl 1 false ([aI 0] :: (Qb6 s st k).map intA)) (r:=.sl 1 false ((Qc9 s st).map intA)) [] trivial (by
  refine Sub.of_eq ?_
  have e:=Qjj (s:=s) (st:=st) (by omega:s.l.length≤k)
  rw [show Qc9 s st=0 :: Qb6 s st k from by unfold Qc9;rw [if_pos (by rw [← e];first | exact .inl (by omega) | exact .inr (by assumption)),e]]
  rfl))
 <| fun q3=>have p3:=decF q3;.run 3 [b1=b1] rt1<|
 .call (Zcb s.nexts st (by omega))<|
 .r 1<|.br 34 (Zef s st) (fun q4=>have p4:=booT q4;.r 2<|.frz 8 [4] [] [V=V,1+(Qb6 s st k).length=([aI 0] :: (Qb6 s st k).map intA).length] ⟨rfl,(by first | rfl | (simp;done) | (simp;omega)),trivial⟩<|
 .fin (x:=.sl 1 false ([aI 0] :: (Qb6 s st k).map intA)) (r:=.sl 1 false ((Qc9 s st).map intA)) [] trivial (by
  refine Sub.of_eq ?_
  have e:=Qjj (s:=s) (st:=st) (by omega:s.l.length≤k)
  rw [show Qc9 s st=0 :: Qb6 s st k from by unfold Qc9;rw [if_pos (by rw [← e];first | exact .inl (by omega) | exact .inr (by assumption)),e]]
  rfl))
 <| fun q4=>have p4:=booF q4;.r 1<|.fin (x:=aN) (r:=.sl 1 false ((Qc9 s st).map intA)) [] trivial (by
  rw [show Qc9 s st=[] from by unfold Qc9;rw [if_neg (by rw [← Qjj (by omega:s.l.length≤k)];rintro (h | h)<;>first | omega | simp_all)]]
  exact Sub.nil _ _)) a1.1 a1.2 ha1) Tryz.func62 rfl (by kernel_rfl) (by kernel_rfl)
def wV (v:Ver):Nat:=v.n.l.length
def wC (c:Chn):Nat:=c.l.length+(c.l.map wV).sum
def few (s:Sto):Prop:=s.l.length+s.nexts.length+(s.l.map wC).sum≤200∧∀ c∈s.l,∀ v∈c.l,v.n.text.length≤4096
def newS:Sto:=⟨[⟨1,[⟨1,false,Qhh⟩]⟩],[⟨1,2⟩],1⟩
theorem Qjg:OkS newS:=⟨⟨by decide,by decide⟩,by show (1:Nat)≤_;omega,by show (1:Nat)≤_;omega,fun c h=>by
  obtain rfl:=List.mem_singleton.1 h
  exact ⟨⟨by decide,by decide⟩,by show (1:Nat)≤_;omega,fun v hv=>by obtain rfl:=List.mem_singleton.1 hv;exact ⟨⟨by decide,by decide⟩,Qt6⟩⟩,
 fun c h=>by obtain rfl:=List.mem_singleton.1 h;exact ⟨⟨by decide,by decide⟩,⟨by decide,by decide⟩⟩⟩
theorem Qi6 {α:Type} {Q:Nat→α→Prop} {x:α} (h:Q 0 x):AllQ Q [x]:=fun i e he=>by
 match i,he with
 | 0,he=>simp at he;subst he;exact h
 | i+1,he=>simp at he
theorem Qwu:Zge newS:=by
 refine ⟨by decide,⟨by decide,Qi6 ⟨by decide,by decide,fun d h=>by omega⟩⟩,Qi6 (by show (1:Int)≤2;decide),Qi6 ⟨⟨by decide,⟨by decide,Qi6 ⟨by decide,by decide,fun d h=>by omega⟩⟩,Qi6 ⟨fun h=>(by cases h),fun _=>⟨?_,rfl⟩⟩⟩,fun d h=>by omega⟩⟩
 exact ⟨by decide,by decide,by decide,.inl ⟨rfl,rfl,Qb8⟩⟩
theorem Zcp {α:Type} {f:α→Int} {st:Int} {l:List α} {x:α} (h:atD f st l=some x):x∈l:=by
 unfold atD at h
 split at h
 ·cases h
 ·exact List.mem_of_getElem? h
theorem Zc2 {st:Int} {c:Chn} {n:Nod} (ok:OkC c) (h:Qfa st c=some n):OkN n:=by
 unfold Qfa at h
 split at h
 ·rename_i v hv
  split at h
  ·cases h
  ·obtain rfl:=Option.some.inj h
   exact (ok.2.2 v (Zcp hv)).2
 ·cases h
theorem Qxu {s:Sto} (ok:OkS s) (st:Int):OkF (Qkv s st):=by
 refine ⟨?_,?_,fun n hn=>?_⟩
 ·show I64 (Qsv s st)
  unfold Qsv
  split
  ·rename_i c hc
   exact (ok.2.2.2.2 c (Zcp hc)).2
  ·exact ⟨by decide,by decide⟩
 ·have:=List.length_filterMap_le (Qfa st) s.l
  have:=ok.2.1
  show (s.l.filterMap (Qfa st)).length≤_
  omega
 ·obtain ⟨c,hc,hv⟩:=List.mem_filterMap.1 hn
  exact Zc2 (ok.2.2.2.1 c hc) hv
theorem Zdg (s:Sto) (st:Int):(Qc9 s st).length≤s.l.length+1:=by
 unfold Qc9
 split
 ·have:=Qlv s st s.l.length
  simp
  omega
 ·simp
theorem Qv3 {s:Sto} (hp:Zge s):Qc9 s s.stamp=[]:=by
 have h1:∀ c∈s.l,Qnr s.stamp c=false:=fun c hc=>by
  obtain ⟨k,hk⟩:=List.getElem?_of_mem hc
  have hch:=(hp.2.2.2.at hk).1
  refine List.any_eq_false.2 fun v hv=>?_
  obtain ⟨j,hj⟩:=List.getElem?_of_mem hv
  have:=(hch.2.1.2.at hj).2.1
  simp;omega
 have h2:Qb6 s s.stamp s.l.length=[]:=by
  unfold Qb6
  rw [Qay (Nat.le_refl _),List.filter_eq_nil_iff.2 (fun c hc=>by simp [h1 c hc])]
  rfl
 have h3:Zef s s.stamp=false:=by
  refine List.any_eq_false.2 fun c hc=>?_
  obtain ⟨j,hj⟩:=List.getElem?_of_mem hc
  have:=(hp.2.1.2.at hj).2.1
  simp;omega
 unfold Qc9
 rw [h2,h3]
 simp
end Go.Proofs.YtahlldgocpabjaaGreat
