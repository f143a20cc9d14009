import Derived.Test.YtahlldgocpabjaaGreatMrgAF
set_option maxRecDepth 100000
set_option maxHeartbeats 8000000
set_option linter.unusedVariables false
set_option linter.unusedSimpArgs false
namespace Go.Proofs.YtahlldgocpabjaaGreat
open Go Go.RowKit Copyhold Go.Proofs.Tryz
theorem Qt6 (s:Sto) (oks:OkS s):Qaf prog 42 [.agg (stoA s)] (aB (dP (Qn8 s))):=by
 have hb1:=oks.2.1;have hb2:=oks.2.2.1;exact Qac func42 (let R:AV:=aB (dP (Qn8 s));
 .new fun b1=>.r 1<|.u 4 [b1]<|
 .br 10 (decide (s.stamp<1)) (fun q1=>have p1:=decT q1;.r 5<|.r 1<|.f R [] (aB false) (by
  refine sF (fun h=>?_);obtain ⟨g1,⟨g2,_⟩,g3⟩:=h;omega))
 <| fun q1=>have p1:=decF q1;.u 3 [b1]<|
 .lm 13 s.nexts cntA<|.r 2<|.br 15 (decide ((s.nexts.length:Int)<1)) (fun q2=>have p2:=decT q2;.r 1<|.f R [] (aB false) (by
  refine sF (fun h=>?_);obtain ⟨g1,⟨g2,_⟩,g3⟩:=h;omega))
 <| fun q2=>have p2:=decF q2;.r 1<|let L1:Lp (Nat):=⟨fun a1=>⟨[(1,.ptr 1 b1 0),(3,aI (a1:Int))],[(1,.box b1 25 (stoA s))]⟩,fun a1=>s.l.length-a1,fun a1=>a1≤s.l.length∧Qa1 (Zmd s) s.l a1⟩
 .lp L1 0 ⟨Nat.zero_le _,Qa1.zero _ _⟩ [(3,aI 0)] [] ⟨sR,sO,trivial⟩ bb1 fun a1 ha1=>
 (fun (k:Nat) (hH1:k≤s.l.length∧Qa1 (Zmd s) s.l k)=>.u 4 [b1]<|
 .lm 19 s.l chnA<|.r 1<|.br 20 (decide ((k:Int)<(s.l.length:Int))) (fun q3=>have p3:=decT q3;.ord [0,1,2,3,4,5,6,7,8]<|.u 3 [b1]<|
 .idxM s.l chnA k (m:=(k:Int)) rfl (by omega) fun x1 hx1=>
 have okx1:=oks.2.2.2.1 x1 (List.mem_of_getElem? hx1);have blx1:=okx1.2.1;.u 3 [b1]<|
 .call (Qzl x1 s.stamp okx1)<|
 .r 1<|.ord [0,1,2,3,4,5,6,7,8,9,10,11,12,13,14,15,16,17,18,19,20,21]<|.r 3<|.br 33 (!(dP (Qxm s.stamp x1))) (fun q4=>have q4:=notT q4;have p4:=booF q4;.r 19<|.r 1<|.f R [] (aB false) (by
  refine sF (fun h=>?_);obtain ⟨g1,g2⟩:=h.2.2.2.at hx1
  first | exact Qab.1 (by assumption) g1 ))
 <| fun q4=>have q4:=notF q4;have p4:=booT q4;.r 3<|.br 36 (decide ((k:Int)>0)) (fun q5=>have p5:=decT q5;.run 4 [b1=b1,rng .i64 ((k:Int)-1)] ⟨rfl,Qaj (by omega) (by omega),trivial⟩<|
 .idxM s.l chnA (k-1) (m:=(k:Int)-1) (by omega) (by omega) fun x2 hx2=>
 have okx2:=oks.2.2.2.1 x2 (List.mem_of_getElem? hx2);have blx2:=okx2.2.1;.u 5 [b1]<|
 .idx k (m:=(k:Int)) (xs:=s.l.map chnA) (e:=chnA x1) rfl (map_some hx1)<|
 .r 5<|.br 52 (decide (x2.ino≥x1.ino)) (fun q6=>have p6:=decT q6;.r 1<|.f R [] (aB false) (by
  refine sF (fun h=>?_);obtain ⟨g1,g2⟩:=h.2.2.2.at hx1
  first | exact Qab.1 (by assumption) g1 | (have:=g2 _ (by omega) hx2;omega)))
 <| fun q6=>have p6:=decF q6;.run 3 [rng .i64 ((k:Int)+1)] ⟨Qaj (by omega) (by omega),trivial⟩<|
 .bk L1 k (k+1) ⟨by omega,hH1.2.step hx1 ⟨Qas.1 (by assumption),by intro d h0 hd;first | omega | (rw [hd] at hx2;obtain rfl:=Option.some.inj hx2;omega)⟩⟩ (show s.l.length-(k+1)<s.l.length-k from (by omega)) [(3,aI ((k:Int)+1))] [] ⟨sR,sO,trivial⟩ bb1)
 <| fun q5=>have p5:=decF q5;.r 16<|.run 3 [rng .i64 ((k:Int)+1)] ⟨Qaj (by omega) (by omega),trivial⟩<|
 .bk L1 k (k+1) ⟨by omega,hH1.2.step hx1 ⟨Qas.1 (by assumption),by intro d h0 hd;omega⟩⟩ (show s.l.length-(k+1)<s.l.length-k from (by omega)) [(3,aI ((k:Int)+1))] [] ⟨sR,sO,trivial⟩ bb1)
 <| fun q3=>have p3:=decF q3;.r 1<|let L2:Lp (Nat):=⟨fun a2=>⟨[(1,.ptr 1 b1 0),(5,aI (a2:Int))],[(1,.box b1 25 (stoA s))]⟩,fun a2=>s.nexts.length-a2,fun a2=>a2≤s.nexts.length∧Qa1 (Zad Cnt.stamp s.stamp s.nexts) s.nexts a2∧Qa1 (fun _ (c:Cnt)=>1≤c.next) s.nexts a2⟩
 .lp L2 0 ⟨Nat.zero_le _,Qa1.zero _ _,Qa1.zero _ _⟩ [(5,aI 0)] [] ⟨sR,sO,trivial⟩ bb1 fun a2 ha2=>
 (fun (k:Nat) (hH2:k≤s.nexts.length∧Qa1 (Zad Cnt.stamp s.stamp s.nexts) s.nexts k∧Qa1 (fun _ (c:Cnt)=>1≤c.next) s.nexts k)=>.u 4 [b1]<|
 .lm 56 s.nexts cntA<|.r 1<|.bd 57 ((k:Int)<(s.nexts.length:Int)) (fun p7=>.u 3 [b1]<|
 .idxM s.nexts cntA k (m:=(k:Int)) rfl (by omega) fun x3 hx3=>
 have okx3:=oks.2.2.2.2 x3 (List.mem_of_getElem? hx3);.r 1<|.new fun b2=>.u 1 [b2]<|
 .ord [0,1,2,3,4,5,6,7,8,9,10,11,12,13,14,15,16,17,18,19,20,21,22,23,24,25,26,27,28,29,30]<|.u 4 [b2]<|
 .bd 68 (x3.stamp<1) (fun p8=>.r 27<|.r 1<|.f R [] (aB false) (by
  refine sF (fun h=>?_);obtain ⟨g1,g2,g3⟩:=h.2.1.2.at hx3;have g4:=h.2.2.1.at hx3
  first | omega ))
 <| fun p8=>.u 7 [b2,b1]<|
 .bd 75 (x3.stamp>s.stamp) (fun p9=>.r 20<|.r 1<|.f R [] (aB false) (by
  refine sF (fun h=>?_);obtain ⟨g1,g2,g3⟩:=h.2.1.2.at hx3;have g4:=h.2.2.1.at hx3
  first | omega ))
 <| fun p9=>.u 5 [b2]<|
 .bd 80 (x3.next<1) (fun p10=>.r 15<|.r 1<|.f R [] (aB false) (by
  refine sF (fun h=>?_);obtain ⟨g1,g2,g3⟩:=h.2.1.2.at hx3;have g4:=h.2.2.1.at hx3
  first | omega ))
 <| fun p10=>.r 3<|.bd 83 ((k:Int)>0) (fun p11=>.run 4 [b1=b1,rng .i64 ((k:Int)-1)] ⟨rfl,Qaj (by omega) (by omega),trivial⟩<|
 .idxM s.nexts cntA (k-1) (m:=(k:Int)-1) (by omega) (by omega) fun x4 hx4=>
 have okx4:=oks.2.2.2.2 x4 (List.mem_of_getElem? hx4);.u 7 [b2]<|
 .bd 95 (x4.stamp≥x3.stamp) (fun p12=>.r 1<|.f R [] (aB false) (by
  refine sF (fun h=>?_);obtain ⟨g1,g2,g3⟩:=h.2.1.2.at hx3;have g4:=h.2.2.1.at hx3
  first | omega | (have:=g3 _ (by omega) hx4;omega)))
 <| fun p12=>.run 3 [rng .i64 ((k:Int)+1)] ⟨Qaj (by omega) (by omega),trivial⟩<|
 .bk L2 k (k+1) ⟨by omega,hH2.2.1.step hx3 ⟨by omega,by omega,by intro d h0 hd;first | omega | (rw [hd] at hx4;obtain rfl:=Option.some.inj hx4;omega)⟩,hH2.2.2.step hx3 (by show 1≤x3.next;omega)⟩ (show s.nexts.length-(k+1)<s.nexts.length-k from (by omega)) [(5,aI ((k:Int)+1))] [] ⟨sR,sO,trivial⟩ bb1)
 <| fun p11=>.r 12<|.run 3 [rng .i64 ((k:Int)+1)] ⟨Qaj (by omega) (by omega),trivial⟩<|
 .bk L2 k (k+1) ⟨by omega,hH2.2.1.step hx3 ⟨by omega,by omega,by intro d h0 hd;omega⟩,hH2.2.2.step hx3 (by show 1≤x3.next;omega)⟩ (show s.nexts.length-(k+1)<s.nexts.length-k from (by omega)) [(5,aI ((k:Int)+1))] [] ⟨sR,sO,trivial⟩ bb1)
 <| fun p7=>.r 1<|.f R [] (aB true) (by exact sT ⟨by omega,⟨by omega,hH2.2.1.full (by omega)⟩,hH2.2.2.full (by omega),hH1.2.full (by omega)⟩)) a2 ha2) a1 ha1)
theorem Qrk (l:List Ver) (st:Int) (hl:l.length≤8796093022207):Qaf prog 93 [.sl 7 false (l.map verA),.val (.func (.func 154) #[] #[]),aI st] (aI ((cutV Ver.stamp st l:Int)-1)):=by
 exact Qac func93 (
 .r 1<|.r 2<|.lm 9 l verA<|.run 2 [rng .i64 ((l.length:Int)-1)] ⟨Qaj (by omega) (by omega),trivial⟩<|
 let L1:Lp (Nat):=⟨fun a1=>⟨[(0,.sl 7 false (l.map verA)),(1,.val (.func (.func 154) #[] #[])),(2,aI st),(7,aI ((a1:Int)-1))],[]⟩,fun a1=>a1,fun a1=>a1≤l.length∧∀ j y,a1≤j→l[j]?=some y→st<Ver.stamp y⟩
 .lp L1 l.length (show l.length≤l.length∧∀ j y,l.length≤j→l[j]?=some y→st<Ver.stamp y from (Zf5 _ _ _)) [] [] sr4 trivial fun a1 ha1=>
 (fun (k:Nat) (hH1:k≤l.length∧∀ j y,k≤j→l[j]?=some y→st<Ver.stamp y)=>.r 3<|.bd 13 (((k:Int)-1)≥0) (fun p1=>.r 3<|.idxM l verA (k-1) (m:=(k:Int)-1) (by omega) (by omega) fun x1 hx1=>
 .r 1<|.call (Zft x1)<|
 .r 3<|.bd 22 (x1.stamp>st) (fun p2=>.run 3 [rng .i64 (((k:Int)-1)-1)] ⟨Qaj (by omega) (by omega),trivial⟩<|
 .bk L1 k (k-1) (show (k-1)≤l.length∧∀ j y,(k-1)≤j→l[j]?=some y→st<Ver.stamp y from (Zf4 hx1 hH1.1 hH1.2 (by omega))) (show (k-1)<k from (by omega)) [(7,aI (((k:Int)-1)-1))] [] ⟨sR,sR,sR,sO,trivial⟩ trivial)
 <| fun p2=>.r 2<|.f (aI ((cutV Ver.stamp st l:Int)-1)) [] (aI ((k:Int)-1)) (by exact Sub.of_eq (by rw [Qg3 Ver.stamp st l k hH1.1 hH1.2 (.inr ⟨x1,hx1,by omega⟩)])))
 <| fun p1=>.r 9<|.r 2<|.f (aI ((cutV Ver.stamp st l:Int)-1)) [] (aI ((k:Int)-1)) (by exact Sub.of_eq (by rw [Qg3 Ver.stamp st l k hH1.1 hH1.2 (.inl (by omega))]))) a1 ha1)
theorem Qnu (l:List Cnt) (st:Int) (hl:l.length≤8796093022207):Qaf prog 94 [.sl 2 false (l.map cntA),.val (.func (.func 155) #[] #[]),aI st] (aI ((cutV Cnt.stamp st l:Int)-1)):=by
 exact Qac func94 (
 .r 1<|.r 2<|.lm 9 l cntA<|.run 2 [rng .i64 ((l.length:Int)-1)] ⟨Qaj (by omega) (by omega),trivial⟩<|
 let L1:Lp (Nat):=⟨fun a1=>⟨[(0,.sl 2 false (l.map cntA)),(1,.val (.func (.func 155) #[] #[])),(2,aI st),(7,aI ((a1:Int)-1))],[]⟩,fun a1=>a1,fun a1=>a1≤l.length∧∀ j y,a1≤j→l[j]?=some y→st<Cnt.stamp y⟩
 .lp L1 l.length (show l.length≤l.length∧∀ j y,l.length≤j→l[j]?=some y→st<Cnt.stamp y from (Zf5 _ _ _)) [] [] sr4 trivial fun a1 ha1=>
 (fun (k:Nat) (hH1:k≤l.length∧∀ j y,k≤j→l[j]?=some y→st<Cnt.stamp y)=>.r 3<|.bd 13 (((k:Int)-1)≥0) (fun p1=>.r 3<|.idxM l cntA (k-1) (m:=(k:Int)-1) (by omega) (by omega) fun x1 hx1=>
 .r 1<|.call (Zfs x1)<|
 .r 3<|.bd 22 (x1.stamp>st) (fun p2=>.run 3 [rng .i64 (((k:Int)-1)-1)] ⟨Qaj (by omega) (by omega),trivial⟩<|
 .bk L1 k (k-1) (show (k-1)≤l.length∧∀ j y,(k-1)≤j→l[j]?=some y→st<Cnt.stamp y from (Zf4 hx1 hH1.1 hH1.2 (by omega))) (show (k-1)<k from (by omega)) [(7,aI (((k:Int)-1)-1))] [] ⟨sR,sR,sR,sO,trivial⟩ trivial)
 <| fun p2=>.r 2<|.f (aI ((cutV Cnt.stamp st l:Int)-1)) [] (aI ((k:Int)-1)) (by exact Sub.of_eq (by rw [Qg3 Cnt.stamp st l k hH1.1 hH1.2 (.inr ⟨x1,hx1,by omega⟩)])))
 <| fun p1=>.r 9<|.r 2<|.f (aI ((cutV Cnt.stamp st l:Int)-1)) [] (aI ((k:Int)-1)) (by exact Sub.of_eq (by rw [Qg3 Cnt.stamp st l k hH1.1 hH1.2 (.inl (by omega))]))) a1 ha1)
theorem Qya (c:Chn) (st:Int) (hl:c.l.length≤8796093022207):Qaf prog 64 [.agg [aI c.ino,.sl 7 false (c.l.map verA)],aI st] (aI ((cutV Ver.stamp st c.l:Int)-1)):=by
 exact Qac func64 (
 .new fun b1=>.r 1<|.u 3 [b1]<|
 .lm 8 c.l verA<|.run 2 [rng .i64 ((c.l.length:Int)-1)] ⟨Qaj (by omega) (by omega),trivial⟩<|
 let L1:Lp (Nat):=⟨fun a1=>⟨[(1,aI st),(2,.ptr 2 b1 0),(5,aI ((a1:Int)-1))],[(2,.box b1 98 [aI c.ino,.sl 7 false (c.l.map verA)])]⟩,fun a1=>a1,fun a1=>a1≤c.l.length∧∀ j y,a1≤j→c.l[j]?=some y→st<Ver.stamp y⟩
 .lp L1 c.l.length (show c.l.length≤c.l.length∧∀ j y,c.l.length≤j→c.l[j]?=some y→st<Ver.stamp y from (Zf5 _ _ _)) [] [] sr3 bb1 fun a1 ha1=>
 (fun (k:Nat) (hH1:k≤c.l.length∧∀ j y,k≤j→c.l[j]?=some y→st<Ver.stamp y)=>.r 3<|.bd 12 (((k:Int)-1)≥0) (fun p1=>.u 3 [b1]<|
 .idxM c.l verA (k-1) (m:=(k:Int)-1) (by omega) (by omega) fun x1 hx1=>
 .r 5<|.bd 21 (x1.stamp>st) (fun p2=>.run 3 [rng .i64 (((k:Int)-1)-1)] ⟨Qaj (by omega) (by omega),trivial⟩<|
 .bk L1 k (k-1) (show (k-1)≤c.l.length∧∀ j y,(k-1)≤j→c.l[j]?=some y→st<Ver.stamp y from (Zf4 hx1 hH1.1 hH1.2 (by omega))) (show (k-1)<k from (by omega)) [(5,aI (((k:Int)-1)-1))] [] ⟨sR,sR,sO,trivial⟩ bb1)
 <| fun p2=>.r 2<|.f (aI ((cutV Ver.stamp st c.l:Int)-1)) [] (aI ((k:Int)-1)) (by exact Sub.of_eq (by rw [Qg3 Ver.stamp st c.l k hH1.1 hH1.2 (.inr ⟨x1,hx1,by omega⟩)])))
 <| fun p1=>.r 9<|.r 2<|.f (aI ((cutV Ver.stamp st c.l:Int)-1)) [] (aI ((k:Int)-1)) (by exact Sub.of_eq (by rw [Qg3 Ver.stamp st c.l k hH1.1 hH1.2 (.inl (by omega))]))) a1 ha1)
theorem Qyc (s:Sto) (st:Int) (hl:s.nexts.length≤8796093022207):Qaf prog 65 [.agg (stoA s),aI st] (aI ((cutV Cnt.stamp st s.nexts:Int)-1)):=by
 exact Qac func65 (
 .new fun b1=>.r 1<|.u 3 [b1]<|
 .lm 8 s.nexts cntA<|.run 2 [rng .i64 ((s.nexts.length:Int)-1)] ⟨Qaj (by omega) (by omega),trivial⟩<|
 let L1:Lp (Nat):=⟨fun a1=>⟨[(1,aI st),(2,.ptr 2 b1 0),(5,aI ((a1:Int)-1))],[(2,.box b1 25 (stoA s))]⟩,fun a1=>a1,fun a1=>a1≤s.nexts.length∧∀ j y,a1≤j→s.nexts[j]?=some y→st<Cnt.stamp y⟩
 .lp L1 s.nexts.length (show s.nexts.length≤s.nexts.length∧∀ j y,s.nexts.length≤j→s.nexts[j]?=some y→st<Cnt.stamp y from (Zf5 _ _ _)) [] [] sr3 bb1 fun a1 ha1=>
 (fun (k:Nat) (hH1:k≤s.nexts.length∧∀ j y,k≤j→s.nexts[j]?=some y→st<Cnt.stamp y)=>.r 3<|.bd 12 (((k:Int)-1)≥0) (fun p1=>.u 3 [b1]<|
 .idxM s.nexts cntA (k-1) (m:=(k:Int)-1) (by omega) (by omega) fun x1 hx1=>
 .r 5<|.bd 21 (x1.stamp>st) (fun p2=>.run 3 [rng .i64 (((k:Int)-1)-1)] ⟨Qaj (by omega) (by omega),trivial⟩<|
 .bk L1 k (k-1) (show (k-1)≤s.nexts.length∧∀ j y,(k-1)≤j→s.nexts[j]?=some y→st<Cnt.stamp y from (Zf4 hx1 hH1.1 hH1.2 (by omega))) (show (k-1)<k from (by omega)) [(5,aI (((k:Int)-1)-1))] [] ⟨sR,sR,sO,trivial⟩ bb1)
 <| fun p2=>.r 2<|.f (aI ((cutV Cnt.stamp st s.nexts:Int)-1)) [] (aI ((k:Int)-1)) (by exact Sub.of_eq (by rw [Qg3 Cnt.stamp st s.nexts k hH1.1 hH1.2 (.inr ⟨x1,hx1,by omega⟩)])))
 <| fun p1=>.r 9<|.r 2<|.f (aI ((cutV Cnt.stamp st s.nexts:Int)-1)) [] (aI ((k:Int)-1)) (by exact Sub.of_eq (by rw [Qg3 Cnt.stamp st s.nexts k hH1.1 hH1.2 (.inl (by omega))]))) a1 ha1)
theorem Qrc (s:Sto) (st:Int) (oks:OkS s) (hf:s.l.length≤100000):Qaf prog 52 [.agg (stoA s),aI st] (.agg (fsyA (Qd4 s st))):=by
 have hb1:=oks.2.1;have hb2:=oks.2.2.1;exact Qac func52 (
 .new fun b1=>.new fun b2=>.call (Qtv)<|
 .r 5<|.r 1<|.new fun b3=>.u 1 [b3]<|
 .rowNilB 100 7 0 84 5<|.u 3 [b1]<|
 .lm 19 s.l chnA<|.r 1<|let L1:Lp (Nat × Value):=⟨fun a1=>⟨[(1,aI st),(2,.ptr 2 b1 0),(4,.ptr 4 b2 0),(5,.val (.func (.func 154) #[] #[])),(6,.val (.func (.func 155) #[] #[])),(7,.ptr 7 b3 0),(18,.sl 2 false (s.l.map chnA)),(19,aI (s.l.length:Int)),(20,aI (a1.1:Int))],[(2,.box b1 25 (stoA s)),(4,.box b2 28 [aN,aI 0]),(7,.box b3 28 [.rw 100 a1.2 (((Qce s st a1.1).map nodA).length),aI 1]),(100,.row a1.2 84 5 ((Qce s st a1.1).map nodA))]⟩,fun a1=>s.l.length-a1.1,fun a1=>a1.1≤s.l.length⟩
 .lp L1 (0,.slice none 0 0) (show 0≤s.l.length from Nat.zero_le _) [(20,aI 0)] [(7,.box b3 28 [.rw 100 (.slice none 0 0) 0,aI 1]),(100,.row (.slice none 0 0) 84 5 ([]))] ⟨sR,sR,sR,sR,sR,sR,sR,sR,sO,trivial⟩ ⟨sB,sB,⟨_,rfl,SubB.boxs sr2⟩,sB,trivial⟩ fun a1 ha1=>
 (fun (k:Nat) (V:Value) (hH1:k≤s.l.length)=>.r 1<|.bd 21 ((k:Int)<(s.l.length:Int)) (fun p1=>.idxM s.l chnA k (m:=(k:Int)) rfl (by omega) fun x1 hx1=>
 have okx1:=oks.2.2.2.1 x1 (List.mem_of_getElem? hx1);have blx1:=okx1.2.1;.r 1<|.new fun b4=>.u 1 [b4]<|
 .u 4 [b4]<|
 .call (Qrk x1.l st (by omega))<|
 .r 1<|.r 3<|.bd 31 (((cutV Ver.stamp st x1.l:Int)-1)≥0) (fun p2=>.u 3 [b4]<|
 .idxM x1.l verA (cutV Ver.stamp st x1.l-1) (m:=(cutV Ver.stamp st x1.l:Int)-1) (by omega) (by have:=Qg2 Ver.stamp st x1.l;omega) fun x2 hx2=>
 have okx2:=okx1.2.2 x2 (List.mem_of_getElem? hx2);.r 4<|.br 39 (!x2.gone) (fun q3=>have q3:=notT q3;have p3:=booF q3;.ord [0,1,2,3,4,5,6,7,8,9,10,11]<|.u 5 [b3,b4]<|
 .idx (cutV Ver.stamp st x1.l-1) (m:=(cutV Ver.stamp st x1.l:Int)-1) (xs:=x1.l.map verA) (e:=verA x2) (by omega) (map_some hx2)<|
 .r 3<|.app 64 V ((Qce s st k).map nodA) ([(nodA x2.n)]) (by have:=Qlh s st k;simp only [List.length_map,List.length_cons,List.length_nil];omega) (by have:=Qlh s st k;simp only [List.length_map,List.length_cons,List.length_nil];omega) fun V1=>
 .u 2 [b3]<|
 .run 2 [rng .i64 ((k:Int)+1)] ⟨Qaj (by omega) (by omega),trivial⟩<|
 .bk L1 (k,V) ((k+1),V1) (show (k+1)≤s.l.length from (by show _≤_;omega)) (show s.l.length-(k+1)<s.l.length-k from (by omega)) [(20,aI ((k:Int)+1))] [(7,.box b3 28 [.rw 100 V1 (((Qce s st k).map nodA).length+([(nodA x2.n)]:List (List AV)).length),aI 1]),(100,.row V1 84 5 (((Qce s st k).map nodA)++([(nodA x2.n)])))] ⟨sR,sR,sR,sR,sR,sR,sR,sR,sO,trivial⟩ ⟨sB,sB,⟨_,rfl,SubB.boxs ⟨Sub.of_eq (by rw [Qi0 hx1 (show Qd5 st x1=some x2.n from by rw [Qe0 (by omega) hx2,q3];rfl)];simp),sR,trivial⟩⟩,⟨_,rfl,SubB.of_eq (by rw [Qi0 hx1 (show Qd5 st x1=some x2.n from by rw [Qe0 (by omega) hx2,q3];rfl)];simp [nodA])⟩,trivial⟩)
 <| fun q3=>have q3:=notF q3;have p3:=booT q3;.run 2 [rng .i64 ((k:Int)+1)] ⟨Qaj (by omega) (by omega),trivial⟩<|
 .bk L1 (k,V) ((k+1),V) (show (k+1)≤s.l.length from (by show _≤_;omega)) (show s.l.length-(k+1)<s.l.length-k from (by omega)) [(20,aI ((k:Int)+1))] [(7,.box b3 28 [.rw 100 V (((Qce s st k).map nodA).length),aI 1]),(100,.row V 84 5 ((Qce s st k).map nodA))] ⟨sR,sR,sR,sR,sR,sR,sR,sR,sO,trivial⟩ ⟨sB,sB,⟨_,rfl,SubB.boxs ⟨Sub.of_eq (by rw [Qe3 hx1 (show Qd5 st x1=none from by rw [Qe0 (by omega) hx2,q3];rfl)]),sR,trivial⟩⟩,⟨_,rfl,SubB.of_eq (by rw [Qe3 hx1 (show Qd5 st x1=none from by rw [Qe0 (by omega) hx2,q3];rfl)])⟩,trivial⟩)
 <| fun p2=>.r 8<|.run 2 [rng .i64 ((k:Int)+1)] ⟨Qaj (by omega) (by omega),trivial⟩<|
 .bk L1 (k,V) ((k+1),V) (show (k+1)≤s.l.length from (by show _≤_;omega)) (show s.l.length-(k+1)<s.l.length-k from (by omega)) [(20,aI ((k:Int)+1))] [(7,.box b3 28 [.rw 100 V (((Qce s st k).map nodA).length),aI 1]),(100,.row V 84 5 ((Qce s st k).map nodA))] ⟨sR,sR,sR,sR,sR,sR,sR,sR,sO,trivial⟩ ⟨sB,sB,⟨_,rfl,SubB.boxs ⟨Sub.of_eq (by rw [Qe3 hx1 (show Qd5 st x1=none from Qhc (by have:=Qg2 Ver.stamp st x1.l;omega))]),sR,trivial⟩⟩,⟨_,rfl,SubB.of_eq (by rw [Qe3 hx1 (show Qd5 st x1=none from Qhc (by have:=Qg2 Ver.stamp st x1.l;omega))])⟩,trivial⟩)
 <| fun p1=>.u 4 [b1]<|
 .call (Qnu s.nexts st (by omega))<|
 .r 1<|.r 2<|.bd 58 (((cutV Cnt.stamp st s.nexts:Int)-1)≥0) (fun p4=>.u 3 [b1]<|
 .idxM s.nexts cntA (cutV Cnt.stamp st s.nexts-1) (m:=(cutV Cnt.stamp st s.nexts:Int)-1) (by omega) (by have:=Qg2 Cnt.stamp st s.nexts;omega) fun x3 hx3=>
 have okx3:=oks.2.2.2.2 x3 (List.mem_of_getElem? hx3);.u 4 [b3]<|
 .u 2 [b3,b2]<|
 .frz 100 [4] [4] [V=V,((Qce s st k).map nodA).length=((Qce s st k).map nodA).length] ⟨rfl,(by first | rfl | (simp;done) | (simp;omega)),trivial⟩<|
 .f (.agg (fsyA (Qd4 s st))) [b2] (.agg [.sl 5 false ((Qce s st k).map nodA),aI x3.next]) (by exact Sub.aggs ⟨Sub.of_eq (by rw [Qi1 (by omega)];rfl),Sub.of_eq (congrArg aI (Qwj (by omega) hx3).symm),trivial⟩))
 <| fun p4=>.u 2 [b3,b2]<|
 .frz 100 [4] [4] [V=V,((Qce s st k).map nodA).length=((Qce s st k).map nodA).length] ⟨rfl,(by first | rfl | (simp;done) | (simp;omega)),trivial⟩<|
 .f (.agg (fsyA (Qd4 s st))) [b2] (.agg [.sl 5 false ((Qce s st k).map nodA),aI 1]) (by exact Sub.aggs ⟨Sub.of_eq (by rw [Qi1 (by omega)];rfl),Sub.of_eq (congrArg aI (Qos (by have:=Qg2 Cnt.stamp st s.nexts;omega)).symm),trivial⟩)) a1.1 a1.2 ha1)
theorem Qoe (s:Sto) (st:Int) (oks:OkS s) (hf:s.l.length≤100000):Qaf prog 39 [.agg (stoA s),aI st] (.agg (fsyA (Qd4 s st))):=by
 have hb1:=oks.2.1;have hb2:=oks.2.2.1;exact Qac func39 (
 .new fun b1=>.new fun b2=>.r 1<|.new fun b3=>.u 1 [b3]<|
 .rowNilB 100 5 0 84 5<|.r 1<|let L1:Lp (Nat × Value):=⟨fun a1=>⟨[(1,aI st),(2,.ptr 2 b1 0),(4,.ptr 4 b2 0),(5,.ptr 5 b3 0),(6,aI (a1.1:Int))],[(2,.box b1 25 (stoA s)),(4,.box b2 28 [aN,aI 0]),(5,.box b3 28 [.rw 100 a1.2 (((Qce s st a1.1).map nodA).length),aI 1]),(100,.row a1.2 84 5 ((Qce s st a1.1).map nodA))]⟩,fun a1=>s.l.length-a1.1,fun a1=>a1.1≤s.l.length⟩
 .lp L1 (0,.slice none 0 0) (show 0≤s.l.length from Nat.zero_le _) [(6,aI 0)] [(5,.box b3 28 [.rw 100 (.slice none 0 0) 0,aI 1]),(100,.row (.slice none 0 0) 84 5 ([]))] ⟨sR,sR,sR,sR,sO,trivial⟩ ⟨sB,sB,⟨_,rfl,SubB.boxs sr2⟩,sB,trivial⟩ fun a1 ha1=>
 (fun (k:Nat) (V:Value) (hH1:k≤s.l.length)=>.u 4 [b1]<|
 .lm 13 s.l chnA<|.r 1<|.bd 14 ((k:Int)<(s.l.length:Int)) (fun p1=>.u 3 [b1]<|
 .idxM s.l chnA k (m:=(k:Int)) rfl (by omega) fun x1 hx1=>
 have okx1:=oks.2.2.2.1 x1 (List.mem_of_getElem? hx1);have blx1:=okx1.2.1;.r 2<|.call (Qya x1 st (by omega))<|
 .r 1<|.r 3<|.bd 26 (((cutV Ver.stamp st x1.l:Int)-1)≥0) (fun p2=>.u 3 [b1]<|
 .idx k (m:=(k:Int)) (xs:=s.l.map chnA) (e:=chnA x1) rfl (map_some hx1)<|
 .r 3<|.idxM x1.l verA (cutV Ver.stamp st x1.l-1) (m:=(cutV Ver.stamp st x1.l:Int)-1) (by omega) (by have:=Qg2 Ver.stamp st x1.l;omega) fun x2 hx2=>
 have okx2:=okx1.2.2 x2 (List.mem_of_getElem? hx2);.r 4<|.br 38 (!x2.gone) (fun q3=>have q3:=notT q3;have p3:=booF q3;.ord [0,1,2,3,4,5,6,7,8,9,10,11,12,13,14,15]<|.u 5 [b3,b1]<|
 .idx k (m:=(k:Int)) (xs:=s.l.map chnA) (e:=chnA x1) rfl (map_some hx1)<|
 .r 3<|.idx (cutV Ver.stamp st x1.l-1) (m:=(cutV Ver.stamp st x1.l:Int)-1) (xs:=x1.l.map verA) (e:=verA x2) (by omega) (map_some hx2)<|
 .r 3<|.app 64 V ((Qce s st k).map nodA) ([(nodA x2.n)]) (by have:=Qlh s st k;simp only [List.length_map,List.length_cons,List.length_nil];omega) (by have:=Qlh s st k;simp only [List.length_map,List.length_cons,List.length_nil];omega) fun V1=>
 .u 2 [b3]<|
 .run 3 [rng .i64 ((k:Int)+1)] ⟨Qaj (by omega) (by omega),trivial⟩<|
 .bk L1 (k,V) ((k+1),V1) (show (k+1)≤s.l.length from (by show _≤_;omega)) (show s.l.length-(k+1)<s.l.length-k from (by omega)) [(6,aI ((k:Int)+1))] [(5,.box b3 28 [.rw 100 V1 (((Qce s st k).map nodA).length+([(nodA x2.n)]:List (List AV)).length),aI 1]),(100,.row V1 84 5 (((Qce s st k).map nodA)++([(nodA x2.n)])))] ⟨sR,sR,sR,sR,sO,trivial⟩ ⟨sB,sB,⟨_,rfl,SubB.boxs ⟨Sub.of_eq (by rw [Qi0 hx1 (show Qd5 st x1=some x2.n from by rw [Qe0 (by omega) hx2,q3];rfl)];simp),sR,trivial⟩⟩,⟨_,rfl,SubB.of_eq (by rw [Qi0 hx1 (show Qd5 st x1=some x2.n from by rw [Qe0 (by omega) hx2,q3];rfl)];simp [nodA])⟩,trivial⟩)
 <| fun q3=>have q3:=notF q3;have p3:=booT q3;.run 3 [rng .i64 ((k:Int)+1)] ⟨Qaj (by omega) (by omega),trivial⟩<|
 .bk L1 (k,V) ((k+1),V) (show (k+1)≤s.l.length from (by show _≤_;omega)) (show s.l.length-(k+1)<s.l.length-k from (by omega)) [(6,aI ((k:Int)+1))] [(5,.box b3 28 [.rw 100 V (((Qce s st k).map nodA).length),aI 1]),(100,.row V 84 5 ((Qce s st k).map nodA))] ⟨sR,sR,sR,sR,sO,trivial⟩ ⟨sB,sB,⟨_,rfl,SubB.boxs ⟨Sub.of_eq (by rw [Qe3 hx1 (show Qd5 st x1=none from by rw [Qe0 (by omega) hx2,q3];rfl)]),sR,trivial⟩⟩,⟨_,rfl,SubB.of_eq (by rw [Qe3 hx1 (show Qd5 st x1=none from by rw [Qe0 (by omega) hx2,q3];rfl)])⟩,trivial⟩)
 <| fun p2=>.r 12<|.run 3 [rng .i64 ((k:Int)+1)] ⟨Qaj (by omega) (by omega),trivial⟩<|
 .bk L1 (k,V) ((k+1),V) (show (k+1)≤s.l.length from (by show _≤_;omega)) (show s.l.length-(k+1)<s.l.length-k from (by omega)) [(6,aI ((k:Int)+1))] [(5,.box b3 28 [.rw 100 V (((Qce s st k).map nodA).length),aI 1]),(100,.row V 84 5 ((Qce s st k).map nodA))] ⟨sR,sR,sR,sR,sO,trivial⟩ ⟨sB,sB,⟨_,rfl,SubB.boxs ⟨Sub.of_eq (by rw [Qe3 hx1 (show Qd5 st x1=none from Qhc (by have:=Qg2 Ver.stamp st x1.l;omega))]),sR,trivial⟩⟩,⟨_,rfl,SubB.of_eq (by rw [Qe3 hx1 (show Qd5 st x1=none from Qhc (by have:=Qg2 Ver.stamp st x1.l;omega))])⟩,trivial⟩)
 <| fun p1=>.u 2 [b1]<|
 .call (Qyc s st (by omega))<|
 .r 1<|.r 2<|.bd 58 (((cutV Cnt.stamp st s.nexts:Int)-1)≥0) (fun p4=>.u 3 [b1]<|
 .idxM s.nexts cntA (cutV Cnt.stamp st s.nexts-1) (m:=(cutV Cnt.stamp st s.nexts:Int)-1) (by omega) (by have:=Qg2 Cnt.stamp st s.nexts;omega) fun x3 hx3=>
 have okx3:=oks.2.2.2.2 x3 (List.mem_of_getElem? hx3);.u 4 [b3]<|
 .u 2 [b3,b2]<|
 .frz 100 [4] [4] [V=V,((Qce s st k).map nodA).length=((Qce s st k).map nodA).length] ⟨rfl,(by first | rfl | (simp;done) | (simp;omega)),trivial⟩<|
 .f (.agg (fsyA (Qd4 s st))) [b2] (.agg [.sl 5 false ((Qce s st k).map nodA),aI x3.next]) (by exact Sub.aggs ⟨Sub.of_eq (by rw [Qi1 (by omega)];rfl),Sub.of_eq (congrArg aI (Qwj (by omega) hx3).symm),trivial⟩))
 <| fun p4=>.u 2 [b3,b2]<|
 .frz 100 [4] [4] [V=V,((Qce s st k).map nodA).length=((Qce s st k).map nodA).length] ⟨rfl,(by first | rfl | (simp;done) | (simp;omega)),trivial⟩<|
 .f (.agg (fsyA (Qd4 s st))) [b2] (.agg [.sl 5 false ((Qce s st k).map nodA),aI 1]) (by exact Sub.aggs ⟨Sub.of_eq (by rw [Qi1 (by omega)];rfl),Sub.of_eq (congrArg aI (Qos (by have:=Qg2 Cnt.stamp st s.nexts;omega)).symm),trivial⟩)) a1.1 a1.2 ha1)
theorem Zah (x:Ver) (st:Int):Qaf prog 111 [.agg (verA x),.dptr [aI st]] (aB (decide (x.stamp>st))):=by
 exact Qac func111 (let R:AV:=aB (decide (x.stamp>st));
 .new fun b1=>.r 1<|.u 5 [b1]<|
 .fi R [])
theorem Zc8 (l:List Ver) (st:Int) (hl:l.length≤8796093022207):Qaf prog 164 [.sl 7 false (l.map verA),.clo 111 [.dptr [aI st]]] (aI (idxF (fun (x:Ver)=>decide (x.stamp>st)) l)):=by
 exact Qac func164 (
 .r 1<|.r 2<|.lm 7 l verA<|.r 1<|let L1:Lp (Nat):=⟨fun a1=>⟨[(0,.sl 7 false (l.map verA)),(1,.clo 111 [.dptr [aI st]]),(7,aI (l.length:Int)),(8,aI (a1:Int))],[]⟩,fun a1=>l.length-a1,fun a1=>a1≤l.length∧Qa1 (fun _ x=>(fun (x:Ver)=>decide (x.stamp>st)) x=false) l a1⟩
 .lp L1 0 ⟨Nat.zero_le _,Qa1.zero _ _⟩ [(8,aI 0)] [] ⟨sR,sR,sR,sO,trivial⟩ trivial fun a1 ha1=>
 (fun (k:Nat) (hH1:k≤l.length∧Qa1 (fun _ x=>(fun (x:Ver)=>decide (x.stamp>st)) x=false) l k)=>.r 1<|.br 9 (decide ((k:Int)<(l.length:Int))) (fun q1=>have p1:=decT q1;.r 2<|.r 3<|.idxM l verA k (m:=(k:Int)) rfl (by omega) fun x1 hx1=>
 .r 1<|.call (Zah x1 st)<|
 .br 16 (decide (x1.stamp>st)) (fun q2=>have p2:=decT q2;.r 2<|.f (aI (idxF (fun (x:Ver)=>decide (x.stamp>st)) l)) [] (aI (k:Int)) (by exact Sub.of_eq (congrArg aI (Qu1 (fun (x:Ver)=>decide (x.stamp>st)) l k x1 hH1.2 hx1 (by assumption)).symm)))
 <| fun q2=>have p2:=decF q2;.run 2 [rng .i64 ((k:Int)+1)] ⟨Qaj (by omega) (by omega),trivial⟩<|
 .bk L1 k (k+1) ⟨by omega,hH1.2.step hx1 (by assumption)⟩ (show l.length-(k+1)<l.length-k from (by omega)) [(8,aI ((k:Int)+1))] [] ⟨sR,sR,sR,sO,trivial⟩ trivial)
 <| fun q1=>have p1:=decF q1;.r 1<|.f (aI (idxF (fun (x:Ver)=>decide (x.stamp>st)) l)) [] (aI (-1)) (by exact Sub.of_eq (congrArg aI (Qm3 (fun (x:Ver)=>decide (x.stamp>st)) l (hH1.2.full (by omega))).symm))) a1 ha1)
theorem Zep (l:List Ver) (st:Int) (hl:l.length≤8796093022207):Qaf prog 110 [.sl 7 false (l.map verA),.clo 111 [.dptr [aI st]]] (aB (l.any (fun (x:Ver)=>decide (x.stamp>st)))):=by
 exact Qac func110 (
 .r 1<|.r 2<|.call (Zc8 l st (by omega))<|
 .r 2<|.f (aB (l.any (fun (x:Ver)=>decide (x.stamp>st)))) [] (aB (decide ((idxF (fun (x:Ver)=>decide (x.stamp>st)) l)≥0))) (by exact Sub.of_eq (congrArg aB (Qqa (fun (x:Ver)=>decide (x.stamp>st)) l))))
theorem Zag (x:Cnt) (st:Int):Qaf prog 113 [.agg [aI x.stamp,aI x.next],.dptr [aI st]] (aB (decide (x.stamp>st))):=by
 exact Qac func113 (let R:AV:=aB (decide (x.stamp>st));
 .new fun b1=>.r 1<|.u 5 [b1]<|
 .fi R [])
theorem Zc7 (l:List Cnt) (st:Int) (hl:l.length≤8796093022207):Qaf prog 165 [.sl 2 false (l.map cntA),.clo 113 [.dptr [aI st]]] (aI (idxF (fun (x:Cnt)=>decide (x.stamp>st)) l)):=by
 exact Qac func165 (
 .r 1<|.r 2<|.lm 7 l cntA<|.r 1<|let L1:Lp (Nat):=⟨fun a1=>⟨[(0,.sl 2 false (l.map cntA)),(1,.clo 113 [.dptr [aI st]]),(7,aI (l.length:Int)),(8,aI (a1:Int))],[]⟩,fun a1=>l.length-a1,fun a1=>a1≤l.length∧Qa1 (fun _ x=>(fun (x:Cnt)=>decide (x.stamp>st)) x=false) l a1⟩
 .lp L1 0 ⟨Nat.zero_le _,Qa1.zero _ _⟩ [(8,aI 0)] [] ⟨sR,sR,sR,sO,trivial⟩ trivial fun a1 ha1=>
 (fun (k:Nat) (hH1:k≤l.length∧Qa1 (fun _ x=>(fun (x:Cnt)=>decide (x.stamp>st)) x=false) l k)=>.r 1<|.br 9 (decide ((k:Int)<(l.length:Int))) (fun q1=>have p1:=decT q1;.r 2<|.r 3<|.idxM l cntA k (m:=(k:Int)) rfl (by omega) fun x1 hx1=>
 .r 1<|.call (Zag x1 st)<|
 .br 16 (decide (x1.stamp>st)) (fun q2=>have p2:=decT q2;.r 2<|.f (aI (idxF (fun (x:Cnt)=>decide (x.stamp>st)) l)) [] (aI (k:Int)) (by exact Sub.of_eq (congrArg aI (Qu1 (fun (x:Cnt)=>decide (x.stamp>st)) l k x1 hH1.2 hx1 (by assumption)).symm)))
 <| fun q2=>have p2:=decF q2;.run 2 [rng .i64 ((k:Int)+1)] ⟨Qaj (by omega) (by omega),trivial⟩<|
 .bk L1 k (k+1) ⟨by omega,hH1.2.step hx1 (by assumption)⟩ (show l.length-(k+1)<l.length-k from (by omega)) [(8,aI ((k:Int)+1))] [] ⟨sR,sR,sR,sO,trivial⟩ trivial)
 <| fun q1=>have p1:=decF q1;.r 1<|.f (aI (idxF (fun (x:Cnt)=>decide (x.stamp>st)) l)) [] (aI (-1)) (by exact Sub.of_eq (congrArg aI (Qm3 (fun (x:Cnt)=>decide (x.stamp>st)) l (hH1.2.full (by omega))).symm))) a1 ha1)
theorem Zeo (l:List Cnt) (st:Int) (hl:l.length≤8796093022207):Qaf prog 112 [.sl 2 false (l.map cntA),.clo 113 [.dptr [aI st]]] (aB (l.any (fun (x:Cnt)=>decide (x.stamp>st)))):=by
 exact Qac func112 (
 .r 1<|.r 2<|.call (Zc7 l st (by omega))<|
 .r 2<|.f (aB (l.any (fun (x:Cnt)=>decide (x.stamp>st)))) [] (aB (decide ((idxF (fun (x:Cnt)=>decide (x.stamp>st)) l)≥0))) (by exact Sub.of_eq (congrArg aB (Qqa (fun (x:Cnt)=>decide (x.stamp>st)) l))))
theorem Qx4 (s:Sto) (st:Int) (oks:OkS s) (hf:s.l.length≤100000):Qaf prog 62 [.agg (stoA s),aI st] (.sl 1 false ((Qdc s st).map intA)):=by
 have hb1:=oks.2.1;have hb2:=oks.2.2.1;exact Qac func62 (
 .new fun b1=>.new fun b2=>.r 1<|.frz 3 [2,3,4] [2] [b2=b2] rt1<|
 .litN fun V1=>.r 1<|.u 3 [b1]<|
 .lm 11 s.l chnA<|.r 1<|let L1:Lp (Nat × Value):=⟨fun a1=>⟨[(2,.ptr 2 b1 0),(3,.dptr [aI st]),(10,.sl 2 false (s.l.map chnA)),(11,aI (s.l.length:Int)),(5,.rw 8 a1.2 (1+(Qb1 s st a1.1).length)),(12,aI (a1.1:Int))],[(2,.box b1 25 (stoA s)),(8,.row a1.2 3 1 ([aI 0] :: (Qb1 s st a1.1).map intA))]⟩,fun a1=>s.l.length-a1.1,fun a1=>a1.1≤s.l.length⟩
 .lp L1 (0,V1) (show 0≤s.l.length from Nat.zero_le _) [(5,.rw 8 V1 1),(12,aI 0)] [(8,.row V1 3 1 ([[aI 0]]))] ⟨sR,sR,sR,sR,sR,sO,trivial⟩ bb2 fun a1 ha1=>
 (fun (k:Nat) (V:Value) (hH1:k≤s.l.length)=>.r 1<|.br 13 (decide ((k:Int)<(s.l.length:Int))) (fun q1=>have p1:=decT q1;.idxM s.l chnA k (m:=(k:Int)) rfl (by omega) fun x1 hx1=>
 have okx1:=oks.2.2.2.1 x1 (List.mem_of_getElem? hx1);have blx1:=okx1.2.1;.r 1<|.new fun b3=>.u 1 [b3]<|
 .u 3 [b3]<|
 .call (Zep x1.l st (by omega))<|
 .br 19 (Qoy st x1) (fun q2=>have p2:=booT q2;.u 4 [b3]<|
 .app 8 V ([aI 0] :: (Qb1 s st k).map intA) ([[aI x1.ino]]) (by have:=Qmv s st k;simp only [List.length_map,List.length_cons,List.length_nil];omega) (by have:=Qmv s st k;simp only [List.length_map,List.length_cons,List.length_nil];omega) fun V2=>
 .r 1<|.run 2 [rng .i64 ((k:Int)+1)] ⟨Qaj (by omega) (by omega),trivial⟩<|
 .bk L1 (k,V) ((k+1),V2) (show (k+1)≤s.l.length from (by show _≤_;omega)) (show s.l.length-(k+1)<s.l.length-k from (by omega)) [(5,.rw 8 V2 (([aI 0] :: (Qb1 s st k).map intA).length+([[aI x1.ino]]:List (List AV)).length)),(12,aI ((k:Int)+1))] [(8,.row V2 3 1 (([aI 0] :: (Qb1 s st k).map intA)++([[aI x1.ino]])))] ⟨sR,sR,sR,sR,Sub.of_eq (congrArg (AV.rw 8 V2) (by rw [Qox hx1 q2];simp;try omega)),sO,trivial⟩ ⟨sB,⟨_,rfl,SubB.of_eq (by rw [Qox hx1 q2];simp [intA])⟩,trivial⟩)
 <| fun q2=>have p2:=booF q2;.run 2 [rng .i64 ((k:Int)+1)] ⟨Qaj (by omega) (by omega),trivial⟩<|
 .bk L1 (k,V) ((k+1),V) (show (k+1)≤s.l.length from (by show _≤_;omega)) (show s.l.length-(k+1)<s.l.length-k from (by omega)) [(5,.rw 8 V (1+(Qb1 s st k).length)),(12,aI ((k:Int)+1))] [(8,.row V 3 1 ([aI 0] :: (Qb1 s st k).map intA))] ⟨sR,sR,sR,sR,Sub.of_eq (congrArg (AV.rw 8 V) (by rw [Qr8 hx1 q2])),sO,trivial⟩ ⟨sB,⟨_,rfl,SubB.of_eq (by rw [Qr8 hx1 q2])⟩,trivial⟩)
 <| fun q1=>have p1:=decF q1;.r 4<|.br 29 (decide ((1+(Qb1 s st k).length:Int)>1)) (fun q3=>have p3:=decT q3;.r 5<|.r 2<|.frz 8 [4] [] [V=V,1+(Qb1 s st k).length=([aI 0] :: (Qb1 s st k).map intA).length] ⟨rfl,(by first | rfl | (simp;done) | (simp;omega)),trivial⟩<|
 .f (.sl 1 false ((Qdc s st).map intA)) [] (.sl 1 false ([aI 0] :: (Qb1 s st k).map intA)) (by
  refine Sub.of_eq ?_;have e:=Qkj (s:=s) (st:=st) (by omega:s.l.length≤k);rw [show Qdc s st=0 :: Qb1 s st k from by unfold Qdc;rw [if_pos (by rw [← e];first | exact .inl (by omega) | exact .inr (by assumption)),e]];rfl))
 <| fun q3=>have p3:=decF q3;.u 3 [b1]<|
 .call (Zeo s.nexts st (by omega))<|
 .r 1<|.br 34 (Zg5 s st) (fun q4=>have p4:=booT q4;.r 2<|.frz 8 [4] [] [V=V,1+(Qb1 s st k).length=([aI 0] :: (Qb1 s st k).map intA).length] ⟨rfl,(by first | rfl | (simp;done) | (simp;omega)),trivial⟩<|
 .f (.sl 1 false ((Qdc s st).map intA)) [] (.sl 1 false ([aI 0] :: (Qb1 s st k).map intA)) (by
  refine Sub.of_eq ?_;have e:=Qkj (s:=s) (st:=st) (by omega:s.l.length≤k);rw [show Qdc s st=0 :: Qb1 s st k from by unfold Qdc;rw [if_pos (by rw [← e];first | exact .inl (by omega) | exact .inr (by assumption)),e]];rfl))
 <| fun q4=>have p4:=booF q4;.r 1<|.f (.sl 1 false ((Qdc s st).map intA)) [] aN (by
  rw [show Qdc s st=[] from by unfold Qdc;rw [if_neg (by rw [← Qkj (by omega:s.l.length≤k)];rintro (h | h)<;>first | omega | simp_all)]];exact Sub.nil _ _)) a1.1 a1.2 ha1)
end Go.Proofs.YtahlldgocpabjaaGreat
