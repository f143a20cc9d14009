import Derived.Test.YtahlldgocpabjaaGreatAl
import Derived.Test.YtahlldgocpabjaaGreatMrgAA
set_option maxRecDepth 100000
set_option maxHeartbeats 8000000
set_option linter.unusedVariables false
set_option linter.unusedSimpArgs false
namespace Go.Proofs.YtahlldgocpabjaaGreat
open Go Go.RowKit Copyhold Go.Proofs.Tryz
theorem Za7 (s:Sto) (st:Int) (oks:OkS s) (hf:s.l.length≤100000):Qai prog 62 [.agg (stoA s),aI st] (.sl 1 false ((Qbu s st).map intA)):=by
 have hb1:=oks.2.1;have hb2:=oks.2.2.1;exact Qae func62 (
 .new fun b1=>.new fun b2=>.r 1<|.frz 3 [2,3,4] [2] [b2=b2] rt1<|
 .litN fun V1=>.r 1<|.u 3 [b1]<|
 .lm 11 s.l chnA<|.r 1<|let L1:Lp (Nat × Value):=⟨fun a1=>⟨[(2,.ptr 2 b1 0),(3,.dptr [aI st]),(10,.sl 2 false (s.l.map chnA)),(11,aI (s.l.length:Int)),(5,.rw 8 a1.2 (1+(Qbg s st a1.1).length)),(12,aI (a1.1:Int))],[(2,.box b1 25 (stoA s)),(8,.row a1.2 3 1 ([aI 0] :: (Qbg s st a1.1).map intA))]⟩,fun a1=>s.l.length-a1.1,fun a1=>a1.1≤s.l.length⟩
 .lp L1 (0,V1) (show 0≤s.l.length from W0j _) [(5,.rw 8 V1 1),(12,aI 0)] [(8,.row V1 3 1 ([[aI 0]]))] ⟨sR,sR,sR,sR,sR,sO,trivial⟩ bb2 fun a1 ha1=>
 (fun (k:Nat) (V:Value) (hH1:k≤s.l.length)=>.r 1<|.br 13 (decide ((k:Int)<(s.l.length:Int))) (fun q1=>have p1:=decT q1;.idxM s.l chnA k (m:=(k:Int)) rfl (by omega) fun x1 hx1=>
 have okx1:=oks.2.2.2.1 x1 (W0h hx1);have blx1:=okx1.2.1;.r 1<|.new fun b3=>.u 1 [b3]<|
 .u 3 [b3]<|
 .call (Zhv x1.l st (by omega))<|
 .br 19 (Qe3 st x1) (fun q2=>have p2:=booT q2;.u 4 [b3]<|
 .app 8 V ([aI 0] :: (Qbg s st k).map intA) ([[aI x1.ino]]) (by have:=Qic s st k;simp only [W0a,W0b,W0f];omega) (by have:=Qic s st k;simp only [W0a,W0b,W0f];omega) fun V2=>
 .r 1<|.run 2 [rng .i64 ((k:Int)+1)] ⟨Qah,trivial⟩<|
 .bk L1 (k,V) ((k+1),V2) (show (k+1)≤s.l.length from (by show _≤_;omega)) (show s.l.length-(k+1)<s.l.length-k from (by omega)) [(5,.rw 8 V2 (([aI 0] :: (Qbg s st k).map intA).length+([[aI x1.ino]]:List (List AV)).length)),(12,aI ((k:Int)+1))] [(8,.row V2 3 1 (([aI 0] :: (Qbg s st k).map intA)++([[aI x1.ino]])))] ⟨sR,sR,sR,sR,W2p (W1z (AV.rw 8 V2) (by rw [Qgu hx1 q2];simp;try omega)),sO,trivial⟩ ⟨sB,⟨_,rfl,W2q (by rw [Qgu hx1 q2];simp [intA])⟩,trivial⟩)
 <| fun q2=>have p2:=booF q2;.run 2 [rng .i64 ((k:Int)+1)] ⟨Qah,trivial⟩<|
 .bk L1 (k,V) ((k+1),V) (show (k+1)≤s.l.length from (by show _≤_;omega)) (show s.l.length-(k+1)<s.l.length-k from (by omega)) [(5,.rw 8 V (1+(Qbg s st k).length)),(12,aI ((k:Int)+1))] [(8,.row V 3 1 ([aI 0] :: (Qbg s st k).map intA))] ⟨sR,sR,sR,sR,W2p (W1z (AV.rw 8 V) (by rw [Qib hx1 q2])),sO,trivial⟩ ⟨sB,⟨_,rfl,W2q (by rw [Qib hx1 q2])⟩,trivial⟩)
 <| fun q1=>have p1:=decF q1;.r 4<|.br 29 (decide ((1+(Qbg s st k).length:Int)>1)) (fun q3=>have p3:=decT q3;.r 5<|.r 2<|.frz 8 [4] [] [V=V,1+(Qbg s st k).length=([aI 0] :: (Qbg s st k).map intA).length] ⟨rfl,(by first | rfl | (simp;done) | (simp;omega)),trivial⟩<|
 .f (.sl 1 false ((Qbu s st).map intA)) [] (.sl 1 false ([aI 0] :: (Qbg s st k).map intA)) (by
  refine W2p ?_;have e:=Qfc (s:=s) (st:=st) (by omega:s.l.length≤k);rw [show Qbu s st=0 :: Qbg s st k from by unfold Qbu;rw [W1y (by rw [← e];first | exact .inl (by omega) | exact .inr (by assumption)),e]];rfl))
 <| fun q3=>have p3:=decF q3;.u 3 [b1]<|
 .call (Zhu s.nexts st (by omega))<|
 .r 1<|.br 34 (Quf s st) (fun q4=>have p4:=booT q4;.r 2<|.frz 8 [4] [] [V=V,1+(Qbg s st k).length=([aI 0] :: (Qbg s st k).map intA).length] ⟨rfl,(by first | rfl | (simp;done) | (simp;omega)),trivial⟩<|
 .f (.sl 1 false ((Qbu s st).map intA)) [] (.sl 1 false ([aI 0] :: (Qbg s st k).map intA)) (by
  refine W2p ?_;have e:=Qfc (s:=s) (st:=st) (by omega:s.l.length≤k);rw [show Qbu s st=0 :: Qbg s st k from by unfold Qbu;rw [W1y (by rw [← e];first | exact .inl (by omega) | exact .inr (by assumption)),e]];rfl))
 <| fun q4=>have p4:=booF q4;.r 1<|.f (.sl 1 false ((Qbu s st).map intA)) [] aN (by
  rw [show Qbu s st=[] from by unfold Qbu;rw [W1x (by rw [← Qfc (by omega:s.l.length≤k)];rintro (h | h)<;>first | omega | simp_all)]];exact Sub.nil _ _)) a1.1 a1.2 ha1)
theorem Qi9 {st:Int} {c:Chn} {j:Nat} {la v:Bool} (h1:j≤c.l.length) (h2:la=(c.l.take j).any (fun v=>decide (v.stamp>st))) (h3:¬ (j:Int)<c.l.length) (q:la=v):Qe3 st c=v:=by
 rw [Qat (by omega)] at h2;rw [← q,h2];rfl
theorem Qxk {st:Int} {c:Chn} {j:Nat} {la:Bool} {x:Ver} (hx:c.l[j]?=some x) (h2:la=(c.l.take j).any (fun v=>decide (v.stamp>st))) (q:la=false):j+1≤c.l.length∧decide (x.stamp>st)=(c.l.take (j+1)).any (fun v=>decide (v.stamp>st)):=by
 refine ⟨Qap hx,?_⟩;rw [Qm8 hx,← h2,q,W0u]
theorem Qxj {st:Int} {c:Chn} {j:Nat} {la:Bool} (hj:j<c.l.length) (h2:la=(c.l.take j).any (fun v=>decide (v.stamp>st))) (q:la=true):j+1≤c.l.length∧true=(c.l.take (j+1)).any (fun v=>decide (v.stamp>st)):=by
 obtain ⟨x,hx⟩:=Qdt hj;refine ⟨hj,?_⟩;rw [Qm8 hx,← h2,q,W02]
theorem Zb5 {s:Sto} {st:Int} {j:Nat} {mp b:Bool} {x:Cnt} (hx:s.nexts[j]?=some x) (h2:mp=(b||(s.nexts.take j).any (fun c=>decide (c.stamp>st)))) (q:mp=false):j+1≤s.nexts.length∧decide (x.stamp>st)=(b||(s.nexts.take (j+1)).any (fun c=>decide (c.stamp>st))):=by
 refine ⟨Qap hx,?_⟩;rw [Qm8 hx,← Bool.or_assoc,← h2,q,W0u]
theorem Zfo {s:Sto} {st:Int} {j:Nat} {mp b:Bool} (h2:mp=(b||(s.nexts.take j).any (fun c=>decide (c.stamp>st)))) (hj:j<s.nexts.length) (q:mp=true):j+1≤s.nexts.length∧true=(b||(s.nexts.take (j+1)).any (fun c=>decide (c.stamp>st))):=by
 obtain ⟨x,hx⟩:=Qdt hj;refine ⟨hj,?_⟩;rw [Qm8 hx,← Bool.or_assoc,← h2,q,W02]
theorem Qwj (s:Sto) (st:Int) (oks:OkS s) (hf:s.l.length≤100000):Qai prog 63 [.agg (stoA s),aI st] (.sl 1 false ((Qbu s st).map intA)):=by
 have hb1:=oks.2.1;have hb2:=oks.2.2.1;exact Qae func63 (
 .new fun b1=>.r 1<|.litN fun V1=>.r 1<|.r 1<|.r 1<|let L1:Lp (Nat × Value × Bool):=⟨fun a1=>⟨[(1,aI st),(2,.ptr 2 b1 0),(7,aI (a1.1:Int)),(5,.rw 11 a1.2.1 (1+(Qbg s st a1.1).length)),(6,aB a1.2.2)],[(2,.box b1 25 (stoA s)),(11,.row a1.2.1 3 1 ([aI 0] :: (Qbg s st a1.1).map intA))]⟩,fun a1=>s.l.length-a1.1,fun a1=>a1.1≤s.l.length∧a1.2.2=decide (1≤(Qbg s st a1.1).length)⟩
 .lp L1 (0,V1,false) ⟨W0j _,rfl⟩ [(7,aI 0),(5,.rw 11 V1 1)] [(11,.row V1 3 1 ([[aI 0]]))] ⟨sR,sR,sO,sR,sR,trivial⟩ bb2 fun a1 ha1=>
 (fun (k:Nat) (V:Value) (mo:Bool) (hH1:k≤s.l.length∧mo=decide (1≤(Qbg s st k).length))=>.u 4 [b1]<|
 .lm 15 s.l chnA<|.r 1<|.bd 16 ((k:Int)<(s.l.length:Int)) (fun p1=>.r 1<|.r 1<|.ex (Qdt (l:=s.l) (k:=k) (by omega)) fun x1 hx1=>
 have okx1:=oks.2.2.2.1 x1 (W0h hx1);have blx1:=okx1.2.1;let L2:Lp (Nat × Bool):=⟨fun a2=>⟨[(1,aI st),(2,.ptr 2 b1 0),(7,aI (k:Int)),(5,.rw 11 V (1+(Qbg s st k).length)),(6,aB mo),(9,aI (a2.1:Int)),(8,aB a2.2)],[(2,.box b1 25 (stoA s)),(11,.row V 3 1 ([aI 0] :: (Qbg s st k).map intA))]⟩,fun a2=>x1.l.length-a2.1,fun a2=>a2.1≤x1.l.length∧a2.2=(x1.l.take a2.1).any (fun v=>decide (v.stamp>st))⟩
 .lp L2 (0,false) ⟨W0j _,rfl⟩ [(9,aI 0)] [] ⟨sR,sR,sR,sR,sR,sO,sR,trivial⟩ bb2 fun a2 ha2=>
 (fun (j:Nat) (la:Bool) (hH2:j≤x1.l.length∧la=(x1.l.take j).any (fun v=>decide (v.stamp>st)))=>.u 4 [b1]<|
 .idx k (m:=(k:Int)) (xs:=s.l.map chnA) (e:=chnA x1) rfl (map_some hx1)<|
 .r 3<|.lm 26 x1.l verA<|.r 1<|.bd 27 ((j:Int)<(x1.l.length:Int)) (fun p2=>.r 2<|.br 31 (la) (fun q3=>have p3:=booT q3;.r 14<|.run 3 [rng .i64 ((j:Int)+1)] ⟨Qah,trivial⟩<|
 .bk L2 (j,la) ((j+1),true) (show (j+1)≤x1.l.length∧true=(x1.l.take (j+1)).any (fun v=>decide (v.stamp>st)) from (Qxj (by omega) hH2.2 q3)) (show x1.l.length-(j+1)<x1.l.length-j from (by omega)) [(9,aI ((j:Int)+1))] [] ⟨sR,sR,sR,sR,sR,sO,sR,trivial⟩ bb2)
 <| fun q3=>have p3:=booF q3;.u 3 [b1]<|
 .idx k (m:=(k:Int)) (xs:=s.l.map chnA) (e:=chnA x1) rfl (map_some hx1)<|
 .r 3<|.idxM x1.l verA j (m:=(j:Int)) rfl (by omega) fun x2 hx2=>
 have okx2:=okx1.2.2 x2 (W0h hx2);.r 6<|.run 3 [rng .i64 ((j:Int)+1)] ⟨Qah,trivial⟩<|
 .bk L2 (j,la) ((j+1),decide (x2.stamp>st)) (show (j+1)≤x1.l.length∧(decide (x2.stamp>st))=(x1.l.take (j+1)).any (fun v=>decide (v.stamp>st)) from (Qxk hx2 hH2.2 q3)) (show x1.l.length-(j+1)<x1.l.length-j from (by omega)) [(9,aI ((j:Int)+1))] [] ⟨sR,sR,sR,sR,sR,sO,sR,trivial⟩ bb2)
 <| fun p2=>.r 1<|.br 45 (la) (fun q4=>have p4:=booT q4;.u 4 [b1]<|
 .idx k (m:=(k:Int)) (xs:=s.l.map chnA) (e:=chnA x1) rfl (map_some hx1)<|
 .r 3<|.app 8 V ([aI 0] :: (Qbg s st k).map intA) ([[aI x1.ino]]) (by have:=Qic s st k;simp only [W0a,W0b,W0f];omega) (by have:=Qic s st k;simp only [W0a,W0b,W0f];omega) fun V2=>
 .r 1<|.r 1<|.run 3 [rng .i64 ((k:Int)+1)] ⟨Qah,trivial⟩<|
 .bk L1 (k,V,mo) ((k+1),V2,true) ⟨by omega,by rw [Qgu hx1 ((Qi9 hH2.1 hH2.2 (by omega) q4:Qe3 st x1=true))];simp⟩ (show s.l.length-(k+1)<s.l.length-k from (by omega)) [(7,aI ((k:Int)+1)),(5,.rw 11 V2 (([aI 0] :: (Qbg s st k).map intA).length+([[aI x1.ino]]:List (List AV)).length))] [(11,.row V2 3 1 (([aI 0] :: (Qbg s st k).map intA)++([[aI x1.ino]])))] ⟨sR,sR,sO,W2p (W1z (AV.rw 11 V2) (by rw [Qgu hx1 ((Qi9 hH2.1 hH2.2 (by omega) q4:Qe3 st x1=true))];simp;try omega)),sR,trivial⟩ ⟨sB,⟨_,rfl,W2q (by rw [Qgu hx1 ((Qi9 hH2.1 hH2.2 (by omega) q4:Qe3 st x1=true))];simp [intA])⟩,trivial⟩)
 <| fun q4=>have p4:=booF q4;.run 3 [rng .i64 ((k:Int)+1)] ⟨Qah,trivial⟩<|
 .bk L1 (k,V,mo) ((k+1),V,mo) ⟨by omega,by rw [Qib hx1 ((Qi9 hH2.1 hH2.2 (by omega) q4:Qe3 st x1=false))];exact hH1.2⟩ (show s.l.length-(k+1)<s.l.length-k from (by omega)) [(7,aI ((k:Int)+1)),(5,.rw 11 V (1+(Qbg s st k).length))] [(11,.row V 3 1 ([aI 0] :: (Qbg s st k).map intA))] ⟨sR,sR,sO,W2p (W1z (AV.rw 11 V) (by rw [Qib hx1 ((Qi9 hH2.1 hH2.2 (by omega) q4:Qe3 st x1=false))])),sR,trivial⟩ ⟨sB,⟨_,rfl,W2q (by rw [Qib hx1 ((Qi9 hH2.1 hH2.2 (by omega) q4:Qe3 st x1=false))])⟩,trivial⟩) a2.1 a2.2 ha2)
 <| fun p1=>.r 1<|let L3:Lp (Nat × Bool):=⟨fun a3=>⟨[(1,aI st),(2,.ptr 2 b1 0),(5,.rw 11 V (1+(Qbg s st k).length)),(10,aI (a3.1:Int)),(6,aB a3.2)],[(2,.box b1 25 (stoA s)),(11,.row V 3 1 ([aI 0] :: (Qbg s st k).map intA))]⟩,fun a3=>s.nexts.length-a3.1,fun a3=>a3.1≤s.nexts.length∧a3.2=(decide (1≤(Qbg s st s.l.length).length)||(s.nexts.take a3.1).any (fun c=>decide (c.stamp>st)))⟩
 .lp L3 (0,mo) ⟨W0j _,by rw [hH1.2,Qfc (by omega)];simp⟩ [(10,aI 0)] [] ⟨sR,sR,sR,sO,sR,trivial⟩ bb2 fun a3 ha3=>
 (fun (j:Nat) (mp:Bool) (hH3:j≤s.nexts.length∧mp=(decide (1≤(Qbg s st s.l.length).length)||(s.nexts.take j).any (fun c=>decide (c.stamp>st))))=>.u 4 [b1]<|
 .lm 58 s.nexts cntA<|.r 1<|.bd 59 ((j:Int)<(s.nexts.length:Int)) (fun p5=>.r 2<|.br 63 (mp) (fun q6=>have p6:=booT q6;.r 10<|.run 3 [rng .i64 ((j:Int)+1)] ⟨Qah,trivial⟩<|
 .bk L3 (j,mp) ((j+1),true) (show (j+1)≤s.nexts.length∧true=(decide (1≤(Qbg s st s.l.length).length)||(s.nexts.take (j+1)).any (fun c=>decide (c.stamp>st))) from (Zfo hH3.2 (by omega) q6)) (show s.nexts.length-(j+1)<s.nexts.length-j from (by omega)) [(10,aI ((j:Int)+1))] [] ⟨sR,sR,sR,sO,sR,trivial⟩ bb2)
 <| fun q6=>have p6:=booF q6;.u 3 [b1]<|
 .idxM s.nexts cntA j (m:=(j:Int)) rfl (by omega) fun x3 hx3=>
 have okx3:=oks.2.2.2.2 x3 (W0h hx3);.r 6<|.run 3 [rng .i64 ((j:Int)+1)] ⟨Qah,trivial⟩<|
 .bk L3 (j,mp) ((j+1),decide (x3.stamp>st)) (show (j+1)≤s.nexts.length∧(decide (x3.stamp>st))=(decide (1≤(Qbg s st s.l.length).length)||(s.nexts.take (j+1)).any (fun c=>decide (c.stamp>st))) from (Zb5 hx3 hH3.2 q6)) (show s.nexts.length-(j+1)<s.nexts.length-j from (by omega)) [(10,aI ((j:Int)+1))] [] ⟨sR,sR,sR,sO,sR,trivial⟩ bb2)
 <| fun p5=>.r 2<|.br 74 (!mp) (fun q7=>have q7:=notT q7;have p7:=booF q7;.r 1<|.f (.sl 1 false ((Qbu s st).map intA)) [] aN (by
  have e:Quf s st=(s.nexts.take j).any (fun c=>decide (c.stamp>st)):=by rw [Qat (by omega)];rfl
  have e2:=Qfc (s:=s) (st:=st) (by omega:s.l.length≤k);have e3:=hH3.2;rw [q7,← e] at e3;rw [show Qbu s st=[] from by unfold Qbu;rw [W1x (by rintro (h | h)<;>simp_all)]];exact Sub.nil _ _))
 <| fun q7=>have q7:=notF q7;have p7:=booT q7;.r 2<|.frz 11 [4] [] [V=V,1+(Qbg s st k).length=([aI 0] :: (Qbg s st k).map intA).length] ⟨rfl,(by first | rfl | (simp;done) | (simp;omega)),trivial⟩<|
 .f (.sl 1 false ((Qbu s st).map intA)) [] (.sl 1 false ([aI 0] :: (Qbg s st k).map intA)) (by
  have e:Quf s st=(s.nexts.take j).any (fun c=>decide (c.stamp>st)):=by rw [Qat (by omega)];rfl
  have e2:=Qfc (s:=s) (st:=st) (by omega:s.l.length≤k);have e3:=hH3.2;rw [q7,← e] at e3;refine W2p ?_;rw [show Qbu s st=0 :: Qbg s st k from by unfold Qbu;rw [e2,W1y (by have:=e3.symm;simpa using this)]];rfl)) a3.1 a3.2 ha3) a1.1 a1.2.1 a1.2.2 ha1)
theorem ver_eq {x y:Ver} (h1:x.stamp=y.stamp) (h2:x.gone=y.gone) (h3:x.n=y.n):x=y:=by cases x;cases y;simp_all
theorem chn_eq {x y:Chn} (h1:x.ino=y.ino) (h2:x.l=y.l):x=y:=by cases x;cases y;simp_all
theorem cnt_eq {x y:Cnt} (h1:x.stamp=y.stamp) (h2:x.next=y.next):x=y:=by cases x;cases y;simp_all
theorem sto_eq {x y:Sto} (h1:x.l=y.l) (h2:x.nexts=y.nexts) (h3:x.stamp=y.stamp):x=y:=by cases x;cases y;simp_all
theorem Qp0 (s t:Sto) (oks:OkS s) (okt:OkS t):Qai prog 34 [.agg (stoA s),.agg (stoA t)] (aB (dP (s=t))):=by
 have hb1:=oks.2.1;have hb2:=oks.2.2.1;have hc1:=okt.2.1;have hc2:=okt.2.2.1;exact Qae func34 (let R:AV:=aB (dP (s=t));
 .new fun b1=>.new fun b2=>.r 1<|.u 6 [b1,b2]<|
 .bn 16 s.stamp t.stamp (fun p1=>.r 17<|.r 1<|.f R [] (aB false) (by exact sF (fun h=>by subst h;omega)))
 <| fun p1=>.u 3 [b1]<|
 .lm 19 s.l chnA<|.u 3 [b2]<|
 .lm 22 t.l chnA<|.r 3<|.bn 25 (s.l.length:Int) (t.l.length:Int) (fun p2=>.r 8<|.r 1<|.f R [] (aB false) (by exact sF (fun h=>by subst h;omega)))
 <| fun p2=>.u 3 [b1]<|
 .lm 28 s.nexts cntA<|.u 3 [b2]<|
 .lm 31 t.nexts cntA<|.r 2<|.bn 33 (s.nexts.length:Int) (t.nexts.length:Int) (fun p3=>.r 1<|.f R [] (aB false) (by exact sF (fun h=>by subst h;omega)))
 <| fun p3=>.r 1<|let L1:Lp (Nat):=⟨fun a1=>⟨[(2,.ptr 2 b1 0),(3,.ptr 3 b2 0),(5,aI (a1:Int))],[(2,.box b1 25 (stoA s)),(3,.box b2 25 (stoA t))]⟩,fun a1=>s.nexts.length-a1,fun a1=>a1≤s.nexts.length∧s.nexts.take a1=t.nexts.take a1⟩
 .lp L1 0 ⟨W0j _,rfl⟩ [(5,aI 0)] [] ⟨sR,sR,sO,trivial⟩ bb2 fun a1 ha1=>
 (fun (k:Nat) (hH1:k≤s.nexts.length∧s.nexts.take k=t.nexts.take k)=>.u 4 [b1]<|
 .lm 37 s.nexts cntA<|.r 1<|.bd 38 ((k:Int)<(s.nexts.length:Int)) (fun p4=>.ord [0,1,2,3,4,5,6,7,8,9,10]<|.u 3 [b1]<|
 .idxM s.nexts cntA k (m:=(k:Int)) rfl (by omega) fun x1 hx1=>
 .u 4 [b2]<|
 .idxM t.nexts cntA k (m:=(k:Int)) rfl (by omega) fun x2 hx2=>
 .r 1<|.eqS<|.nbb 51 ((x1.stamp==x2.stamp)&&((x1.next==x2.next)&&(true))) (fun p5=>.r 1<|.f R [] (aB false) (by
  refine sF (fun h=>?_);rw [h,hx2] at hx1;obtain rfl:=W0c hx1;simp_all))
 <| fun p5=>.run 3 [rng .i64 ((k:Int)+1)] ⟨Qah,trivial⟩<|
 .bk L1 k (k+1) ⟨by omega,by rw [Qam hx1,Qam hx2,hH1.2];first | (congr 2;done) | (congr 2;exact cnt_eq (by simp_all [Qau,Qad]) (by simp_all [Qau,Qad]))⟩ (show s.nexts.length-(k+1)<s.nexts.length-k from (by omega)) [(5,aI ((k:Int)+1))] [] ⟨sR,sR,sO,trivial⟩ bb2)
 <| fun p4=>.r 1<|let L2:Lp (Nat):=⟨fun a2=>⟨[(2,.ptr 2 b1 0),(3,.ptr 3 b2 0),(6,aI (a2:Int))],[(2,.box b1 25 (stoA s)),(3,.box b2 25 (stoA t))]⟩,fun a2=>s.l.length-a2,fun a2=>a2≤s.l.length∧s.l.take a2=t.l.take a2⟩
 .lp L2 0 ⟨W0j _,rfl⟩ [(6,aI 0)] [] ⟨sR,sR,sO,trivial⟩ bb2 fun a2 ha2=>
 (fun (k:Nat) (hH2:k≤s.l.length∧s.l.take k=t.l.take k)=>.u 4 [b1]<|
 .lm 55 s.l chnA<|.r 1<|.bd 56 ((k:Int)<(s.l.length:Int)) (fun p6=>.u 3 [b1]<|
 .idxM s.l chnA k (m:=(k:Int)) rfl (by omega) fun x3 hx3=>
 have okx3:=oks.2.2.2.1 x3 (W0h hx3);have blx3:=okx3.2.1;.r 1<|.new fun b3=>.u 1 [b3]<|
 .u 3 [b2]<|
 .idxM t.l chnA k (m:=(k:Int)) rfl (by omega) fun x4 hx4=>
 have okx4:=okt.2.2.2.1 x4 (W0h hx4);have blx4:=okx4.2.1;.r 1<|.new fun b4=>.u 1 [b4]<|
 .u 6 [b3,b4]<|
 .bn 74 x3.ino x4.ino (fun p7=>.r 8<|.r 1<|.f R [] (aB false) (by
  refine sF (fun h=>?_);rw [h,hx4] at hx3;obtain rfl:=W0c hx3;simp_all))
 <| fun p7=>.u 3 [b3]<|
 .lm 77 x3.l verA<|.u 3 [b4]<|
 .lm 80 x4.l verA<|.r 2<|.bn 82 (x3.l.length:Int) (x4.l.length:Int) (fun p8=>.r 1<|.f R [] (aB false) (by
  refine sF (fun h=>?_);rw [h,hx4] at hx3;obtain rfl:=W0c hx3;simp_all))
 <| fun p8=>.r 1<|let L3:Lp (Nat):=⟨fun a3=>⟨[(2,.ptr 2 b1 0),(3,.ptr 3 b2 0),(6,aI (k:Int)),(7,.ptr 7 b3 0),(8,.ptr 8 b4 0),(9,aI (a3:Int))],[(2,.box b1 25 (stoA s)),(3,.box b2 25 (stoA t)),(7,.box b3 98 [aI x3.ino,.sl 7 false (x3.l.map verA)]),(8,.box b4 98 [aI x4.ino,.sl 7 false (x4.l.map verA)])]⟩,fun a3=>x3.l.length-a3,fun a3=>a3≤x3.l.length∧x3.l.take a3=x4.l.take a3⟩
 .lp L3 0 ⟨W0j _,rfl⟩ [(9,aI 0)] [] ⟨sR,sR,sR,sR,sR,sO,trivial⟩ bb4 fun a3 ha3=>
 (fun (j:Nat) (hH3:j≤x3.l.length∧x3.l.take j=x4.l.take j)=>.u 4 [b3]<|
 .lm 86 x3.l verA<|.r 1<|.bd 87 ((j:Int)<(x3.l.length:Int)) (fun p9=>.ord [0,1,2,3,4,5,6,7,8,9,10,11,12,13]<|.u 3 [b3]<|
 .idxM x3.l verA j (m:=(j:Int)) rfl (by omega) fun x5 hx5=>
 have okx5:=okx3.2.2 x5 (W0h hx5);.u 5 [b4]<|
 .idxM x4.l verA j (m:=(j:Int)) rfl (by omega) fun x6 hx6=>
 have okx6:=okx4.2.2 x6 (W0h hx6);.r 2<|.call (Qem x5.n x6.n (okx5).2 (okx6).2)<|
 .r 1<|.ord [0,1,2,3,4,5,6,7,8,9,10,11,12,13,14,15,16,17,18,19,20,21,22,23,24,25,26,27,28,29,30,31]<|.r 3<|.nbb 105 (dP (x5.n=x6.n)) (fun p10=>.r 29<|.r 1<|.f R [] (aB false) (by
  refine sF (fun h=>?_);rw [h,hx4] at hx3;obtain rfl:=W0c hx3;rw [hx6] at hx5;obtain rfl:=W0c hx5;simp_all [Qau,Qad]))
 <| fun p10=>.u 3 [b3]<|
 .idx j (m:=(j:Int)) (xs:=x3.l.map verA) (e:=verA x5) rfl (map_some hx5)<|
 .u 5 [b4]<|
 .idx j (m:=(j:Int)) (xs:=x4.l.map verA) (e:=verA x6) rfl (map_some hx6)<|
 .r 5<|.bn 120 x5.stamp x6.stamp (fun p11=>.r 14<|.r 1<|.f R [] (aB false) (by
  refine sF (fun h=>?_);rw [h,hx4] at hx3;obtain rfl:=W0c hx3;rw [hx6] at hx5;obtain rfl:=W0c hx5;simp_all [Qau,Qad]))
 <| fun p11=>.u 3 [b3]<|
 .idx j (m:=(j:Int)) (xs:=x3.l.map verA) (e:=verA x5) rfl (map_some hx5)<|
 .u 5 [b4]<|
 .idx j (m:=(j:Int)) (xs:=x4.l.map verA) (e:=verA x6) rfl (map_some hx6)<|
 .r 4<|.nbe 134 x5.gone x6.gone (fun p12=>.r 1<|.f R [] (aB false) (by
  refine sF (fun h=>?_);rw [h,hx4] at hx3;obtain rfl:=W0c hx3;rw [hx6] at hx5;obtain rfl:=W0c hx5;simp_all [Qau,Qad]))
 <| fun p12=>.run 3 [rng .i64 ((j:Int)+1)] ⟨Qah,trivial⟩<|
 .bk L3 j (j+1) ⟨by omega,by rw [Qam hx5,Qam hx6,hH3.2];first | (congr 2;done) | (congr 2;exact ver_eq (by simp_all [Qau,Qad]) (by simp_all [Qau,Qad]) (by simp_all [Qau,Qad]))⟩ (show x3.l.length-(j+1)<x3.l.length-j from (by omega)) [(9,aI ((j:Int)+1))] [] ⟨sR,sR,sR,sR,sR,sO,trivial⟩ bb4)
 <| fun p9=>.run 3 [rng .i64 ((k:Int)+1)] ⟨Qah,trivial⟩<|
 .bk L2 k (k+1) ⟨by omega,by rw [Qam hx3,Qam hx4,hH2.2];congr 2;exact chn_eq (by omega) (by have h:=hH3.2;rw [Qat (by omega),Qat (by omega)] at h;exact h)⟩ (show s.l.length-(k+1)<s.l.length-k from (by omega)) [(6,aI ((k:Int)+1))] [] ⟨sR,sR,sO,trivial⟩ bb2) a3 ha3)
 <| fun p6=>.r 1<|.f R [] (aB true) (by
  refine sT (sto_eq ?_ ?_ (by omega))
  ·have h:=hH2.2;rw [Qat (by omega),Qat (by omega)] at h;exact h
  ·have h:=hH1.2;rw [Qat (by omega),Qat (by omega)] at h;exact h)) a2 ha2) a1 ha1)
def Zn3 (s:Sto):Nat:=(s.l.map (fun c=>c.l.length)).sum
def wV (v:Ver):Nat:=v.n.l.length
def wC (c:Chn):Nat:=c.l.length+(c.l.map wV).sum
def few (s:Sto):Prop:=s.l.length+s.nexts.length+(s.l.map wC).sum≤200∧∀ c∈s.l,∀ v∈c.l,v.n.text.length≤4096
def Qs3 (s:Sto) (k n:Nat):Prop:=k≤s.l.length∧n≤s.l.length+s.nexts.length+(s.l.map wC).sum ∧
 ((n=s.l.length+s.nexts.length+((s.l.take k).map wC).sum∧∀ c∈s.l.take k,∀ v∈c.l,v.n.text.length≤4096)∨200<n)∧n≤100000000000000
def Qv0 (c:Chn) (n j m:Nat):Prop:=j≤c.l.length∧m≤100000000000000∧m=n+c.l.length+((c.l.take j).map wV).sum∧(∀ v∈c.l.take j,v.n.text.length≤4096)
theorem fewS0 (s:Sto) (h1:s.l.length≤8796093022207) (h2:s.nexts.length≤8796093022207):Qs3 s 0 (s.l.length+s.nexts.length):=
 ⟨W0j _,by omega,.inl ⟨by simp,fun c h=>by simp at h⟩,by omega⟩
theorem fewSV0 (c:Chn) (n:Nat) (h1:n≤200) (h2:c.l.length≤8796093022207):Qv0 c n 0 (n+c.l.length):=⟨W0j _,by omega,by simp,fun v h=>by simp at h⟩
theorem fewSV {c:Chn} {v:Ver} {n j m:Nat} (hv:c.l[j]?=some v) (h:Qv0 c n j m) (h0:j<c.l.length) (h1:m≤200) (h2:v.n.text.length≤4096) (h3:v.n.l.length≤8796093022207):Qv0 c n (j+1) (m+v.n.l.length):=by
 obtain ⟨_,_,e,ht⟩:=h;refine ⟨h0,by omega,by rw [Qmw wV hv,e];simp only [wV];omega,fun u hu=>?_⟩;rcases Qia hv hu with h | rfl
 ·exact ht u h
 ·exact h2
theorem Qz2 {s:Sto} {c:Chn} {k n j m:Nat} (hc:s.l[k]?=some c) (h:Qs3 s k n) (h0:k<s.l.length) (hn:n≤200) (h':Qv0 c n j m) (h3:¬ (j:Int)<c.l.length∨¬ (m:Int)≤200):Qs3 s (k+1) m:=by
 obtain ⟨_,_,h,_⟩:=h;obtain ⟨hj,hm,e,ht⟩:=h';rcases h with ⟨h,htx⟩ | h
 ·have h5:=Qmw wC hc;have h6:=Qfh wC s.l (k+1);have h7:=Qfh wV c.l j;have h8:wC c=c.l.length+(c.l.map wV).sum:=rfl;refine ⟨h0,by omega,?_,hm⟩;by_cases h9:m≤200
  ·have hj':c.l.length≤j:=by omega
   rw [Qat hj'] at e ht;refine .inl ⟨by omega,fun d hd=>?_⟩;rcases Qia hc hd with h | rfl
   ·exact htx d h
   ·exact ht
  ·exact .inr (by omega)
 ·omega
theorem Zkk {s:Sto} {c:Chn} {v:Ver} {k j:Nat} (hc:s.l[k]?=some c) (hv:c.l[j]?=some v) (h:¬ v.n.text.length≤4096):¬ few s:=fun hf=>h (hf.2 c (W0h hc) v (W0h hv))
theorem Qz3 {s:Sto} {k n:Nat} (h:Qs3 s k n) (h3:¬ (k:Int)<s.l.length∨¬ (n:Int)≤200):decide ((n:Int)≤200)=true↔few s:=by
 obtain ⟨hk,hle,h,_⟩:=h;rw [decide_eq_true_iff];refine ⟨fun hn=>?_,fun hf=>?_⟩
 ·have hk':s.l.length≤k:=by omega
  rcases h with ⟨h,ht⟩ | h
  ·rw [Qat hk'] at h ht;exact ⟨by omega,ht⟩
  ·omega
 ·have:=hf.1;omega
theorem Zg1 (s:Sto) (oks:OkS s):Qai prog 47 [.agg (stoA s)] (aB (dP (few s))):=by
 have hs1:=oks.2.1;have hs2:=oks.2.2.1;exact Qae func47 (let R:AV:=aB (dP (few s));
 .new fun b1=>.r 1<|.u 3 [b1]<|
 .lm 8 s.l chnA<|.u 3 [b1]<|
 .lm 11 s.nexts cntA<|.run 2 [rng .i64 ((s.l.length:Int)+(s.nexts.length:Int))] ⟨Qah,trivial⟩<|
 .r 1<|let L1:Lp (Nat × Nat):=⟨fun a1=>⟨[(1,.ptr 1 b1 0),(4,aI (a1.1:Int)),(3,aI (a1.2:Int))],[(1,.box b1 25 (stoA s))]⟩,fun a1=>s.l.length-a1.1,fun a1=>Qs3 s a1.1 a1.2⟩
 .lp L1 (0,s.l.length+s.nexts.length) (show Qs3 s 0 (s.l.length+s.nexts.length) from fewS0 s hs1 hs2) [(4,aI 0),(3,aI ((s.l.length:Int)+(s.nexts.length:Int)))] [] ⟨sR,sO,sO,trivial⟩ bb1 fun a1 ha1=>
 (fun (k:Nat) (n:Nat) (hH1:Qs3 s k n)=>.u 4 [b1]<|
 .lm 16 s.l chnA<|.r 2<|.bd 18 ((k:Int)<(s.l.length:Int)) (fun p1=>.r 3<|.bd 21 ((n:Int)≤200) (fun p2=>.u 4 [b1]<|
 .idxM s.l chnA k (m:=(k:Int)) rfl (by omega) fun x1 hx1=>
 have okx1:=oks.2.2.2.1 x1 (W0h hx1);have blx1:=okx1.2.1;.r 3<|.lm 31 x1.l verA<|.run 2 [rng .i64 ((n:Int)+(x1.l.length:Int))] ⟨Qah,trivial⟩<|
 .r 1<|let L2:Lp (Nat × Nat):=⟨fun a2=>⟨[(1,.ptr 1 b1 0),(4,aI (k:Int)),(5,aI (a2.1:Int)),(3,aI (a2.2:Int))],[(1,.box b1 25 (stoA s))]⟩,fun a2=>x1.l.length-a2.1,fun a2=>Qv0 x1 n a2.1 a2.2⟩
 .lp L2 (0,(n+x1.l.length)) (show Qv0 x1 n 0 (n+x1.l.length) from (fewSV0 _ _ (by omega) (by omega))) [(5,aI 0),(3,aI ((n:Int)+(x1.l.length:Int)))] [] ⟨sR,sR,sO,sO,trivial⟩ bb1 fun a2 ha2=>
 (fun (j:Nat) (m:Nat) (hH2:Qv0 x1 n j m)=>.u 4 [b1]<|
 .idx k (m:=(k:Int)) (xs:=s.l.map chnA) (e:=chnA x1) rfl (map_some hx1)<|
 .r 3<|.lm 40 x1.l verA<|.r 2<|.bd 42 ((j:Int)<(x1.l.length:Int)) (fun p3=>.r 3<|.bd 45 ((m:Int)≤200) (fun p4=>.u 4 [b1]<|
 .idx k (m:=(k:Int)) (xs:=s.l.map chnA) (e:=chnA x1) rfl (map_some hx1)<|
 .r 3<|.idxM x1.l verA j (m:=(j:Int)) rfl (by omega) fun x2 hx2=>
 have okx2:=okx1.2.2 x2 (W0h hx2);have blx2:=okx2.2.2.2.2.2.1;.r 4<|.lm 60 x2.n.l entA<|.run 2 [rng .i64 ((m:Int)+(x2.n.l.length:Int))] ⟨Qah,trivial⟩<|
 .u 3 [b1]<|
 .idx k (m:=(k:Int)) (xs:=s.l.map chnA) (e:=chnA x1) rfl (map_some hx1)<|
 .r 3<|.idx j (m:=(j:Int)) (xs:=x1.l.map verA) (e:=verA x2) rfl (map_some hx2)<|
 .r 5<|.bd 74 (((x2.n.text).length:Int)>4096) (fun p5=>.r 1<|.f R [] (aB false) (by exact sF (Zkk hx1 hx2 (by omega))))
 <| fun p5=>.run 3 [rng .i64 ((j:Int)+1)] ⟨Qah,trivial⟩<|
 .bk L2 (j,m) ((j+1),(m+x2.n.l.length)) (show Qv0 x1 n (j+1) (m+x2.n.l.length) from (fewSV hx2 hH2 (by omega) (by omega) (by omega) (by omega))) (show x1.l.length-(j+1)<x1.l.length-j from (by omega)) [(5,aI ((j:Int)+1)),(3,aI ((m:Int)+(x2.n.l.length:Int)))] [] ⟨sR,sR,sO,sO,trivial⟩ bb1)
 <| fun p4=>.run 3 [rng .i64 ((k:Int)+1)] ⟨Qah,trivial⟩<|
 .bk L1 (k,n) ((k+1),m) (show Qs3 s (k+1) m from (Qz2 hx1 hH1 (by omega) (by omega) hH2 (by omega))) (show s.l.length-(k+1)<s.l.length-k from (by omega)) [(4,aI ((k:Int)+1))] [] ⟨sR,sO,sR,trivial⟩ bb1)
 <| fun p3=>.r 3<|.run 3 [rng .i64 ((k:Int)+1)] ⟨Qah,trivial⟩<|
 .bk L1 (k,n) ((k+1),m) (show Qs3 s (k+1) m from (Qz2 hx1 hH1 (by omega) (by omega) hH2 (by omega))) (show s.l.length-(k+1)<s.l.length-k from (by omega)) [(4,aI ((k:Int)+1))] [] ⟨sR,sO,sR,trivial⟩ bb1) a2.1 a2.2 ha2)
 <| fun p2=>.r 3<|.f R [] (aB (decide ((n:Int)≤200))) (by exact sE (Qz3 hH1 (by omega))))
 <| fun p1=>.r 3<|.r 3<|.f R [] (aB (decide ((n:Int)≤200))) (by exact sE (Qz3 hH1 (by omega)))) a1.1 a1.2 ha1)
def newS:Sto:=⟨[⟨1,[⟨1,false,Qjm⟩]⟩],[⟨1,2⟩],1⟩
theorem Qlt:OkS newS:=⟨⟨by decide,by decide⟩,by show (1:Nat)≤_;omega,by show (1:Nat)≤_;omega,fun c h=>by
  obtain rfl:=W0z.1 h;exact ⟨⟨by decide,by decide⟩,by show (1:Nat)≤_;omega,fun v hv=>by obtain rfl:=W0z.1 hv;exact ⟨⟨by decide,by decide⟩,Qyv⟩⟩,
 fun c h=>by obtain rfl:=W0z.1 h;exact ⟨⟨by decide,by decide⟩,⟨by decide,by decide⟩⟩⟩
theorem Qle {α:Type} {Q:Nat→α→Prop} {x:α} (h:Q 0 x):AllQ Q [x]:=fun i e he=>by
 match i,he with
 | 0,he=>simp at he;subst he;exact h
 | i+1,he=>simp at he
theorem Zb3:Qb7 newS:=by
 refine ⟨by decide,⟨by decide,Qle ⟨by decide,by decide,fun d h=>by omega⟩⟩,Qle (by show (1:Int)≤2;decide),Qle ⟨⟨by decide,⟨by decide,Qle ⟨by decide,by decide,fun d h=>by omega⟩⟩,Qle ⟨fun h=>(by cases h),fun _=>⟨?_,rfl⟩⟩⟩,fun d h=>by omega⟩⟩;exact ⟨by decide,by decide,by decide,.inl ⟨rfl,rfl,Qck⟩⟩
theorem Qyd {α:Type} {f:α→Int} {st:Int} {l:List α} {x:α} (h:atD f st l=some x):x∈l:=by
 unfold atD at h
 split at h
 ·cases h
 ·exact W0h h
theorem Zil {st:Int} {c:Chn} {n:Nod} (ok:OkC c) (h:Qbz st c=some n):OkN n:=by
 unfold Qbz at h
 split at h
 ·rename_i v hv
  split at h
  ·cases h
  ·obtain rfl:=W0c h;exact (ok.2.2 v (Qyd hv)).2
 ·cases h
theorem Qfg {s:Sto} (ok:OkS s) (st:Int):OkF (Qa3 s st):=by
 refine ⟨?_,?_,fun n hn=>?_⟩
 ·show I64 (Qf8 s st);unfold Qf8
  split
  ·rename_i c hc;exact (ok.2.2.2.2 c (Qyd hc)).2
  ·exact ⟨by decide,by decide⟩
 ·have:=List.length_filterMap_le (Qbz st) s.l;have:=ok.2.1;show (s.l.filterMap (Qbz st)).length≤_;omega
 ·obtain ⟨c,hc,hv⟩:=W2j.1 hn;exact Zil (ok.2.2.2.1 c hc) hv
theorem Ziy (s:Sto) (st:Int):(Qbu s st).length≤s.l.length+1:=by
 unfold Qbu
 split
 ·have:=Qic s st s.l.length;simp;omega
 ·simp
theorem Qz1 {s:Sto} (h:few s):s.l.length≤200∧s.nexts.length≤200∧Zn3 s≤200:=by
 have h1:=h.1;have h2:(s.l.map (fun c=>c.l.length)).sum≤(s.l.map wC).sum:=by
  clear h h1
  induction s.l with
  | nil=>simp
  | cons c r ih=>simp only [W1u,List.sum_cons,wC];omega
 unfold Zn3;omega
theorem Qqm (f:Fsy) (i:Int):Qav f i=(f.l.find? (isNo i)).isSome:=by
 unfold Qav
 induction f.l with
 | nil=>rfl
 | cons n r ih=>
  simp only [List.any_cons,W1f];cases h:isNo i n<;>simp [ih]
theorem Qna {st last:Int} {c:Chn} (hle:st≤last) (h:Qe3 st c=false):Qbz st c=Qbz last c:=by
 have h0:∀ v∈c.l,v.stamp≤st:=fun v hv=>by
  have:=W2d.1 h v hv;simp at this;exact this
 have key:∀ b,st≤b→cutV Ver.stamp b c.l=c.l.length:=fun b hb=>by
  refine Qg1 _ _ _ _ (W0m _) (fun j x hj hx=>by have:=Qap hx;omega) ?_;cases hl:c.l with
  | nil=>exact .inl rfl
  | cons v r=>
   right;have hlt:(v :: r).length-1<(v :: r).length:=by simp
   refine ⟨(v :: r)[(v :: r).length-1],W0d hlt,?_⟩;have:=h0 _ (by rw [hl];exact W1n hlt);omega
 unfold Qbz atD;rw [key st (W1s _),key last hle]
theorem Qnb {s:Sto} (hp:Qb7 s) {c:Chn} (hc:c∈s.l) {st:Int} {n:Nod} (h:Qbz st c=some n):n.ino=c.ino:=by
 obtain ⟨k,hk⟩:=W0w hc;have hch:=(hp.2.2.2.at hk).1;unfold Qbz at h
 split at h
 ·rename_i v hv
  split at h
  ·cases h
  ·rename_i hg;obtain rfl:=W0c h;obtain ⟨j,hj⟩:=W0w (Qyd hv);exact ((hch.2.2 j v hj).2 (by simpa using hg)).2
 ·cases h
theorem Qu1 {st last i:Int}:∀ {l:List Chn},(∀ c∈l,c.ino=i→Qbz st c=Qbz last c)→(∀ c∈l,∀ b n,Qbz b c=some n→n.ino=c.ino) →
  (l.filterMap (Qbz st)).find? (isNo i)=(l.filterMap (Qbz last)).find? (isNo i)
 | [],_,_=>rfl
 | c :: r,h1,h2=>by
  have ih:=Qu1 (l:=r) (fun d hd=>h1 d (by simp [hd])) (fun d hd=>h2 d (by simp [hd]));have no:∀ b n,Qbz b c=some n→c.ino ≠ i→isNo i n=false:=fun b n hn hne=>by
   have:=h2 c (by simp) b n hn;simp [isNo,this,hne]
  by_cases hi:c.ino=i
  ·have e:=h1 c (by simp) hi;simp only [List.filterMap_cons,e];cases Qbz last c with
   | none=>exact ih
   | some n=>simp only [W1f,ih]
  ·simp only [List.filterMap_cons];cases ha:Qbz st c with
   | none=>
    cases hb:Qbz last c with
    | none=>exact ih
    | some n=>simp only [W1f,no _ _ hb hi];exact ih
   | some m=>
    cases hb:Qbz last c with
    | none=>simp only [W1f,no _ _ ha hi];exact ih
    | some n=>simp only [W1f,no _ _ ha hi,no _ _ hb hi];exact ih
theorem Qqz {s:Sto} {st:Int} (hp:Qb7 s) (hle:st≤s.stamp):∀ c∈Qbl (Qa3 s st) (Qa3 s s.stamp),c.ino∈Qbu s st:=by
 intro c hc;refine Classical.byContradiction fun hn=>?_;obtain ⟨i,hi,hch⟩:=W2j.1 hc;have hino:c.ino=i:=by
  unfold chgD at hch
  split at hch
  ·obtain rfl:=W0c hch;rfl
  ·split at hch
   ·obtain rfl:=W0c hch;rfl
   ·cases hch
 rw [hino] at hn;have hno:∀ d∈s.l,d.ino=i→Qbz st d=Qbz s.stamp d:=fun d hd he=>by
  refine Qna hle (Bool.eq_false_iff.2 fun hl=>hn ?_);have hm:i∈Qbg s st s.l.length:=by
   unfold Qbg;rw [Qat (W0m _)];exact W1j.2 ⟨d,W1m.2 ⟨hd,hl⟩,he⟩
  unfold Qbu;rw [W1y (.inl (by have:=List.length_pos_of_mem hm;omega))];exact W12 _ hm
 have hf:=Qu1 (i:=i) hno (fun d hd b n hv=>Qnb hp hd hv);have e1:(Qa3 s st).l.find? (isNo i)=(Qa3 s s.stamp).l.find? (isNo i):=hf;have eB:Qav (Qa3 s st) i=Qav (Qa3 s s.stamp) i:=by rw [Qqm,Qqm,e1]
 have eN:Qaa (Qa3 s st) i=Qaa (Qa3 s s.stamp) i:=by unfold Qaa;rw [e1]
 have hany:Qav (Qa3 s st) i=true:=by
  have key:∀ f:Fsy,(∃ n∈f.l,n.ino=i)→Qav f i=true:=fun f ⟨n,hn,he⟩=>List.any_eq_true.2 ⟨n,hn,by simp [isNo,he]⟩;rcases Qn8 hi with h | h
  ·rcases Qn8 h with h | h
   ·cases h
   ·exact key _ h
  ·rw [eB];exact key _ h
 unfold chgD at hch;rw [W1x (by rw [← eB,hany];simp),W1x (fun h=>h.elim (fun h=>by rw [hany] at h;cases h) (fun h=>h eN))] at hch;cases hch
theorem Qpy {s:Sto} (hp:Qb7 s):Qbu s s.stamp=[]:=by
 have h1:∀ c∈s.l,Qe3 s.stamp c=false:=fun c hc=>by
  obtain ⟨k,hk⟩:=W0w hc;have hch:=(hp.2.2.2.at hk).1;refine W2d.2 fun v hv=>?_;obtain ⟨j,hj⟩:=W0w hv;have:=(hch.2.1.2.at hj).2.1;simp;omega
 have h2:Qbg s s.stamp s.l.length=[]:=by
  unfold Qbg;rw [Qat (W0m _),List.filter_eq_nil_iff.2 (fun c hc=>by simp [h1 c hc])];rfl
 have h3:Quf s s.stamp=false:=by
  refine W2d.2 fun c hc=>?_;obtain ⟨j,hj⟩:=W0w hc;have:=(hp.2.1.2.at hj).2.1;simp;omega
 unfold Qbu;rw [h2,h3];simp
end Go.Proofs.YtahlldgocpabjaaGreat
