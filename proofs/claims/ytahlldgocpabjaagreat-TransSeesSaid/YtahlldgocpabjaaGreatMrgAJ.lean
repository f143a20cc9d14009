import Derived.Test.YtahlldgocpabjaaGreatMrgAI
set_option maxRecDepth 100000
set_option maxHeartbeats 8000000
set_option linter.unusedVariables false
set_option linter.unusedSimpArgs false
namespace Go.Proofs.YtahlldgocpabjaaGreat
open Go Go.RowKit Copyhold Go.Proofs.Tryz
theorem Qzm (s:Sto) (st:Int) (oks:OkS s) (hf:s.l.length≤100000):Qah prog 62 [.agg (stoA s),aI st] (.sl 1 false ((Qbz s st).map intA)):=by
 have hb1:=oks.2.1;have hb2:=oks.2.2.1;exact Qab func62 (
 .new fun b1=>.new fun b2=>.r 1<|.frz 3 [2,3,4] [2] [b2=b2] rt1<|
 .litN fun V1=>.r 1<|.u 3 [b1]<|
 .lm 11 s.l chnA<|.r 1<|let L1:Lp (Nat × Value):=⟨fun a1=>⟨[(2,.ptr 2 b1 0),(3,.dptr [aI st]),(10,.sl 2 false (s.l.map chnA)),(11,aI (s.l.length:Int)),(5,.rw 8 a1.2 (1+(Qbl s st a1.1).length)),(12,aI (a1.1:Int))],[(2,.box b1 25 (stoA s)),(8,.row a1.2 3 1 ([aI 0] :: (Qbl s st a1.1).map intA))]⟩,fun a1=>s.l.length-a1.1,fun a1=>a1.1≤s.l.length⟩
 .lp L1 (0,V1) (show 0≤s.l.length from Nat.zero_le _) [(5,.rw 8 V1 1),(12,aI 0)] [(8,.row V1 3 1 ([[aI 0]]))] ⟨sR,sR,sR,sR,sR,sO,trivial⟩ bb2 fun a1 ha1=>
 (fun (k:Nat) (V:Value) (hH1:k≤s.l.length)=>.r 1<|.br 13 (decide ((k:Int)<(s.l.length:Int))) (fun q1=>have p1:=decT q1;.idxM s.l chnA k (m:=(k:Int)) rfl (by omega) fun x1 hx1=>
 have okx1:=oks.2.2.2.1 x1 (List.mem_of_getElem? hx1);have blx1:=okx1.2.1;.r 1<|.new fun b3=>.u 1 [b3]<|
 .u 3 [b3]<|
 .call (Zgi x1.l st (by omega))<|
 .br 19 (Qfb st x1) (fun q2=>have p2:=booT q2;.u 4 [b3]<|
 .app 8 V ([aI 0] :: (Qbl s st k).map intA) ([[aI x1.ino]]) (by have:=Qh0 s st k;simp only [List.length_map,List.length_cons,List.length_nil];omega) (by have:=Qh0 s st k;simp only [List.length_map,List.length_cons,List.length_nil];omega) fun V2=>
 .r 1<|.run 2 [rng .i64 ((k:Int)+1)] ⟨Qaj (by omega) (by omega),trivial⟩<|
 .bk L1 (k,V) ((k+1),V2) (show (k+1)≤s.l.length from (by show _≤_;omega)) (show s.l.length-(k+1)<s.l.length-k from (by omega)) [(5,.rw 8 V2 (([aI 0] :: (Qbl s st k).map intA).length+([[aI x1.ino]]:List (List AV)).length)),(12,aI ((k:Int)+1))] [(8,.row V2 3 1 (([aI 0] :: (Qbl s st k).map intA)++([[aI x1.ino]])))] ⟨sR,sR,sR,sR,Sub.of_eq (congrArg (AV.rw 8 V2) (by rw [Qgj hx1 q2];simp;try omega)),sO,trivial⟩ ⟨sB,⟨_,rfl,SubB.of_eq (by rw [Qgj hx1 q2];simp [intA])⟩,trivial⟩)
 <| fun q2=>have p2:=booF q2;.run 2 [rng .i64 ((k:Int)+1)] ⟨Qaj (by omega) (by omega),trivial⟩<|
 .bk L1 (k,V) ((k+1),V) (show (k+1)≤s.l.length from (by show _≤_;omega)) (show s.l.length-(k+1)<s.l.length-k from (by omega)) [(5,.rw 8 V (1+(Qbl s st k).length)),(12,aI ((k:Int)+1))] [(8,.row V 3 1 ([aI 0] :: (Qbl s st k).map intA))] ⟨sR,sR,sR,sR,Sub.of_eq (congrArg (AV.rw 8 V) (by rw [Qhz hx1 q2])),sO,trivial⟩ ⟨sB,⟨_,rfl,SubB.of_eq (by rw [Qhz hx1 q2])⟩,trivial⟩)
 <| fun q1=>have p1:=decF q1;.r 4<|.br 29 (decide ((1+(Qbl s st k).length:Int)>1)) (fun q3=>have p3:=decT q3;.r 5<|.r 2<|.frz 8 [4] [] [V=V,1+(Qbl s st k).length=([aI 0] :: (Qbl s st k).map intA).length] ⟨rfl,(by first | rfl | (simp;done) | (simp;omega)),trivial⟩<|
 .f (.sl 1 false ((Qbz s st).map intA)) [] (.sl 1 false ([aI 0] :: (Qbl s st k).map intA)) (by
  refine Sub.of_eq ?_;have e:=Qe1 (s:=s) (st:=st) (by omega:s.l.length≤k);rw [show Qbz s st=0 :: Qbl s st k from by unfold Qbz;rw [if_pos (by rw [← e];first | exact .inl (by omega) | exact .inr (by assumption)),e]];rfl))
 <| fun q3=>have p3:=decF q3;.u 3 [b1]<|
 .call (Zgh s.nexts st (by omega))<|
 .r 1<|.br 34 (Zal s st) (fun q4=>have p4:=booT q4;.r 2<|.frz 8 [4] [] [V=V,1+(Qbl s st k).length=([aI 0] :: (Qbl s st k).map intA).length] ⟨rfl,(by first | rfl | (simp;done) | (simp;omega)),trivial⟩<|
 .f (.sl 1 false ((Qbz s st).map intA)) [] (.sl 1 false ([aI 0] :: (Qbl s st k).map intA)) (by
  refine Sub.of_eq ?_;have e:=Qe1 (s:=s) (st:=st) (by omega:s.l.length≤k);rw [show Qbz s st=0 :: Qbl s st k from by unfold Qbz;rw [if_pos (by rw [← e];first | exact .inl (by omega) | exact .inr (by assumption)),e]];rfl))
 <| fun q4=>have p4:=booF q4;.r 1<|.f (.sl 1 false ((Qbz s st).map intA)) [] aN (by
  rw [show Qbz s st=[] from by unfold Qbz;rw [if_neg (by rw [← Qe1 (by omega:s.l.length≤k)];rintro (h | h)<;>first | omega | simp_all)]];exact Sub.nil _ _)) a1.1 a1.2 ha1)
theorem Qiu {st:Int} {c:Chn} {j:Nat} {la v:Bool} (h1:j≤c.l.length) (h2:la=(c.l.take j).any (fun v=>decide (v.stamp>st))) (h3:¬ (j:Int)<c.l.length) (q:la=v):Qfb st c=v:=by
 rw [Qav (by omega)] at h2;rw [← q,h2];rfl
theorem Qwb {st:Int} {c:Chn} {j:Nat} {la:Bool} {x:Ver} (hx:c.l[j]?=some x) (h2:la=(c.l.take j).any (fun v=>decide (v.stamp>st))) (q:la=false):j+1≤c.l.length∧decide (x.stamp>st)=(c.l.take (j+1)).any (fun v=>decide (v.stamp>st)):=by
 refine ⟨Qan hx,?_⟩;rw [Qmj hx,← h2,q,Bool.false_or]
theorem Qwa {st:Int} {c:Chn} {j:Nat} {la:Bool} (hj:j<c.l.length) (h2:la=(c.l.take j).any (fun v=>decide (v.stamp>st))) (q:la=true):j+1≤c.l.length∧true=(c.l.take (j+1)).any (fun v=>decide (v.stamp>st)):=by
 obtain ⟨x,hx⟩:=Qdo hj;refine ⟨hj,?_⟩;rw [Qmj hx,← h2,q,Bool.true_or]
theorem Zak {s:Sto} {st:Int} {j:Nat} {mp b:Bool} {x:Cnt} (hx:s.nexts[j]?=some x) (h2:mp=(b||(s.nexts.take j).any (fun c=>decide (c.stamp>st)))) (q:mp=false):j+1≤s.nexts.length∧decide (x.stamp>st)=(b||(s.nexts.take (j+1)).any (fun c=>decide (c.stamp>st))):=by
 refine ⟨Qan hx,?_⟩;rw [Qmj hx,← Bool.or_assoc,← h2,q,Bool.false_or]
theorem Zd8 {s:Sto} {st:Int} {j:Nat} {mp b:Bool} (h2:mp=(b||(s.nexts.take j).any (fun c=>decide (c.stamp>st)))) (hj:j<s.nexts.length) (q:mp=true):j+1≤s.nexts.length∧true=(b||(s.nexts.take (j+1)).any (fun c=>decide (c.stamp>st))):=by
 obtain ⟨x,hx⟩:=Qdo hj;refine ⟨hj,?_⟩;rw [Qmj hx,← Bool.or_assoc,← h2,q,Bool.true_or]
theorem Qvc (s:Sto) (st:Int) (oks:OkS s) (hf:s.l.length≤100000):Qah prog 63 [.agg (stoA s),aI st] (.sl 1 false ((Qbz s st).map intA)):=by
 have hb1:=oks.2.1;have hb2:=oks.2.2.1;exact Qab func63 (
 .new fun b1=>.r 1<|.litN fun V1=>.r 1<|.r 1<|.r 1<|let L1:Lp (Nat × Value × Bool):=⟨fun a1=>⟨[(1,aI st),(2,.ptr 2 b1 0),(7,aI (a1.1:Int)),(5,.rw 11 a1.2.1 (1+(Qbl s st a1.1).length)),(6,aB a1.2.2)],[(2,.box b1 25 (stoA s)),(11,.row a1.2.1 3 1 ([aI 0] :: (Qbl s st a1.1).map intA))]⟩,fun a1=>s.l.length-a1.1,fun a1=>a1.1≤s.l.length∧a1.2.2=decide (1≤(Qbl s st a1.1).length)⟩
 .lp L1 (0,V1,false) ⟨Nat.zero_le _,rfl⟩ [(7,aI 0),(5,.rw 11 V1 1)] [(11,.row V1 3 1 ([[aI 0]]))] ⟨sR,sR,sO,sR,sR,trivial⟩ bb2 fun a1 ha1=>
 (fun (k:Nat) (V:Value) (mo:Bool) (hH1:k≤s.l.length∧mo=decide (1≤(Qbl s st k).length))=>.u 4 [b1]<|
 .lm 15 s.l chnA<|.r 1<|.bd 16 ((k:Int)<(s.l.length:Int)) (fun p1=>.r 1<|.r 1<|.ex (Qdo (l:=s.l) (k:=k) (by omega)) fun x1 hx1=>
 have okx1:=oks.2.2.2.1 x1 (List.mem_of_getElem? hx1);have blx1:=okx1.2.1;let L2:Lp (Nat × Bool):=⟨fun a2=>⟨[(1,aI st),(2,.ptr 2 b1 0),(7,aI (k:Int)),(5,.rw 11 V (1+(Qbl s st k).length)),(6,aB mo),(9,aI (a2.1:Int)),(8,aB a2.2)],[(2,.box b1 25 (stoA s)),(11,.row V 3 1 ([aI 0] :: (Qbl s st k).map intA))]⟩,fun a2=>x1.l.length-a2.1,fun a2=>a2.1≤x1.l.length∧a2.2=(x1.l.take a2.1).any (fun v=>decide (v.stamp>st))⟩
 .lp L2 (0,false) ⟨Nat.zero_le _,rfl⟩ [(9,aI 0)] [] ⟨sR,sR,sR,sR,sR,sO,sR,trivial⟩ bb2 fun a2 ha2=>
 (fun (j:Nat) (la:Bool) (hH2:j≤x1.l.length∧la=(x1.l.take j).any (fun v=>decide (v.stamp>st)))=>.u 4 [b1]<|
 .idx k (m:=(k:Int)) (xs:=s.l.map chnA) (e:=chnA x1) rfl (map_some hx1)<|
 .r 3<|.lm 26 x1.l verA<|.r 1<|.bd 27 ((j:Int)<(x1.l.length:Int)) (fun p2=>.r 2<|.br 31 (la) (fun q3=>have p3:=booT q3;.r 14<|.run 3 [rng .i64 ((j:Int)+1)] ⟨Qaj (by omega) (by omega),trivial⟩<|
 .bk L2 (j,la) ((j+1),true) (show (j+1)≤x1.l.length∧true=(x1.l.take (j+1)).any (fun v=>decide (v.stamp>st)) from (Qwa (by omega) hH2.2 q3)) (show x1.l.length-(j+1)<x1.l.length-j from (by omega)) [(9,aI ((j:Int)+1))] [] ⟨sR,sR,sR,sR,sR,sO,sR,trivial⟩ bb2)
 <| fun q3=>have p3:=booF q3;.u 3 [b1]<|
 .idx k (m:=(k:Int)) (xs:=s.l.map chnA) (e:=chnA x1) rfl (map_some hx1)<|
 .r 3<|.idxM x1.l verA j (m:=(j:Int)) rfl (by omega) fun x2 hx2=>
 have okx2:=okx1.2.2 x2 (List.mem_of_getElem? hx2);.r 6<|.run 3 [rng .i64 ((j:Int)+1)] ⟨Qaj (by omega) (by omega),trivial⟩<|
 .bk L2 (j,la) ((j+1),decide (x2.stamp>st)) (show (j+1)≤x1.l.length∧(decide (x2.stamp>st))=(x1.l.take (j+1)).any (fun v=>decide (v.stamp>st)) from (Qwb hx2 hH2.2 q3)) (show x1.l.length-(j+1)<x1.l.length-j from (by omega)) [(9,aI ((j:Int)+1))] [] ⟨sR,sR,sR,sR,sR,sO,sR,trivial⟩ bb2)
 <| fun p2=>.r 1<|.br 45 (la) (fun q4=>have p4:=booT q4;.u 4 [b1]<|
 .idx k (m:=(k:Int)) (xs:=s.l.map chnA) (e:=chnA x1) rfl (map_some hx1)<|
 .r 3<|.app 8 V ([aI 0] :: (Qbl s st k).map intA) ([[aI x1.ino]]) (by have:=Qh0 s st k;simp only [List.length_map,List.length_cons,List.length_nil];omega) (by have:=Qh0 s st k;simp only [List.length_map,List.length_cons,List.length_nil];omega) fun V2=>
 .r 1<|.r 1<|.run 3 [rng .i64 ((k:Int)+1)] ⟨Qaj (by omega) (by omega),trivial⟩<|
 .bk L1 (k,V,mo) ((k+1),V2,true) ⟨by omega,by rw [Qgj hx1 ((Qiu hH2.1 hH2.2 (by omega) q4:Qfb st x1=true))];simp⟩ (show s.l.length-(k+1)<s.l.length-k from (by omega)) [(7,aI ((k:Int)+1)),(5,.rw 11 V2 (([aI 0] :: (Qbl s st k).map intA).length+([[aI x1.ino]]:List (List AV)).length))] [(11,.row V2 3 1 (([aI 0] :: (Qbl s st k).map intA)++([[aI x1.ino]])))] ⟨sR,sR,sO,Sub.of_eq (congrArg (AV.rw 11 V2) (by rw [Qgj hx1 ((Qiu hH2.1 hH2.2 (by omega) q4:Qfb st x1=true))];simp;try omega)),sR,trivial⟩ ⟨sB,⟨_,rfl,SubB.of_eq (by rw [Qgj hx1 ((Qiu hH2.1 hH2.2 (by omega) q4:Qfb st x1=true))];simp [intA])⟩,trivial⟩)
 <| fun q4=>have p4:=booF q4;.run 3 [rng .i64 ((k:Int)+1)] ⟨Qaj (by omega) (by omega),trivial⟩<|
 .bk L1 (k,V,mo) ((k+1),V,mo) ⟨by omega,by rw [Qhz hx1 ((Qiu hH2.1 hH2.2 (by omega) q4:Qfb st x1=false))];exact hH1.2⟩ (show s.l.length-(k+1)<s.l.length-k from (by omega)) [(7,aI ((k:Int)+1)),(5,.rw 11 V (1+(Qbl s st k).length))] [(11,.row V 3 1 ([aI 0] :: (Qbl s st k).map intA))] ⟨sR,sR,sO,Sub.of_eq (congrArg (AV.rw 11 V) (by rw [Qhz hx1 ((Qiu hH2.1 hH2.2 (by omega) q4:Qfb st x1=false))])),sR,trivial⟩ ⟨sB,⟨_,rfl,SubB.of_eq (by rw [Qhz hx1 ((Qiu hH2.1 hH2.2 (by omega) q4:Qfb st x1=false))])⟩,trivial⟩) a2.1 a2.2 ha2)
 <| fun p1=>.r 1<|let L3:Lp (Nat × Bool):=⟨fun a3=>⟨[(1,aI st),(2,.ptr 2 b1 0),(5,.rw 11 V (1+(Qbl s st k).length)),(10,aI (a3.1:Int)),(6,aB a3.2)],[(2,.box b1 25 (stoA s)),(11,.row V 3 1 ([aI 0] :: (Qbl s st k).map intA))]⟩,fun a3=>s.nexts.length-a3.1,fun a3=>a3.1≤s.nexts.length∧a3.2=(decide (1≤(Qbl s st s.l.length).length)||(s.nexts.take a3.1).any (fun c=>decide (c.stamp>st)))⟩
 .lp L3 (0,mo) ⟨Nat.zero_le _,by rw [hH1.2,Qe1 (by omega)];simp⟩ [(10,aI 0)] [] ⟨sR,sR,sR,sO,sR,trivial⟩ bb2 fun a3 ha3=>
 (fun (j:Nat) (mp:Bool) (hH3:j≤s.nexts.length∧mp=(decide (1≤(Qbl s st s.l.length).length)||(s.nexts.take j).any (fun c=>decide (c.stamp>st))))=>.u 4 [b1]<|
 .lm 58 s.nexts cntA<|.r 1<|.bd 59 ((j:Int)<(s.nexts.length:Int)) (fun p5=>.r 2<|.br 63 (mp) (fun q6=>have p6:=booT q6;.r 10<|.run 3 [rng .i64 ((j:Int)+1)] ⟨Qaj (by omega) (by omega),trivial⟩<|
 .bk L3 (j,mp) ((j+1),true) (show (j+1)≤s.nexts.length∧true=(decide (1≤(Qbl s st s.l.length).length)||(s.nexts.take (j+1)).any (fun c=>decide (c.stamp>st))) from (Zd8 hH3.2 (by omega) q6)) (show s.nexts.length-(j+1)<s.nexts.length-j from (by omega)) [(10,aI ((j:Int)+1))] [] ⟨sR,sR,sR,sO,sR,trivial⟩ bb2)
 <| fun q6=>have p6:=booF q6;.u 3 [b1]<|
 .idxM s.nexts cntA j (m:=(j:Int)) rfl (by omega) fun x3 hx3=>
 have okx3:=oks.2.2.2.2 x3 (List.mem_of_getElem? hx3);.r 6<|.run 3 [rng .i64 ((j:Int)+1)] ⟨Qaj (by omega) (by omega),trivial⟩<|
 .bk L3 (j,mp) ((j+1),decide (x3.stamp>st)) (show (j+1)≤s.nexts.length∧(decide (x3.stamp>st))=(decide (1≤(Qbl s st s.l.length).length)||(s.nexts.take (j+1)).any (fun c=>decide (c.stamp>st))) from (Zak hx3 hH3.2 q6)) (show s.nexts.length-(j+1)<s.nexts.length-j from (by omega)) [(10,aI ((j:Int)+1))] [] ⟨sR,sR,sR,sO,sR,trivial⟩ bb2)
 <| fun p5=>.r 2<|.br 74 (!mp) (fun q7=>have q7:=notT q7;have p7:=booF q7;.r 1<|.f (.sl 1 false ((Qbz s st).map intA)) [] aN (by
  have e:Zal s st=(s.nexts.take j).any (fun c=>decide (c.stamp>st)):=by rw [Qav (by omega)];rfl
  have e2:=Qe1 (s:=s) (st:=st) (by omega:s.l.length≤k);have e3:=hH3.2;rw [q7,← e] at e3;rw [show Qbz s st=[] from by unfold Qbz;rw [if_neg (by rintro (h | h)<;>simp_all)]];exact Sub.nil _ _))
 <| fun q7=>have q7:=notF q7;have p7:=booT q7;.r 2<|.frz 11 [4] [] [V=V,1+(Qbl s st k).length=([aI 0] :: (Qbl s st k).map intA).length] ⟨rfl,(by first | rfl | (simp;done) | (simp;omega)),trivial⟩<|
 .f (.sl 1 false ((Qbz s st).map intA)) [] (.sl 1 false ([aI 0] :: (Qbl s st k).map intA)) (by
  have e:Zal s st=(s.nexts.take j).any (fun c=>decide (c.stamp>st)):=by rw [Qav (by omega)];rfl
  have e2:=Qe1 (s:=s) (st:=st) (by omega:s.l.length≤k);have e3:=hH3.2;rw [q7,← e] at e3;refine Sub.of_eq ?_;rw [show Qbz s st=0 :: Qbl s st k from by unfold Qbz;rw [e2,if_pos (by have:=e3.symm;simpa using this)]];rfl)) a3.1 a3.2 ha3) a1.1 a1.2.1 a1.2.2 ha1)
def Zmp (s:Sto):Nat:=(s.l.map (fun c=>c.l.length)).sum
def wV (v:Ver):Nat:=v.n.l.length
def wC (c:Chn):Nat:=c.l.length+(c.l.map wV).sum
def few (s:Sto):Prop:=s.l.length+s.nexts.length+(s.l.map wC).sum≤200∧∀ c∈s.l,∀ v∈c.l,v.n.text.length≤4096
def Qr4 (s:Sto) (k n:Nat):Prop:=k≤s.l.length∧n≤s.l.length+s.nexts.length+(s.l.map wC).sum ∧
 ((n=s.l.length+s.nexts.length+((s.l.take k).map wC).sum∧∀ c∈s.l.take k,∀ v∈c.l,v.n.text.length≤4096)∨200<n)∧n≤100000000000000
def Quu (c:Chn) (n j m:Nat):Prop:=j≤c.l.length∧m≤100000000000000∧m=n+c.l.length+((c.l.take j).map wV).sum∧(∀ v∈c.l.take j,v.n.text.length≤4096)
theorem fewS0 (s:Sto) (h1:s.l.length≤8796093022207) (h2:s.nexts.length≤8796093022207):Qr4 s 0 (s.l.length+s.nexts.length):=
 ⟨Nat.zero_le _,by omega,.inl ⟨by simp,fun c h=>by simp at h⟩,by omega⟩
theorem fewSV0 (c:Chn) (n:Nat) (h1:n≤200) (h2:c.l.length≤8796093022207):Quu c n 0 (n+c.l.length):=⟨Nat.zero_le _,by omega,by simp,fun v h=>by simp at h⟩
theorem fewSV {c:Chn} {v:Ver} {n j m:Nat} (hv:c.l[j]?=some v) (h:Quu c n j m) (h0:j<c.l.length) (h1:m≤200) (h2:v.n.text.length≤4096) (h3:v.n.l.length≤8796093022207):Quu c n (j+1) (m+v.n.l.length):=by
 obtain ⟨_,_,e,ht⟩:=h;refine ⟨h0,by omega,by rw [Ql6 wV hv,e];simp only [wV];omega,fun u hu=>?_⟩;rcases Qhy hv hu with h | rfl
 ·exact ht u h
 ·exact h2
theorem Qyn {s:Sto} {c:Chn} {k n j m:Nat} (hc:s.l[k]?=some c) (h:Qr4 s k n) (h0:k<s.l.length) (hn:n≤200) (h':Quu c n j m) (h3:¬ (j:Int)<c.l.length∨¬ (m:Int)≤200):Qr4 s (k+1) m:=by
 obtain ⟨_,_,h,_⟩:=h;obtain ⟨hj,hm,e,ht⟩:=h';rcases h with ⟨h,htx⟩ | h
 ·have h5:=Ql6 wC hc;have h6:=Qe5 wC s.l (k+1);have h7:=Qe5 wV c.l j;have h8:wC c=c.l.length+(c.l.map wV).sum:=rfl;refine ⟨h0,by omega,?_,hm⟩;by_cases h9:m≤200
  ·have hj':c.l.length≤j:=by omega
   rw [Qav hj'] at e ht;refine .inl ⟨by omega,fun d hd=>?_⟩;rcases Qhy hc hd with h | rfl
   ·exact htx d h
   ·exact ht
  ·exact .inr (by omega)
 ·omega
theorem Zja {s:Sto} {c:Chn} {v:Ver} {k j:Nat} (hc:s.l[k]?=some c) (hv:c.l[j]?=some v) (h:¬ v.n.text.length≤4096):¬ few s:=fun hf=>h (hf.2 c (List.mem_of_getElem? hc) v (List.mem_of_getElem? hv))
theorem Qyo {s:Sto} {k n:Nat} (h:Qr4 s k n) (h3:¬ (k:Int)<s.l.length∨¬ (n:Int)≤200):decide ((n:Int)≤200)=true↔few s:=by
 obtain ⟨hk,hle,h,_⟩:=h;rw [decide_eq_true_iff];refine ⟨fun hn=>?_,fun hf=>?_⟩
 ·have hk':s.l.length≤k:=by omega
  rcases h with ⟨h,ht⟩ | h
  ·rw [Qav hk'] at h ht;exact ⟨by omega,ht⟩
  ·omega
 ·have:=hf.1;omega
theorem Zfn (s:Sto) (oks:OkS s):Qah prog 47 [.agg (stoA s)] (aB (dP (few s))):=by
 have hs1:=oks.2.1;have hs2:=oks.2.2.1;exact Qab func47 (let R:AV:=aB (dP (few s));
 .new fun b1=>.r 1<|.u 3 [b1]<|
 .lm 8 s.l chnA<|.u 3 [b1]<|
 .lm 11 s.nexts cntA<|.run 2 [rng .i64 ((s.l.length:Int)+(s.nexts.length:Int))] ⟨Qaj (by omega) (by omega),trivial⟩<|
 .r 1<|let L1:Lp (Nat × Nat):=⟨fun a1=>⟨[(1,.ptr 1 b1 0),(4,aI (a1.1:Int)),(3,aI (a1.2:Int))],[(1,.box b1 25 (stoA s))]⟩,fun a1=>s.l.length-a1.1,fun a1=>Qr4 s a1.1 a1.2⟩
 .lp L1 (0,s.l.length+s.nexts.length) (show Qr4 s 0 (s.l.length+s.nexts.length) from fewS0 s hs1 hs2) [(4,aI 0),(3,aI ((s.l.length:Int)+(s.nexts.length:Int)))] [] ⟨sR,sO,sO,trivial⟩ bb1 fun a1 ha1=>
 (fun (k:Nat) (n:Nat) (hH1:Qr4 s k n)=>.u 4 [b1]<|
 .lm 16 s.l chnA<|.r 2<|.bd 18 ((k:Int)<(s.l.length:Int)) (fun p1=>.r 3<|.bd 21 ((n:Int)≤200) (fun p2=>.u 4 [b1]<|
 .idxM s.l chnA k (m:=(k:Int)) rfl (by omega) fun x1 hx1=>
 have okx1:=oks.2.2.2.1 x1 (List.mem_of_getElem? hx1);have blx1:=okx1.2.1;.r 3<|.lm 31 x1.l verA<|.run 2 [rng .i64 ((n:Int)+(x1.l.length:Int))] ⟨Qaj (by omega) (by omega),trivial⟩<|
 .r 1<|let L2:Lp (Nat × Nat):=⟨fun a2=>⟨[(1,.ptr 1 b1 0),(4,aI (k:Int)),(5,aI (a2.1:Int)),(3,aI (a2.2:Int))],[(1,.box b1 25 (stoA s))]⟩,fun a2=>x1.l.length-a2.1,fun a2=>Quu x1 n a2.1 a2.2⟩
 .lp L2 (0,(n+x1.l.length)) (show Quu x1 n 0 (n+x1.l.length) from (fewSV0 _ _ (by omega) (by omega))) [(5,aI 0),(3,aI ((n:Int)+(x1.l.length:Int)))] [] ⟨sR,sR,sO,sO,trivial⟩ bb1 fun a2 ha2=>
 (fun (j:Nat) (m:Nat) (hH2:Quu x1 n j m)=>.u 4 [b1]<|
 .idx k (m:=(k:Int)) (xs:=s.l.map chnA) (e:=chnA x1) rfl (map_some hx1)<|
 .r 3<|.lm 40 x1.l verA<|.r 2<|.bd 42 ((j:Int)<(x1.l.length:Int)) (fun p3=>.r 3<|.bd 45 ((m:Int)≤200) (fun p4=>.u 4 [b1]<|
 .idx k (m:=(k:Int)) (xs:=s.l.map chnA) (e:=chnA x1) rfl (map_some hx1)<|
 .r 3<|.idxM x1.l verA j (m:=(j:Int)) rfl (by omega) fun x2 hx2=>
 have okx2:=okx1.2.2 x2 (List.mem_of_getElem? hx2);have blx2:=okx2.2.2.2.2.2.1;.r 4<|.lm 60 x2.n.l entA<|.run 2 [rng .i64 ((m:Int)+(x2.n.l.length:Int))] ⟨Qaj (by omega) (by omega),trivial⟩<|
 .u 3 [b1]<|
 .idx k (m:=(k:Int)) (xs:=s.l.map chnA) (e:=chnA x1) rfl (map_some hx1)<|
 .r 3<|.idx j (m:=(j:Int)) (xs:=x1.l.map verA) (e:=verA x2) rfl (map_some hx2)<|
 .r 5<|.bd 74 (((x2.n.text).length:Int)>4096) (fun p5=>.r 1<|.f R [] (aB false) (by exact sF (Zja hx1 hx2 (by omega))))
 <| fun p5=>.run 3 [rng .i64 ((j:Int)+1)] ⟨Qaj (by omega) (by omega),trivial⟩<|
 .bk L2 (j,m) ((j+1),(m+x2.n.l.length)) (show Quu x1 n (j+1) (m+x2.n.l.length) from (fewSV hx2 hH2 (by omega) (by omega) (by omega) (by omega))) (show x1.l.length-(j+1)<x1.l.length-j from (by omega)) [(5,aI ((j:Int)+1)),(3,aI ((m:Int)+(x2.n.l.length:Int)))] [] ⟨sR,sR,sO,sO,trivial⟩ bb1)
 <| fun p4=>.run 3 [rng .i64 ((k:Int)+1)] ⟨Qaj (by omega) (by omega),trivial⟩<|
 .bk L1 (k,n) ((k+1),m) (show Qr4 s (k+1) m from (Qyn hx1 hH1 (by omega) (by omega) hH2 (by omega))) (show s.l.length-(k+1)<s.l.length-k from (by omega)) [(4,aI ((k:Int)+1))] [] ⟨sR,sO,sR,trivial⟩ bb1)
 <| fun p3=>.r 3<|.run 3 [rng .i64 ((k:Int)+1)] ⟨Qaj (by omega) (by omega),trivial⟩<|
 .bk L1 (k,n) ((k+1),m) (show Qr4 s (k+1) m from (Qyn hx1 hH1 (by omega) (by omega) hH2 (by omega))) (show s.l.length-(k+1)<s.l.length-k from (by omega)) [(4,aI ((k:Int)+1))] [] ⟨sR,sO,sR,trivial⟩ bb1) a2.1 a2.2 ha2)
 <| fun p2=>.r 3<|.f R [] (aB (decide ((n:Int)≤200))) (by exact sE (Qyo hH1 (by omega))))
 <| fun p1=>.r 3<|.r 3<|.f R [] (aB (decide ((n:Int)≤200))) (by exact sE (Qyo hH1 (by omega)))) a1.1 a1.2 ha1)
def newS:Sto:=⟨[⟨1,[⟨1,false,Qja⟩]⟩],[⟨1,2⟩],1⟩
theorem Qk9:OkS newS:=⟨⟨by decide,by decide⟩,by show (1:Nat)≤_;omega,by show (1:Nat)≤_;omega,fun c h=>by
  obtain rfl:=List.mem_singleton.1 h;exact ⟨⟨by decide,by decide⟩,by show (1:Nat)≤_;omega,fun v hv=>by obtain rfl:=List.mem_singleton.1 hv;exact ⟨⟨by decide,by decide⟩,Qxi⟩⟩,
 fun c h=>by obtain rfl:=List.mem_singleton.1 h;exact ⟨⟨by decide,by decide⟩,⟨by decide,by decide⟩⟩⟩
theorem Qkv {α:Type} {Q:Nat→α→Prop} {x:α} (h:Q 0 x):AllQ Q [x]:=fun i e he=>by
 match i,he with
 | 0,he=>simp at he;subst he;exact h
 | i+1,he=>simp at he
theorem Zai:Qcf newS:=by
 refine ⟨by decide,⟨by decide,Qkv ⟨by decide,by decide,fun d h=>by omega⟩⟩,Qkv (by show (1:Int)≤2;decide),Qkv ⟨⟨by decide,⟨by decide,Qkv ⟨by decide,by decide,fun d h=>by omega⟩⟩,Qkv ⟨fun h=>(by cases h),fun _=>⟨?_,rfl⟩⟩⟩,fun d h=>by omega⟩⟩;exact ⟨by decide,by decide,by decide,.inl ⟨rfl,rfl,Qcg⟩⟩
theorem Qw4 {α:Type} {f:α→Int} {st:Int} {l:List α} {x:α} (h:atD f st l=some x):x∈l:=by
 unfold atD at h
 split at h
 ·cases h
 ·exact List.mem_of_getElem? h
theorem Zg7 {st:Int} {c:Chn} {n:Nod} (ok:OkC c) (h:Qb6 st c=some n):OkN n:=by
 unfold Qb6 at h
 split at h
 ·rename_i v hv
  split at h
  ·cases h
  ·obtain rfl:=Option.some.inj h;exact (ok.2.2 v (Qw4 hv)).2
 ·cases h
theorem Qmm {s:Sto} (ok:OkS s) (st:Int):OkF (Qb5 s st):=by
 refine ⟨?_,?_,fun n hn=>?_⟩
 ·show I64 (Qhx s st);unfold Qhx
  split
  ·rename_i c hc;exact (ok.2.2.2.2 c (Qw4 hc)).2
  ·exact ⟨by decide,by decide⟩
 ·have:=List.length_filterMap_le (Qb6 st) s.l;have:=ok.2.1;show (s.l.filterMap (Qb6 st)).length≤_;omega
 ·obtain ⟨c,hc,hv⟩:=List.mem_filterMap.1 hn;exact Zg7 (ok.2.2.2.1 c hc) hv
theorem Zhm (s:Sto) (st:Int):(Qbz s st).length≤s.l.length+1:=by
 unfold Qbz
 split
 ·have:=Qh0 s st s.l.length;simp;omega
 ·simp
theorem Qym {s:Sto} (h:few s):s.l.length≤200∧s.nexts.length≤200∧Zmp s≤200:=by
 have h1:=h.1;have h2:(s.l.map (fun c=>c.l.length)).sum≤(s.l.map wC).sum:=by
  clear h h1
  induction s.l with
  | nil=>simp
  | cons c r ih=>simp only [List.map_cons,List.sum_cons,wC];omega
 unfold Zmp;omega
theorem Zbs {st last:Int} {c:Chn} (hle:st≤last) (h:Qfb st c=false):Qb6 st c=Qb6 last c:=by
 have h0:∀ v∈c.l,v.stamp≤st:=fun v hv=>by
  have:=List.any_eq_false.1 h v hv;simp at this;exact this
 have key:∀ b,st≤b→cutV Ver.stamp b c.l=c.l.length:=fun b hb=>by
  refine Qgo _ _ _ _ (Nat.le_refl _) (fun j x hj hx=>by have:=Qan hx;omega) ?_;cases hl:c.l with
  | nil=>exact .inl rfl
  | cons v r=>
   right;have hlt:(v :: r).length-1<(v :: r).length:=by simp
   refine ⟨(v :: r)[(v :: r).length-1],List.getElem?_eq_getElem hlt,?_⟩;have:=h0 _ (by rw [hl];exact List.getElem_mem hlt);omega
 unfold Qb6 atD;rw [key st (Int.le_refl _),key last hle]
theorem Qse {s:Sto} (hp:Qcf s) {c:Chn} (hc:c∈s.l) {st:Int} {n:Nod} (h:Qb6 st c=some n):n.ino=c.ino:=by
 obtain ⟨k,hk⟩:=List.getElem?_of_mem hc;have hch:=(hp.2.2.2.at hk).1;unfold Qb6 at h
 split at h
 ·rename_i v hv
  split at h
  ·cases h
  ·rename_i hg;obtain rfl:=Option.some.inj h;obtain ⟨j,hj⟩:=List.getElem?_of_mem (Qw4 hv);exact ((hch.2.2 j v hj).2 (by simpa using hg)).2
 ·cases h
theorem Qo8 {s:Sto} (hp:Qcf s):Qbz s s.stamp=[]:=by
 have h1:∀ c∈s.l,Qfb s.stamp c=false:=fun c hc=>by
  obtain ⟨k,hk⟩:=List.getElem?_of_mem hc;have hch:=(hp.2.2.2.at hk).1;refine List.any_eq_false.2 fun v hv=>?_;obtain ⟨j,hj⟩:=List.getElem?_of_mem hv;have:=(hch.2.1.2.at hj).2.1;simp;omega
 have h2:Qbl s s.stamp s.l.length=[]:=by
  unfold Qbl;rw [Qav (Nat.le_refl _),List.filter_eq_nil_iff.2 (fun c hc=>by simp [h1 c hc])];rfl
 have h3:Zal s s.stamp=false:=by
  refine List.any_eq_false.2 fun c hc=>?_;obtain ⟨j,hj⟩:=List.getElem?_of_mem hc;have:=(hp.2.1.2.at hj).2.1;simp;omega
 unfold Qbz;rw [h2,h3];simp
end Go.Proofs.YtahlldgocpabjaaGreat
