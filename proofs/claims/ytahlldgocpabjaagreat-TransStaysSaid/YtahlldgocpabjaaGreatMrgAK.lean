import Derived.Test.YtahlldgocpabjaaGreatMrgAJ
import Derived.Test.YtahlldgocpabjaaGreatMrgAD
import Derived.Test.YtahlldgocpabjaaGreatAbsBr
import Derived.Test.YtahlldgocpabjaaGreatMrgA
import Derived.Test.YtahlldgocpabjaaGreatMrgJ
import Derived.Test.YtahlldgocpabjaaGreatRows
import Derived.Test.YtahlldgocpabjaaGreatMrgAB
import Derived.Test.YtahlldgocpabjaaGreatMrgAI
set_option maxRecDepth 100000
set_option maxHeartbeats 8000000
set_option linter.unusedVariables false
set_option linter.unusedSimpArgs false
namespace Go.Proofs.YtahlldgocpabjaaGreat
open Go Go.RowKit Copyhold
def hasI (l:List Int) (n:Int) (k:Nat):Bool:=(l.take k).any fun x=>x==n
theorem Quy (l:List Int) (n:Int):false=hasI l n 0:=rfl
theorem Qo1 {l:List Int} {n x:Int} {k:Nat} (h:l[k]?=some x):hasI l n (k+1)=(hasI l n k||(x==n)):=by
 unfold hasI
 rw [Qap h,List.any_append]
 simp
theorem Quz {l:List Int} {n:Int} {k:Nat} (h:hasI l n k=true):true=hasI l n (k+1):=by
 by_cases hk:k<l.length
 ·rw [Qo1 (List.getElem?_eq_getElem hk),h];rfl
 ·unfold hasI at *
  rw [Qay (by omega)] at *
  exact h.symm
theorem Za1 {l:List Int} {n:Int} {k:Nat} (hk:l.length≤k):hasI l n k=true↔n∈l:=by
 unfold hasI
 rw [Qay hk,List.any_eq_true]
 constructor
 ·rintro ⟨x,hx,h⟩
  rw [← eq_of_beq h];exact hx
 ·intro h
  exact ⟨n,h,by simp⟩
theorem Qir {t:Txn} {c:Cal} {n:Int} {j k:Nat} (hj:t.looks.length≤j) (hk:(Qa7 t c).looks.length≤k) (h:hasI t.looks n j=true):hasI (Qa7 t c).looks n k=true:=
 (Za1 hk).2 (Qgc.2 (List.mem_append_left _ ((Za1 hj).1 h)))
theorem Zhk {t:Txn} {c:Cal} (okt:OkT t) (hl:t.looks.length≤90000) (K:Kept t.now (doF t.now c).1):OkT (Qa7 t c):=⟨okt.stamp,okt.was,K.ok,by have:=Qh3 t c;omega⟩
theorem Qxx {t:Txn} {c:Cal} (hf:fewF t.now) (h:txnP t) (K:Kept t.now (doF t.now c).1):txnP (Qa7 t c):=by
 refine ⟨⟨Qx8 t c,fun x hx=>?_⟩,h.2.1,Qvt (Qz6 hf K) K.tree,?_,h.2.2.2.2⟩
 ·rcases List.mem_append.1 (Qgc.1 hx) with hx | hx
  ·exact h.1.2 x hx
  ·rcases Qpw.1 hx with ⟨rfl,_⟩ | ⟨_,h⟩
   ·exact Int.le_refl _
   ·omega
 ·have:=K.next.1
  have:=h.2.2.2.1
  show t.was.next≤(doF t.now c).1.next
  omega
theorem Qkz (t:Txn) (c:Cal) (n:Int) (okt:OkT t) (okc0:OkC0 c) (hn:I64 n):Qaj Tryz.prog 6 [.agg [aI t.stamp,.sl 5 false (t.was.l.map nodA),aI t.was.next,.sl 5 false (t.now.l.map nodA),aI t.now.next,.sl 1 false (t.looks.map intA)],.agg (calA c),aI n] (aB true):=by
 have hbl:=okt.len
 have hsl:=Qh3 t c
 exact Qac (F:=Tryz.f6) 400 (
 .new fun b1=>.new fun b2=>.r 1<|.call (Zhp)<|
 .r 1<|.run 1 [b1=b1] rt1<|
 .call (Qv8 t okt)<|
 .r 2<|.br 20 (!(dP (fewT t))) (fun q1=>have q1:=notT q1;have p1:=booF q1;.r 5<|.r 2<|.fin (x:=aB true) (r:=aB true) [] trivial (by exact Sub.of_eq (by first | rfl | exact congrArg aB (Qir (j:=k) (by omega) (by omega) (by simp_all)) | (refine congrArg aB ?_;simp_all;done))))
 <| fun q1=>have q1:=notF q1;have p1:=booT q1;have hft:=Qbb.1 q1;have hpt:=hft.2.2.2.2;have T:=Qsg hft.2.1 hpt.2.2.1;have hp:=T.rows;have hx:=hft.2.2.2.1;have hl:=hft.2.2.1;.run 2 [b2=b2] rt1<|
 .callS (args0:=[.sl 8 true ([(calA c)])]) (args:=[.sl 8 false ([c].map calA)]) ⟨Sub.loose _ _ _,trivial⟩ (Qv1 [c] (by show 1≤_;omega) (fun x hx=>by rw [List.mem_singleton.1 hx];exact okc0))<|
 .r 2<|.br 25 (!(dP (Qfc [c]))) (fun q2=>have q2:=notT q2;have p2:=booF q2;.r 2<|.fin (x:=aB true) (r:=aB true) [] trivial (by exact Sub.of_eq (by first | rfl | exact congrArg aB (Qir (j:=k) (by omega) (by omega) (by simp_all)) | (refine congrArg aB ?_;simp_all;done))))
 <| fun q2=>have q2:=notF q2;have p2:=booT q2;have okc:=Zdf (Qbb.1 q2) (List.mem_singleton.2 rfl) okc0;have kd:=Zap okt.now okc T (by omega);have htx:=(Qyd (Qbb.1 q2) (List.mem_singleton.2 rfl)).2.2;.run 2 [b1=b1,b2=b2] rt2<|
 .call (Qk5 t c okt.now okc hp (by omega) (by omega))<|
 .r 3<|.new fun b3=>.new fun b4=>.run 2 [b3=b3,b4=b4] rt2<|
 .run 3 [b1=b1,b2=b2] rt2<|
 .call (Zdv t.now c okt.now okc hp (by omega) T (Qou hft.2.1) (by omega))<|
 .r 3<|.new fun b5=>.new fun b6=>.run 2 [b5=b5,b6=b6] rt2<|
 .r 1<|.r 1<|.r 1<|let L1:Lp (Nat):=⟨fun a1=>⟨[(2,aI n),(3,.ptr 3 b1 0),(7,aB true),(8,.ptr 8 b3 0),(9,.ptr 9 b4 0),(10,.ptr 10 b5 0),(11,.ptr 11 b6 0),(13,aB false),(14,aI (a1:Int)),(12,aB (hasI t.looks n a1))],[(3,.box b1 31 [aI t.stamp,.sl 5 false (t.was.l.map nodA),aI t.was.next,.sl 5 false (t.now.l.map nodA),aI t.now.next,.sl 1 false (t.looks.map intA)]),(8,.box b3 31 [aI ((Qa7 t c).stamp),.sl 5 false ((Qa7 t c).was.l.map nodA),aI ((Qa7 t c).was.next),.sl 5 false ((Qa7 t c).now.l.map nodA),aI ((Qa7 t c).now.next),.sl 1 false ((Qa7 t c).looks.map intA)]),(9,.box b4 45 [aI ((doF t.now c).2.e),aI ((doF t.now c).2.a),aI ((doF t.now c).2.b),aI ((doF t.now c).2.n),aS ((doF t.now c).2.text),.sl 1 false ((doF t.now c).2.names.map txA)]),(10,.box b5 28 [.sl 5 false ((doF t.now c).1.l.map nodA),aI ((doF t.now c).1.next)]),(11,.box b6 45 [aI ((doF t.now c).2.e),aI ((doF t.now c).2.a),aI ((doF t.now c).2.b),aI ((doF t.now c).2.n),aS ((doF t.now c).2.text),.sl 1 false ((doF t.now c).2.names.map txA)])]⟩,fun a1=>t.looks.length-a1,fun a1=>a1≤t.looks.length⟩
 .loop L1 0 (show 0≤t.looks.length from Nat.zero_le _) ⟨[(2,aI n),(3,.ptr 3 b1 0),(7,aB true),(8,.ptr 8 b3 0),(9,.ptr 9 b4 0),(10,.ptr 10 b5 0),(11,.ptr 11 b6 0),(13,aB false),(14,aI 0),(12,aB false)],[(3,.box b1 31 [aI t.stamp,.sl 5 false (t.was.l.map nodA),aI t.was.next,.sl 5 false (t.now.l.map nodA),aI t.now.next,.sl 1 false (t.looks.map intA)]),(8,.box b3 31 [aI ((Qa7 t c).stamp),.sl 5 false ((Qa7 t c).was.l.map nodA),aI ((Qa7 t c).was.next),.sl 5 false ((Qa7 t c).now.l.map nodA),aI ((Qa7 t c).now.next),.sl 1 false ((Qa7 t c).looks.map intA)]),(9,.box b4 45 [aI ((doF t.now c).2.e),aI ((doF t.now c).2.a),aI ((doF t.now c).2.b),aI ((doF t.now c).2.n),aS ((doF t.now c).2.text),.sl 1 false ((doF t.now c).2.names.map txA)]),(10,.box b5 28 [.sl 5 false ((doF t.now c).1.l.map nodA),aI ((doF t.now c).1.next)]),(11,.box b6 45 [aI ((doF t.now c).2.e),aI ((doF t.now c).2.a),aI ((doF t.now c).2.b),aI ((doF t.now c).2.n),aS ((doF t.now c).2.text),.sl 1 false ((doF t.now c).2.names.map txA)])]⟩ ⟨sR,sR,sR,sR,sR,sR,sR,sR,Sub.of_eq (congrArg aI (by first | omega | rfl)),Sub.of_eq (congrArg aB (Quy _ _)),trivial⟩ ⟨⟨_,rfl,SubB.refl _⟩,⟨_,rfl,SubB.refl _⟩,⟨_,rfl,SubB.refl _⟩,⟨_,rfl,SubB.refl _⟩,⟨_,rfl,SubB.refl _⟩,trivial⟩ fun a1 ha1=>
 (fun (k:Nat) (hH1:k≤t.looks.length)=>.run 4 [b1=b1] rt1<|
 .val 43 (show (aI ((t.looks.map intA).length:Int):AV)=aI (t.looks.length:Int) from by rw [List.length_map])<|.r 1<|.br 44 (decide ((k:Int)<(t.looks.length:Int))) (fun q3=>have p3:=decT q3;.r 2<|.br 48 ((hasI t.looks n k)) (fun q4=>have p4:=booT q4;.r 9<|.run 3 [rng .i64 ((k:Int)+1)] ⟨Qas (by omega) (by omega),trivial⟩<|
 .back L1 k (k+1) (show (k+1)≤t.looks.length from (by show _≤_;omega)) (show t.looks.length-(k+1)<t.looks.length-k from (by omega)) ⟨[(2,aI n),(3,.ptr 3 b1 0),(7,aB true),(8,.ptr 8 b3 0),(9,.ptr 9 b4 0),(10,.ptr 10 b5 0),(11,.ptr 11 b6 0),(13,aB false),(14,aI ((k:Int)+1)),(12,aB true)],[(3,.box b1 31 [aI t.stamp,.sl 5 false (t.was.l.map nodA),aI t.was.next,.sl 5 false (t.now.l.map nodA),aI t.now.next,.sl 1 false (t.looks.map intA)]),(8,.box b3 31 [aI ((Qa7 t c).stamp),.sl 5 false ((Qa7 t c).was.l.map nodA),aI ((Qa7 t c).was.next),.sl 5 false ((Qa7 t c).now.l.map nodA),aI ((Qa7 t c).now.next),.sl 1 false ((Qa7 t c).looks.map intA)]),(9,.box b4 45 [aI ((doF t.now c).2.e),aI ((doF t.now c).2.a),aI ((doF t.now c).2.b),aI ((doF t.now c).2.n),aS ((doF t.now c).2.text),.sl 1 false ((doF t.now c).2.names.map txA)]),(10,.box b5 28 [.sl 5 false ((doF t.now c).1.l.map nodA),aI ((doF t.now c).1.next)]),(11,.box b6 45 [aI ((doF t.now c).2.e),aI ((doF t.now c).2.a),aI ((doF t.now c).2.b),aI ((doF t.now c).2.n),aS ((doF t.now c).2.text),.sl 1 false ((doF t.now c).2.names.map txA)])]⟩ ⟨sR,sR,sR,sR,sR,sR,sR,sR,Sub.of_eq (congrArg aI (by first | omega | rfl)),Sub.of_eq (congrArg aB (Quz (by simp_all))),trivial⟩ ⟨⟨_,rfl,SubB.refl _⟩,⟨_,rfl,SubB.refl _⟩,⟨_,rfl,SubB.refl _⟩,⟨_,rfl,SubB.refl _⟩,⟨_,rfl,SubB.refl _⟩,trivial⟩)
 <| fun q4=>have p4:=booF q4;.run 3 [b1=b1] rt1<|
 .idxM t.looks intA k (m:=(k:Int)) rfl (by omega) fun x1 hx1=>
 .r 5<|.run 3 [rng .i64 ((k:Int)+1)] ⟨Qas (by omega) (by omega),trivial⟩<|
 .back L1 k (k+1) (show (k+1)≤t.looks.length from (by show _≤_;omega)) (show t.looks.length-(k+1)<t.looks.length-k from (by omega)) ⟨[(2,aI n),(3,.ptr 3 b1 0),(7,aB true),(8,.ptr 8 b3 0),(9,.ptr 9 b4 0),(10,.ptr 10 b5 0),(11,.ptr 11 b6 0),(13,aB false),(14,aI ((k:Int)+1)),(12,aB (x1==n))],[(3,.box b1 31 [aI t.stamp,.sl 5 false (t.was.l.map nodA),aI t.was.next,.sl 5 false (t.now.l.map nodA),aI t.now.next,.sl 1 false (t.looks.map intA)]),(8,.box b3 31 [aI ((Qa7 t c).stamp),.sl 5 false ((Qa7 t c).was.l.map nodA),aI ((Qa7 t c).was.next),.sl 5 false ((Qa7 t c).now.l.map nodA),aI ((Qa7 t c).now.next),.sl 1 false ((Qa7 t c).looks.map intA)]),(9,.box b4 45 [aI ((doF t.now c).2.e),aI ((doF t.now c).2.a),aI ((doF t.now c).2.b),aI ((doF t.now c).2.n),aS ((doF t.now c).2.text),.sl 1 false ((doF t.now c).2.names.map txA)]),(10,.box b5 28 [.sl 5 false ((doF t.now c).1.l.map nodA),aI ((doF t.now c).1.next)]),(11,.box b6 45 [aI ((doF t.now c).2.e),aI ((doF t.now c).2.a),aI ((doF t.now c).2.b),aI ((doF t.now c).2.n),aS ((doF t.now c).2.text),.sl 1 false ((doF t.now c).2.names.map txA)])]⟩ ⟨sR,sR,sR,sR,sR,sR,sR,sR,Sub.of_eq (congrArg aI (by first | omega | rfl)),Sub.of_eq (congrArg aB (by rw [Qo1 hx1];simp_all)),trivial⟩ ⟨⟨_,rfl,SubB.refl _⟩,⟨_,rfl,SubB.refl _⟩,⟨_,rfl,SubB.refl _⟩,⟨_,rfl,SubB.refl _⟩,⟨_,rfl,SubB.refl _⟩,trivial⟩)
 <| fun q3=>have p3:=decF q3;.r 1<|let L2:Lp (Nat):=⟨fun a2=>⟨[(2,aI n),(3,.ptr 3 b1 0),(7,aB true),(8,.ptr 8 b3 0),(9,.ptr 9 b4 0),(10,.ptr 10 b5 0),(11,.ptr 11 b6 0),(12,aB (hasI t.looks n k)),(15,aI (a2:Int)),(13,aB (hasI (Qa7 t c).looks n a2))],[(3,.box b1 31 [aI t.stamp,.sl 5 false (t.was.l.map nodA),aI t.was.next,.sl 5 false (t.now.l.map nodA),aI t.now.next,.sl 1 false (t.looks.map intA)]),(8,.box b3 31 [aI ((Qa7 t c).stamp),.sl 5 false ((Qa7 t c).was.l.map nodA),aI ((Qa7 t c).was.next),.sl 5 false ((Qa7 t c).now.l.map nodA),aI ((Qa7 t c).now.next),.sl 1 false ((Qa7 t c).looks.map intA)]),(9,.box b4 45 [aI ((doF t.now c).2.e),aI ((doF t.now c).2.a),aI ((doF t.now c).2.b),aI ((doF t.now c).2.n),aS ((doF t.now c).2.text),.sl 1 false ((doF t.now c).2.names.map txA)]),(10,.box b5 28 [.sl 5 false ((doF t.now c).1.l.map nodA),aI ((doF t.now c).1.next)]),(11,.box b6 45 [aI ((doF t.now c).2.e),aI ((doF t.now c).2.a),aI ((doF t.now c).2.b),aI ((doF t.now c).2.n),aS ((doF t.now c).2.text),.sl 1 false ((doF t.now c).2.names.map txA)])]⟩,fun a2=>(Qa7 t c).looks.length-a2,fun a2=>a2≤(Qa7 t c).looks.length⟩
 .loop L2 0 (show 0≤(Qa7 t c).looks.length from Nat.zero_le _) ⟨[(2,aI n),(3,.ptr 3 b1 0),(7,aB true),(8,.ptr 8 b3 0),(9,.ptr 9 b4 0),(10,.ptr 10 b5 0),(11,.ptr 11 b6 0),(12,aB (hasI t.looks n k)),(15,aI 0),(13,aB false)],[(3,.box b1 31 [aI t.stamp,.sl 5 false (t.was.l.map nodA),aI t.was.next,.sl 5 false (t.now.l.map nodA),aI t.now.next,.sl 1 false (t.looks.map intA)]),(8,.box b3 31 [aI ((Qa7 t c).stamp),.sl 5 false ((Qa7 t c).was.l.map nodA),aI ((Qa7 t c).was.next),.sl 5 false ((Qa7 t c).now.l.map nodA),aI ((Qa7 t c).now.next),.sl 1 false ((Qa7 t c).looks.map intA)]),(9,.box b4 45 [aI ((doF t.now c).2.e),aI ((doF t.now c).2.a),aI ((doF t.now c).2.b),aI ((doF t.now c).2.n),aS ((doF t.now c).2.text),.sl 1 false ((doF t.now c).2.names.map txA)]),(10,.box b5 28 [.sl 5 false ((doF t.now c).1.l.map nodA),aI ((doF t.now c).1.next)]),(11,.box b6 45 [aI ((doF t.now c).2.e),aI ((doF t.now c).2.a),aI ((doF t.now c).2.b),aI ((doF t.now c).2.n),aS ((doF t.now c).2.text),.sl 1 false ((doF t.now c).2.names.map txA)])]⟩ ⟨sR,sR,sR,sR,sR,sR,sR,sR,Sub.of_eq (congrArg aI (by first | omega | rfl)),Sub.of_eq (congrArg aB (Quy _ _)),trivial⟩ ⟨⟨_,rfl,SubB.refl _⟩,⟨_,rfl,SubB.refl _⟩,⟨_,rfl,SubB.refl _⟩,⟨_,rfl,SubB.refl _⟩,⟨_,rfl,SubB.refl _⟩,trivial⟩ fun a2 ha2=>
 (fun (j:Nat) (hH2:j≤(Qa7 t c).looks.length)=>.run 4 [b3=b3] rt1<|
 .val 60 (show (aI (((Qa7 t c).looks.map intA).length:Int):AV)=aI (((Qa7 t c).looks).length:Int) from by rw [List.length_map])<|.r 1<|.br 61 (decide ((j:Int)<(((Qa7 t c).looks).length:Int))) (fun q5=>have p5:=decT q5;.r 2<|.br 65 ((hasI (Qa7 t c).looks n j)) (fun q6=>have p6:=booT q6;.r 9<|.run 3 [rng .i64 ((j:Int)+1)] ⟨Qas (by omega) (by omega),trivial⟩<|
 .back L2 j (j+1) (show (j+1)≤(Qa7 t c).looks.length from (by show _≤_;omega)) (show (Qa7 t c).looks.length-(j+1)<(Qa7 t c).looks.length-j from (by omega)) ⟨[(2,aI n),(3,.ptr 3 b1 0),(7,aB true),(8,.ptr 8 b3 0),(9,.ptr 9 b4 0),(10,.ptr 10 b5 0),(11,.ptr 11 b6 0),(12,aB (hasI t.looks n k)),(15,aI ((j:Int)+1)),(13,aB true)],[(3,.box b1 31 [aI t.stamp,.sl 5 false (t.was.l.map nodA),aI t.was.next,.sl 5 false (t.now.l.map nodA),aI t.now.next,.sl 1 false (t.looks.map intA)]),(8,.box b3 31 [aI ((Qa7 t c).stamp),.sl 5 false ((Qa7 t c).was.l.map nodA),aI ((Qa7 t c).was.next),.sl 5 false ((Qa7 t c).now.l.map nodA),aI ((Qa7 t c).now.next),.sl 1 false ((Qa7 t c).looks.map intA)]),(9,.box b4 45 [aI ((doF t.now c).2.e),aI ((doF t.now c).2.a),aI ((doF t.now c).2.b),aI ((doF t.now c).2.n),aS ((doF t.now c).2.text),.sl 1 false ((doF t.now c).2.names.map txA)]),(10,.box b5 28 [.sl 5 false ((doF t.now c).1.l.map nodA),aI ((doF t.now c).1.next)]),(11,.box b6 45 [aI ((doF t.now c).2.e),aI ((doF t.now c).2.a),aI ((doF t.now c).2.b),aI ((doF t.now c).2.n),aS ((doF t.now c).2.text),.sl 1 false ((doF t.now c).2.names.map txA)])]⟩ ⟨sR,sR,sR,sR,sR,sR,sR,sR,Sub.of_eq (congrArg aI (by first | omega | rfl)),Sub.of_eq (congrArg aB (Quz (by simp_all))),trivial⟩ ⟨⟨_,rfl,SubB.refl _⟩,⟨_,rfl,SubB.refl _⟩,⟨_,rfl,SubB.refl _⟩,⟨_,rfl,SubB.refl _⟩,⟨_,rfl,SubB.refl _⟩,trivial⟩)
 <| fun q6=>have p6:=booF q6;.run 3 [b3=b3] rt1<|
 .idxM ((Qa7 t c).looks) intA j (m:=(j:Int)) rfl (by omega) fun x2 hx2=>
 .r 5<|.run 3 [rng .i64 ((j:Int)+1)] ⟨Qas (by omega) (by omega),trivial⟩<|
 .back L2 j (j+1) (show (j+1)≤(Qa7 t c).looks.length from (by show _≤_;omega)) (show (Qa7 t c).looks.length-(j+1)<(Qa7 t c).looks.length-j from (by omega)) ⟨[(2,aI n),(3,.ptr 3 b1 0),(7,aB true),(8,.ptr 8 b3 0),(9,.ptr 9 b4 0),(10,.ptr 10 b5 0),(11,.ptr 11 b6 0),(12,aB (hasI t.looks n k)),(15,aI ((j:Int)+1)),(13,aB (x2==n))],[(3,.box b1 31 [aI t.stamp,.sl 5 false (t.was.l.map nodA),aI t.was.next,.sl 5 false (t.now.l.map nodA),aI t.now.next,.sl 1 false (t.looks.map intA)]),(8,.box b3 31 [aI ((Qa7 t c).stamp),.sl 5 false ((Qa7 t c).was.l.map nodA),aI ((Qa7 t c).was.next),.sl 5 false ((Qa7 t c).now.l.map nodA),aI ((Qa7 t c).now.next),.sl 1 false ((Qa7 t c).looks.map intA)]),(9,.box b4 45 [aI ((doF t.now c).2.e),aI ((doF t.now c).2.a),aI ((doF t.now c).2.b),aI ((doF t.now c).2.n),aS ((doF t.now c).2.text),.sl 1 false ((doF t.now c).2.names.map txA)]),(10,.box b5 28 [.sl 5 false ((doF t.now c).1.l.map nodA),aI ((doF t.now c).1.next)]),(11,.box b6 45 [aI ((doF t.now c).2.e),aI ((doF t.now c).2.a),aI ((doF t.now c).2.b),aI ((doF t.now c).2.n),aS ((doF t.now c).2.text),.sl 1 false ((doF t.now c).2.names.map txA)])]⟩ ⟨sR,sR,sR,sR,sR,sR,sR,sR,Sub.of_eq (congrArg aI (by first | omega | rfl)),Sub.of_eq (congrArg aB (by rw [Qo1 hx2];simp_all)),trivial⟩ ⟨⟨_,rfl,SubB.refl _⟩,⟨_,rfl,SubB.refl _⟩,⟨_,rfl,SubB.refl _⟩,⟨_,rfl,SubB.refl _⟩,⟨_,rfl,SubB.refl _⟩,trivial⟩)
 <| fun q5=>have p5:=decF q5;.run 3 [b3=b3] rt1<|
 .call (Qjw (Qa7 t c) (Zhk okt (by omega) kd) (Qou hft.1) (Qz6 hft.2.1 kd))<|
 .r 2<|.is 79 (show (dP (txnP (Qa7 t c)))=true from (Qbb.2 (Qxx hft.2.1 hpt kd)))<|.run 7 [b3=b3,b1=b1] rt2<|
 .is 86 (show (((Qa7 t c).stamp)==t.stamp)=true from (by show (t.stamp==t.stamp)=true;simp))<|.run 4 [b3=b3,b1=b1] rt2<|
 .call (Qns (Qa7 t c).was t.was okt.was okt.was)<|
 .r 2<|.is 93 (show (dP ((Qa7 t c).was=t.was))=true from (Qbb.2 rfl))<|.run 3 [b3=b3,b5=b5] rt2<|
 .call (Qns (Qa7 t c).now (doF t.now c).1 kd.ok kd.ok)<|
 .r 2<|.is 99 (show (dP ((Qa7 t c).now=(doF t.now c).1))=true from (Qbb.2 rfl))<|.run 2 [b4=b4,b6=b6] rt2<|
 .call (Qr9 (doF t.now c).2 (doF t.now c).2 (Qma hp) (Nat.le_trans (Qma hp) (by decide)))<|
 .r 2<|.is 104 (show (dP ((doF t.now c).2=(doF t.now c).2))=true from (Qbb.2 rfl))<|.r 3<|.br 107 (!(hasI t.looks n k)) (fun q7=>have q7:=notT q7;have p7:=booF q7;.r 4<|.fin (x:=aB true) (r:=aB true) [] trivial (by exact Sub.of_eq (by first | rfl | exact congrArg aB (Qir (j:=k) (by omega) (by omega) (by simp_all)) | (refine congrArg aB ?_;simp_all;done))))
 <| fun q7=>have q7:=notF q7;have p7:=booT q7;.r 4<|.fin (x:=aB (hasI (Qa7 t c).looks n j)) (r:=aB true) [] trivial (by exact Sub.of_eq (by first | rfl | exact congrArg aB (Qir (j:=k) (by omega) (by omega) (by simp_all)) | (refine congrArg aB ?_;simp_all;done)))) a2 ha2) a1 ha1) Tryz.func6 rfl (by kernel_rfl) (by kernel_rfl)
end Go.Proofs.YtahlldgocpabjaaGreat

namespace Copyhold
open Go Go.RowKit Go.ChangeShapes Go.WideShapes Go.ChangeAt Go.Deep
structure Opn {α:Type} (P:Program) (W:World) (t:TypeId) (en:α→List AV) (ok:α→Prop):Prop where
 run:∀ (H:Type) (enc:TypeId × Value→H) (fuel:Nat) (cs:List Value) (x:DataW H × List MemPlace),
  DataW.trod enc P W 0 (fun _=>true) true fuel t cs=some x→(∀ p∈x.2,p.block<W.heap.size)→(∀ n∈DataW.weights P t x.1,n≤140737488351232) →
  ∃ a,Qhk (·<W.heap.size) W (en a) cs∧(∀ u∈cs,u.oneCell'=true)∧ok a
section
variable {P:Program} {W:World} {t:TypeId}
theorem Opn.map {α β:Type} {en:α→List AV} {ok:α→Prop} {en':β→List AV} {ok':β→Prop} (h:Opn P W t en ok) (f:α→β) (he:∀ a,en' (f a)=en a) (ho:∀ a,ok a→ok' (f a)):Opn P W t en' ok':=Opn.mk fun H enc fuel cs x h1 h2 h3=>by
 obtain ⟨a,g1,g2,g3⟩:=h.run H enc fuel cs x h1 h2 h3
 exact ⟨f a,by rw [he];exact g1,g2,ho a g3⟩
theorem Qi2 {D:Nat→Prop} {w:World} {a:AV} {v:Value} (h:Ra D w a v):Qhk D w [a] [v]:=⟨rfl,fun j x u hx hu=>by
 match j,hx,hu with
 | 0,hx,hu=>simp at hx hu;subst hx hu;exact h
 | j+1,hx,_=>simp at hx⟩
theorem Zgc {z:Int} (w:(Lit.int .i64 z).wf=true):-9223372036854775808≤z∧z≤9223372036854775807:=by
 simpa [Lit.wf,IntKind.min,IntKind.max,IntKind.signed,IntKind.bits] using w
theorem Qd9 (hu:P.underlying t=some (.int .i64)):Opn P W t (fun n:Int=>[aI n]) (fun n=>-9223372036854775808≤n∧n≤9223372036854775807):=Opn.mk fun H enc fuel cs x h1 h2 h3=>by
 obtain ⟨n,rfl,rfl,hw⟩:=DataW.trod_int hu h1
 exact ⟨n,Qi2 (.val _),fun u hu=>by obtain rfl:=List.mem_singleton.1 hu;rfl,Zgc hw⟩
theorem Qfj (hu:P.underlying t=some .string):Opn P W t (fun n:List UInt8=>[aS n]) (fun n=>n.length≤140737488351232):=Opn.mk fun H enc fuel cs x h1 h2 h3=>by
 obtain ⟨s,rfl,rfl,_⟩:=DataW.trod_string hu h1
 exact ⟨s.data.toList,Qi2 (.val _),fun u hu=>by obtain rfl:=List.mem_singleton.1 hu;rfl,h3 _ (by simp [DataW.weights])⟩
theorem Qqe {α:Type} {en:α→List AV} {ok:α→Prop} {e:TypeId} {k:Nat} (h:Opn P W e en ok) (a0:α) (hu:P.underlying t=some (.slice e)) (hc:P.cellsOf e=k) (hk:0<k) (hb:16≤P.bytesOf e) :
  Opn P W t (fun l:List α=>[.sl k false (l.map en)]) (fun l=>l.length≤8796093022207∧∀ a∈l,ok a):=Opn.mk fun H enc fuel cs x h1 h2 h3=>by
 obtain ⟨v,rs,rfl,hr,hd⟩:=Qie (k:=k) (R:=fun a cs=>Qhk (·<W.heap.size) W (en a) cs∧(∀ u∈cs,u.oneCell'=true)∧ok a) hu hc hk a0 (fun n cs' y hy hl hcl hww=>h.run H enc n cs' y hy hl hww) h1 h2 h3
 have hsz:=Qna hu hd h3
 have:=Nat.le_trans (Nat.mul_le_mul_left rs.length hb) hsz
 have hra:Ra (·<W.heap.size) W (.sl k false (rs.map en)) v:=Qnf hr (·<W.heap.size) (fun _ h=>h) (fun a _ cs _ hR=>⟨hR.2.1,hR.1⟩)
 obtain ⟨A,c,rfl⟩:=hr.shape
 refine ⟨rs,Qi2 hra,fun u hu=>by obtain rfl:=List.mem_singleton.1 hu;rfl,by omega,fun a ha=>?_⟩
 obtain ⟨css,g1,g2,g3⟩:=hr
 obtain ⟨i,hi,rfl⟩:=List.mem_iff_getElem.1 ha
 exact (g3 i _ _ (List.getElem?_eq_getElem (by omega)) (List.getElem?_eq_getElem hi)).2.2.2
theorem Qwq {α:Type} {en:α→List AV} {ok:α→Prop} {e:TypeId} {k:Nat} (h:Opn P W e en ok) (a0:α) (hu:P.underlying t=some (.slice e)) (hc:P.cellsOf e=k) (hk:0<k) (hb:1≤P.bytesOf e) :
  Opn P W t (fun l:List α=>[.sl k false (l.map en)]) (fun l=>l.length≤140737488351232∧∀ a∈l,ok a):=Opn.mk fun H enc fuel cs x h1 h2 h3=>by
 obtain ⟨v,rs,rfl,hr,hd⟩:=Qie (k:=k) (R:=fun a cs=>Qhk (·<W.heap.size) W (en a) cs∧(∀ u∈cs,u.oneCell'=true)∧ok a) hu hc hk a0 (fun n cs' y hy hl hcl hww=>h.run H enc n cs' y hy hl hww) h1 h2 h3
 have hsz:=Qna hu hd h3
 have:=Nat.le_trans (Nat.mul_le_mul_left rs.length hb) hsz
 have hra:Ra (·<W.heap.size) W (.sl k false (rs.map en)) v:=Qnf hr (·<W.heap.size) (fun _ h=>h) (fun a _ cs _ hR=>⟨hR.2.1,hR.1⟩)
 obtain ⟨A,c,rfl⟩:=hr.shape
 refine ⟨rs,Qi2 hra,fun u hu=>by obtain rfl:=List.mem_singleton.1 hu;rfl,by omega,fun a ha=>?_⟩
 obtain ⟨css,g1,g2,g3⟩:=hr
 obtain ⟨i,hi,rfl⟩:=List.mem_iff_getElem.1 ha
 exact (g3 i _ _ (List.getElem?_eq_getElem (by omega)) (List.getElem?_eq_getElem hi)).2.2.2
structure OpnFs {γ:Type} (P:Program) (W:World) (N:Nat) (fs:List Field) (off:Nat) (en:γ→List AV) (ok:γ→Prop):Prop where
 run:∀ (H:Type) (enc:TypeId × Value→H) (m:Nat) (cs:List Value) (xs:List (DataW H × List MemPlace)),cs.length=N→xs.length=fs.length →
  (∀ (i:Nat) (f:Field),fs[i]?=some f→DataW.trod enc P W 0 (fun _=>true) true m f.type ((cs.drop f.offset).take (P.cellsOf f.type))=xs[i]?) →
  (∀ x∈xs,∀ p∈x.2,p.block<W.heap.size)→(∀ n∈DataW.weightsEach P (fs.map (·.type)) (xs.map (·.1)),n≤140737488351232) →
  ∃ g,Qhk (·<W.heap.size) W (en g) (cs.drop off)∧(∀ u∈cs.drop off,u.oneCell'=true)∧ok g
theorem Qid (N:Nat):OpnFs P W N [] N (fun _:Unit=>[]) (fun _=>True):=OpnFs.mk fun H enc m cs xs h1 h2 h3 h4 h5=>by
 have:cs.drop N=[]:=List.drop_eq_nil_of_le (by omega)
 rw [this]
 exact ⟨(),⟨rfl,fun j a u ha=>by simp at ha⟩,fun u hu=>by simp at hu,trivial⟩
theorem Qrg {D:Nat→Prop} {w:World} {xs ys:List AV} {cs ds:List Value} (h:Qhk D w xs cs) (k:Qhk D w ys ds):Qhk D w (xs++ys) (cs++ds):=by
 refine ⟨by simp [h.1,k.1],fun j a u ha hu=>?_⟩
 by_cases hj:j<xs.length
 ·rw [List.getElem?_append_left hj] at ha
  rw [List.getElem?_append_left (by rw [h.1];exact hj)] at hu
  exact h.2 j a u ha hu
 ·rw [List.getElem?_append_right (by omega)] at ha
  rw [List.getElem?_append_right (by rw [h.1];omega),h.1] at hu
  exact k.2 _ a u ha hu
theorem Qbp {α γ:Type} {N off k:Nat} {f:Field} {fs:List Field} {en:α→List AV} {ok:α→Prop} {en2:γ→List AV} {ok2:γ→Prop} (h:Opn P W f.type en ok) (ho:f.offset=off) (hk:P.cellsOf f.type=k)
  (hr:OpnFs P W N fs (off+k) en2 ok2):OpnFs P W N (f :: fs) off (fun g:α × γ=>en g.1++en2 g.2) (fun g=>ok g.1∧ok2 g.2):=OpnFs.mk fun H enc m cs xs h1 h2 h3 h4 h5=>by
 obtain ⟨x0,xr,rfl⟩:∃ a r,xs=a :: r:=by
  cases xs with
  | nil=>simp at h2
  | cons a r=>exact ⟨a,r,rfl⟩
 have g0:=h3 0 f rfl
 rw [ho,hk] at g0
 simp only [List.map_cons,DataW.weightsEach] at h5
 obtain ⟨a,ha,ha2,ha3⟩:=h.run H enc m _ x0 (by simpa using g0) (h4 x0 (by simp)) (fun n hn=>h5 n (by simp [hn]))
 obtain ⟨g,hg,hg2,hg3⟩:=hr.run H enc m cs xr h1 (by simpa using h2) (fun i f' hf=>by have:=h3 (i+1) f' (by simpa using hf);simpa using this) (fun x hx=>h4 x (by simp [hx])) (fun n hn=>h5 n (by simp [hn]))
 have e:cs.drop off=(cs.drop off).take k++cs.drop (off+k):=by
  rw [← List.drop_drop,List.take_append_drop]
 refine ⟨(a,g),?_,?_,ha3,hg3⟩
 ·rw [e];exact Qrg ha hg
 ·intro u hu
  rw [e] at hu
  rcases List.mem_append.1 hu with h | h
  ·exact ha2 u h
  ·exact hg2 u h
theorem Qfi {γ:Type} {N:Nat} {fs:Array Field} {en:γ→List AV} {ok:γ→Prop} (hu:P.underlying t=some (.struct fs)) (hc:P.cellsOf t=N) (h:OpnFs P W N fs.toList 0 en ok):Opn P W t en ok:=Opn.mk fun H enc fuel cs x h1 h2 h3=>by
 obtain ⟨xs,m,_,rfl,hl,hlen,hfl⟩:=DataW.trod_struct hu h1
 obtain ⟨g,g1,g2,g3⟩:=h.run H enc m cs xs (by rw [hl,hc]) (by simpa using hlen) (fun i f hf=>hfl i f (by simpa using hf)) (fun x hx p hp=>h2 p (by simp only [List.mem_flatMap];exact ⟨x,hx,hp⟩))
  (fun n hn=>h3 n (by simp only [DataW.weights,hu];exact hn))
 exact ⟨g,by simpa using g1,by simpa using g2,g3⟩
theorem Qn3 {α:Type} {en:α→List AV} {ok:α→Prop} {fs:Array Field} {H:Type} {enc:TypeId × Value→H} {base:Nat} {v:Value} {d:DataW H} {p:List MemPlace} (h:Opn P W t en ok) (hu:P.underlying t=some (.struct fs)) (hv:Value.okWide P W .any base t v)
  (ht:∃ fuel,DataW.trod enc P W 0 (fun _=>true) true fuel t v.cells.toList=some (d,p)) (hlt:∀ x∈p,x.block<W.heap.size) (hw:∀ n∈DataW.weights P t d,n≤140737488351232):∃ a,Ra (·<W.heap.size) W (.agg (en a)) v∧ok a:=by
 obtain ⟨cs,rfl,_⟩:=okWide_struct hu hv
 obtain ⟨fuel,ht⟩:=ht
 obtain ⟨a,g1,g2,g3⟩:=h.run H enc fuel _ _ ht hlt hw
 refine ⟨a,.agg _ _ (by have:=g1.1;simp [Value.cells] at this;omega) (fun j u hj=>g2 u (by have:=Array.mem_of_getElem? hj;simpa [Value.cells] using this)) (fun j x u hx hj=>g1.2 j x u hx (by simpa [Value.cells] using hj)),g3⟩
def RaL (D:Nat→Prop) (w:World):List AV→List Value→Prop
 | [],[]=>True
 | x :: xs,v :: vs=>Ra D w x v∧RaL D w xs vs
 | _,_=>False
theorem Zgh {D:Nat→Prop} {w:World}:∀ (xs:List AV) (vs:List Value),RaL D w xs vs→Qcx D w xs vs.toArray
 | [],[],_=>⟨rfl,fun j a u ha=>by simp at ha⟩
 | x :: xs,v :: vs,h=>by
  have ih:=Zgh xs vs h.2
  refine ⟨by have:=ih.1;simp at this ⊢;exact this,fun j a u ha hu=>?_⟩
  cases j with
  | zero=>simp at ha hu;subst ha hu;exact h.1
  | succ j=>exact ih.2 j a u (by simpa using ha) (by simpa using hu)
 | [],_ :: _,h=>h.elim
 | _ :: _,[],h=>h.elim
theorem Qwz {f:FuncId} {args:List AV} {vs:Array Value} {w:World} (h:Qaj P f args (aB true)) (hv:Qcx (·<w.heap.size) w args vs) :
  Calls P f vs w (fun e w'=>e=.returned (.bool true)∧Below w.heap.size w w'):=by
 refine (h _ w vs (fun _ h=>h) hv).mono ?_
 rintro e w' ⟨v,D',rfl,hb,_,_,hr⟩
 cases hr
 exact ⟨rfl,hb⟩
end
end Copyhold

namespace Go.Proofs.YtahlldgocpabjaaGreat
open Go Go.RowKit Copyhold
theorem Zh7 (W:World):Opn Tryz.prog W 128 entA OkE:=
 (Qfi (N:=2) Tryz.underlying128 (by kernel_rfl) (Qbp (k:=1) (Qfj Tryz.underlying9) rfl (by kernel_rfl) (Qbp (k:=1) (Qd9 Tryz.underlying3) rfl (by kernel_rfl) (Qid 2)))).map (fun g=>⟨g.1,g.2.1⟩) (fun _=>rfl) (fun a h=>⟨h.1,h.2.1⟩)
theorem Zd8 (W:World):Opn Tryz.prog W 82 (fun l:List (Ent)=>[.sl 2 false (l.map entA)]) (fun l=>l.length≤8796093022207∧∀ a∈l,OkE a):=Qqe (Zh7 W) (⟨[],0⟩) Tryz.underlying82 (by kernel_rfl) (by decide) (Nat.le_of_ble_eq_true (by kernel_rfl))
theorem Zh6 (W:World):Opn Tryz.prog W 84 nodA OkN:=
 (Qfi (N:=5) Tryz.underlying84 (by kernel_rfl) (Qbp (k:=1) (Qd9 Tryz.underlying3) rfl (by kernel_rfl) (Qbp (k:=1) (Qd9 Tryz.underlying3) rfl (by kernel_rfl) (Qbp (k:=1) (Qd9 Tryz.underlying3) rfl (by kernel_rfl) (Qbp (k:=1) (Qfj Tryz.underlying9) rfl (by kernel_rfl) (Qbp (k:=1) (Zd8 W) rfl (by kernel_rfl) (Qid 5))))))).map (fun g=>⟨g.1,g.2.1,g.2.2.1,g.2.2.2.1,g.2.2.2.2.1⟩) (fun _=>rfl) (fun a h=>⟨h.1,h.2.1,h.2.2.1,h.2.2.2.1,h.2.2.2.2.1.1,h.2.2.2.2.1.2⟩)
theorem Zd6 (W:World):Opn Tryz.prog W 26 (fun l:List (Nod)=>[.sl 5 false (l.map nodA)]) (fun l=>l.length≤8796093022207∧∀ a∈l,OkN a):=Qqe (Zh6 W) (⟨0,0,0,[],[]⟩) Tryz.underlying26 (by kernel_rfl) (by decide) (Nat.le_of_ble_eq_true (by kernel_rfl))
theorem Qzu (W:World):Opn Tryz.prog W 28 fsyA OkF:=
 (Qfi (N:=2) Tryz.underlying28 (by kernel_rfl) (Qbp (k:=1) (Zd6 W) rfl (by kernel_rfl) (Qbp (k:=1) (Qd9 Tryz.underlying3) rfl (by kernel_rfl) (Qid 2)))).map (fun g=>⟨g.1,g.2.1⟩) (fun _=>rfl) (fun a h=>⟨h.2.1,h.1.1,h.1.2⟩)
end Go.Proofs.YtahlldgocpabjaaGreat

namespace Go.Proofs.YtahlldgocpabjaaGreat
open Go Go.RowKit Copyhold
theorem Zh8 (W:World):Opn Tryz.prog W 33 calA OkC0:=
 (Qfi (N:=8) Tryz.underlying33 (by kernel_rfl) (Qbp (k:=1) (Qd9 Tryz.underlying3) rfl (by kernel_rfl) (Qbp (k:=1) (Qd9 Tryz.underlying3) rfl (by kernel_rfl) (Qbp (k:=1) (Qd9 Tryz.underlying3) rfl (by kernel_rfl) (Qbp (k:=1) (Qd9 Tryz.underlying3) rfl (by kernel_rfl) (Qbp (k:=1) (Qd9 Tryz.underlying3) rfl (by kernel_rfl) (Qbp (k:=1) (Qfj Tryz.underlying9) rfl (by kernel_rfl) (Qbp (k:=1) (Qfj Tryz.underlying9) rfl (by kernel_rfl) (Qbp (k:=1) (Qfj Tryz.underlying9) rfl (by kernel_rfl) (Qid 8)))))))))).map (fun g=>⟨g.1,g.2.1,g.2.2.1,g.2.2.2.1,g.2.2.2.2.1,g.2.2.2.2.2.1,g.2.2.2.2.2.2.1,g.2.2.2.2.2.2.2.1⟩) (fun _=>rfl) (fun a h=>⟨h.1,h.2.1,h.2.2.1,h.2.2.2.1,h.2.2.2.2.1,h.2.2.2.2.2.1,h.2.2.2.2.2.2.1,h.2.2.2.2.2.2.2.1⟩)
theorem Zd7 (W:World):Opn Tryz.prog W 29 (fun l:List (Int)=>[.sl 1 false (l.map intA)]) (fun l=>l.length≤140737488351232∧∀ a∈l,I64 a):=Qwq (Qd9 Tryz.underlying3) (0) Tryz.underlying29 (by kernel_rfl) (by decide) (Nat.le_of_ble_eq_true (by kernel_rfl))
theorem Zh5 (W:World):Opn Tryz.prog W 31 txnA OkT:=
 (Qfi (N:=6) Tryz.underlying31 (by kernel_rfl) (Qbp (k:=1) (Qd9 Tryz.underlying3) rfl (by kernel_rfl) (Qbp (k:=2) (Qzu W) rfl (by kernel_rfl) (Qbp (k:=2) (Qzu W) rfl (by kernel_rfl) (Qbp (k:=1) (Zd7 W) rfl (by kernel_rfl) (Qid 6)))))).map (fun g=>⟨g.1,g.2.1,g.2.2.1,g.2.2.2.1⟩) (fun _=>rfl) (fun a h=>⟨h.1,h.2.1,h.2.2.1,h.2.2.2.1.1⟩)
end Go.Proofs.YtahlldgocpabjaaGreat
