import Derived.Test.YtahlldgocpabjaaGreatAl
import Derived.Test.YtahlldgocpabjaaGreatMrgW
import Derived.Test.YtahlldgocpabjaaGreatMrgS
import Derived.Lib.SlicesCompact
set_option maxRecDepth 100000
set_option maxHeartbeats 8000000
set_option linter.unusedVariables false
set_option linter.unusedSimpArgs false
namespace Go.Proofs.YtahlldgocpabjaaGreat
open Go Go.RowKit Copyhold Go.Proofs.Tryz
def pN (l:List Int) (n:Int):Nat:=(l.takeWhile fun x=>decide (x<n)).length
theorem Znq (l:List Int) (n:Int):pN l n≤l.length:=(List.takeWhile_sublist _).length_le
theorem Qt8 {n:Int}:∀ {l:List Int} {k:Nat} {x:Int},k≤pN l n→l[k]?=some x→(x<n↔k<pN l n)
 | [],k,x,_,hx=>(by simp at hx)
 | a :: r,k,x,hk,hx=>by
  by_cases ha:a<n
  ·have e:pN (a :: r) n=pN r n+1:=by unfold pN;rw [List.takeWhile_cons,W1y (by simpa using ha)];rfl
   rw [e] at hk ⊢;cases k with
   | zero=>
    simp at hx;subst hx;exact ⟨fun _=>by omega,fun _=>ha⟩
   | succ k=>
    have:=Qt8 (n:=n) (l:=r) (k:=k) (x:=x) (by omega) (by simpa using hx);rw [this];omega
  ·have e:pN (a :: r) n=0:=by unfold pN;rw [List.takeWhile_cons,W1x (by simpa using ha)];rfl
   rw [e] at hk ⊢;obtain rfl:k=0:=by omega
   simp at hx;subst hx;exact ⟨fun h=>absurd h ha,fun h=>by omega⟩
def wiK (l:List Int) (n:Int) (k j:Nat):List Int:=l.take k++n :: ((l.drop k).take (j-k)).filter fun x=>x != n
theorem Zih (l:List Int) (n:Int) (k:Nat):wiK l n k k=l.take k++[n]:=by unfold wiK;simp
theorem Qyi {l:List Int} {n:Int} {k j:Nat} {x:Int} (h:l[j]?=some x) (hkj:k≤j):wiK l n k (j+1)=wiK l n k j++[x].filter fun x=>x != n:=by
 unfold wiK;rw [show j+1-k=(j-k)+1 from by omega,Qam (l:=l.drop k) (k:=j-k) (x:=x) (by rw [W08,show k+(j-k)=j from by omega];exact h),W1k];simp
theorem Qqx {l:List Int} {n:Int} {k j:Nat} {x:Int} (h:l[j]?=some x) (hkj:k≤j) (q:(x != n)=true):wiK l n k (j+1)=wiK l n k j++[x]:=by rw [Qyi h hkj];simp [W2l,q]
theorem Qyj {l:List Int} {n:Int} {k j:Nat} {x:Int} (h:l[j]?=some x) (hkj:k≤j) (q:(x != n)=false):wiK l n k (j+1)=wiK l n k j:=by rw [Qyi h hkj];simp [W2l,q]
theorem Qhy (l:List Int) (n:Int) (k j:Nat) (hk:k≤l.length):(wiK l n k j).length≤l.length+1:=by
 unfold wiK;have:=W2h (fun x=>x != n) ((l.drop k).take (j-k));simp only [W0e,W0b,W0g,W0p] at this ⊢;omega
def Qc0 (l:List Int) (n:Int):List Int:=wiK l n (pN l n) l.length
theorem Qiq (l:List Int) (n:Int):(Qc0 l n).length≤l.length+1:=Qhy l n _ _ (Znq l n)
theorem Qc3 (l:List Int) (n:Int) (hl:l.length≤100000):Qai prog 50 [.sl 1 false (l.map intA),aI n] (.sl 1 false ((Qc0 l n).map intA)):=by
 exact Qae func50 (
 .r 1<|.r 1<|.rowNil 5 5 3 1<|.r 1<|let L1:Lp (Nat × Value):=⟨fun a1=>⟨[(0,.sl 1 false (l.map intA)),(1,aI n),(6,aI (a1.1:Int)),(5,.rw 5 a1.2 ((l.take a1.1).length))],[(5,.row a1.2 3 1 ((l.take a1.1).map intA))]⟩,fun a1=>l.length-a1.1,fun a1=>a1.1≤l.length∧a1.1≤pN l n⟩
 .lp L1 (0,.slice none 0 0) ⟨W0j _,W0j _⟩ [(6,aI 0),(5,.rw 5 (.slice none 0 0) 0)] [(5,.row (.slice none 0 0) 3 1 ([]))] ⟨sR,sR,sO,W2p (W1z (AV.rw 5 (.slice none 0 0)) (by simp)),trivial⟩ ⟨⟨_,rfl,W2q (by simp)⟩,trivial⟩ fun a1 ha1=>
 (fun (k:Nat) (V:Value) (hH1:k≤l.length∧k≤pN l n)=>.r 3<|.lm 9 l intA<|.r 2<|.bd 11 ((k:Int)<(l.length:Int)) (fun p1=>.r 2<|.idxM l intA k (m:=(k:Int)) rfl (by omega) fun x1 hx1=>
 .r 4<|.bd 18 (x1<n) (fun p2=>.r 3<|.idx k (m:=(k:Int)) (xs:=l.map intA) (e:=intA x1) rfl (map_some hx1)<|
 .r 2<|.app 8 V ((l.take k).map intA) ([[aI x1]]) (by first | (simp only [W0a,W0b,W0f,W0g,W0e];omega) | (have hw:=Qhy l n k j (by omega);simp only [W0a,W0b,W0f,W0e];omega)) (by first | (simp only [W0a,W0b,W0f,W0g,W0e];omega) | (have hw:=Qhy l n k j (by omega);simp only [W0a,W0b,W0f,W0e];omega)) fun V1=>
 .r 1<|.run 3 [rng .i64 ((k:Int)+1)] ⟨Qah,trivial⟩<|
 .bk L1 (k,V) ((k+1),V1) (show (k+1)≤l.length∧(k+1)≤pN l n from (by refine ⟨by omega,?_⟩;have:=(Qt8 hH1.2 hx1).1 (by omega);omega)) (show l.length-(k+1)<l.length-k from (by omega)) [(6,aI ((k:Int)+1)),(5,.rw 5 V1 (((l.take k).map intA).length+([[aI x1]]:List (List AV)).length))] [(5,.row V1 3 1 (((l.take k).map intA)++([[aI x1]])))] ⟨sR,sR,sO,W2p (W1z (AV.rw 5 V1) (by rw [Qam hx1];simp)),trivial⟩ ⟨⟨_,rfl,W2q (by rw [Qam hx1];simp [intA])⟩,trivial⟩)
 <| fun p2=>.r 3<|.app 8 V ((l.take k).map intA) ([[aI n]]) (by first | (simp only [W0a,W0b,W0f,W0g,W0e];omega) | (have hw:=Qhy l n k j (by omega);simp only [W0a,W0b,W0f,W0e];omega)) (by first | (simp only [W0a,W0b,W0f,W0g,W0e];omega) | (have hw:=Qhy l n k j (by omega);simp only [W0a,W0b,W0f,W0e];omega)) fun V2=>
 .r 1<|let L2:Lp (Nat × Value):=⟨fun a2=>⟨[(0,.sl 1 false (l.map intA)),(1,aI n),(6,aI (a2.1:Int)),(5,.rw 5 a2.2 ((wiK l n k a2.1).length))],[(5,.row a2.2 3 1 ((wiK l n k a2.1).map intA))]⟩,fun a2=>l.length-a2.1,fun a2=>k≤a2.1∧a2.1≤l.length⟩
 .lp L2 (k,V2) ⟨W0m _,by omega⟩ [(5,.rw 5 V2 (((l.take k).map intA).length+([[aI n]]:List (List AV)).length))] [(5,.row V2 3 1 (((l.take k).map intA)++([[aI n]])))] ⟨sR,sR,sR,W2p (W1z (AV.rw 5 V2) (by rw [Zih];simp)),trivial⟩ ⟨⟨_,rfl,W2q (by rw [Zih];simp [intA])⟩,trivial⟩ fun a2 ha2=>
 (fun (j:Nat) (W:Value) (hH2:k≤j∧j≤l.length)=>.r 3<|.lm 34 l intA<|.r 1<|.bd 35 ((j:Int)<(l.length:Int)) (fun p3=>.r 2<|.idxM l intA j (m:=(j:Int)) rfl (by omega) fun x2 hx2=>
 .r 3<|.br 41 (x2 != n) (fun q4=>have p4:=bneT q4;.r 3<|.idx j (m:=(j:Int)) (xs:=l.map intA) (e:=intA x2) rfl (map_some hx2)<|
 .r 2<|.app 8 W ((wiK l n k j).map intA) ([[aI x2]]) (by first | (simp only [W0a,W0b,W0f,W0g,W0e];omega) | (have hw:=Qhy l n k j (by omega);simp only [W0a,W0b,W0f,W0e];omega)) (by first | (simp only [W0a,W0b,W0f,W0g,W0e];omega) | (have hw:=Qhy l n k j (by omega);simp only [W0a,W0b,W0f,W0e];omega)) fun V3=>
 .r 1<|.run 3 [rng .i64 ((j:Int)+1)] ⟨Qah,trivial⟩<|
 .bk L2 (j,W) ((j+1),V3) (show k≤(j+1)∧(j+1)≤l.length from (by show _≤_∧_;omega)) (show l.length-(j+1)<l.length-j from (by omega)) [(6,aI ((j:Int)+1)),(5,.rw 5 V3 (((wiK l n k j).map intA).length+([[aI x2]]:List (List AV)).length))] [(5,.row V3 3 1 (((wiK l n k j).map intA)++([[aI x2]])))] ⟨sR,sR,sO,W2p (W1z (AV.rw 5 V3) (by rw [Qqx hx2 (by omega) (by simpa [bne] using q4)];simp)),trivial⟩ ⟨⟨_,rfl,W2q (by rw [Qqx hx2 (by omega) (by simpa [bne] using q4)];simp [intA])⟩,trivial⟩)
 <| fun q4=>have p4:=bneF q4;.run 3 [rng .i64 ((j:Int)+1)] ⟨Qah,trivial⟩<|
 .bk L2 (j,W) ((j+1),W) (show k≤(j+1)∧(j+1)≤l.length from (by show _≤_∧_;omega)) (show l.length-(j+1)<l.length-j from (by omega)) [(6,aI ((j:Int)+1)),(5,.rw 5 W ((wiK l n k j).length))] [(5,.row W 3 1 ((wiK l n k j).map intA))] ⟨sR,sR,sO,W2p (W1z (AV.rw 5 W) (by rw [Qyj hx2 (by omega) (by simpa [bne] using q4)])),trivial⟩ ⟨⟨_,rfl,W2q (by rw [Qyj hx2 (by omega) (by simpa [bne] using q4)])⟩,trivial⟩)
 <| fun p3=>.r 2<|.frz 5 [4] [] [W=W,(wiK l n k j).length=((wiK l n k j).map intA).length] ⟨rfl,(by first | rfl | (simp;done) | (simp;omega)),trivial⟩<|
 .f (.sl 1 false ((Qc0 l n).map intA)) [] (.sl 1 false ((wiK l n k j).map intA)) (by
  have hk:k=pN l n:=by
   have hq:=Znq l n;have hk1:=hH1.2;by_cases h:k<pN l n
   ·have:=(Qt8 hH1.2 hx1).2 h;omega
   ·omega
  have e:wiK l n k j=Qc0 l n:=by unfold Qc0;rw [hk,show j=l.length from by omega]
  rw [← e]
  first | exact sR | exact W2r _ _ _)) a2.1 a2.2 ha2)
 <| fun p1=>.r 7<|.r 3<|.app 8 V ((l.take k).map intA) ([[aI n]]) (by first | (simp only [W0a,W0b,W0f,W0g,W0e];omega) | (have hw:=Qhy l n k j (by omega);simp only [W0a,W0b,W0f,W0e];omega)) (by first | (simp only [W0a,W0b,W0f,W0g,W0e];omega) | (have hw:=Qhy l n k j (by omega);simp only [W0a,W0b,W0f,W0e];omega)) fun V4=>
 .r 1<|let L2:Lp (Nat × Value):=⟨fun a2=>⟨[(0,.sl 1 false (l.map intA)),(1,aI n),(6,aI (a2.1:Int)),(5,.rw 5 a2.2 ((wiK l n k a2.1).length))],[(5,.row a2.2 3 1 ((wiK l n k a2.1).map intA))]⟩,fun a2=>l.length-a2.1,fun a2=>k≤a2.1∧a2.1≤l.length⟩
 .lp L2 (k,V4) ⟨W0m _,by omega⟩ [(5,.rw 5 V4 (((l.take k).map intA).length+([[aI n]]:List (List AV)).length))] [(5,.row V4 3 1 (((l.take k).map intA)++([[aI n]])))] ⟨sR,sR,sR,W2p (W1z (AV.rw 5 V4) (by rw [Zih];simp)),trivial⟩ ⟨⟨_,rfl,W2q (by rw [Zih];simp [intA])⟩,trivial⟩ fun a2 ha2=>
 (fun (j:Nat) (W:Value) (hH2:k≤j∧j≤l.length)=>.r 3<|.lm 34 l intA<|.r 1<|.bd 35 ((j:Int)<(l.length:Int)) (fun p5=>.r 2<|.idxM l intA j (m:=(j:Int)) rfl (by omega) fun x3 hx3=>
 .r 3<|.br 41 (x3 != n) (fun q6=>have p6:=bneT q6;.r 3<|.idx j (m:=(j:Int)) (xs:=l.map intA) (e:=intA x3) rfl (map_some hx3)<|
 .r 2<|.app 8 W ((wiK l n k j).map intA) ([[aI x3]]) (by first | (simp only [W0a,W0b,W0f,W0g,W0e];omega) | (have hw:=Qhy l n k j (by omega);simp only [W0a,W0b,W0f,W0e];omega)) (by first | (simp only [W0a,W0b,W0f,W0g,W0e];omega) | (have hw:=Qhy l n k j (by omega);simp only [W0a,W0b,W0f,W0e];omega)) fun V5=>
 .r 1<|.run 3 [rng .i64 ((j:Int)+1)] ⟨Qah,trivial⟩<|
 .bk L2 (j,W) ((j+1),V5) (show k≤(j+1)∧(j+1)≤l.length from (by show _≤_∧_;omega)) (show l.length-(j+1)<l.length-j from (by omega)) [(6,aI ((j:Int)+1)),(5,.rw 5 V5 (((wiK l n k j).map intA).length+([[aI x3]]:List (List AV)).length))] [(5,.row V5 3 1 (((wiK l n k j).map intA)++([[aI x3]])))] ⟨sR,sR,sO,W2p (W1z (AV.rw 5 V5) (by rw [Qqx hx3 (by omega) (by simpa [bne] using q6)];simp)),trivial⟩ ⟨⟨_,rfl,W2q (by rw [Qqx hx3 (by omega) (by simpa [bne] using q6)];simp [intA])⟩,trivial⟩)
 <| fun q6=>have p6:=bneF q6;.run 3 [rng .i64 ((j:Int)+1)] ⟨Qah,trivial⟩<|
 .bk L2 (j,W) ((j+1),W) (show k≤(j+1)∧(j+1)≤l.length from (by show _≤_∧_;omega)) (show l.length-(j+1)<l.length-j from (by omega)) [(6,aI ((j:Int)+1)),(5,.rw 5 W ((wiK l n k j).length))] [(5,.row W 3 1 ((wiK l n k j).map intA))] ⟨sR,sR,sO,W2p (W1z (AV.rw 5 W) (by rw [Qyj hx3 (by omega) (by simpa [bne] using q6)])),trivial⟩ ⟨⟨_,rfl,W2q (by rw [Qyj hx3 (by omega) (by simpa [bne] using q6)])⟩,trivial⟩)
 <| fun p5=>.r 2<|.frz 5 [4] [] [W=W,(wiK l n k j).length=((wiK l n k j).map intA).length] ⟨rfl,(by first | rfl | (simp;done) | (simp;omega)),trivial⟩<|
 .f (.sl 1 false ((Qc0 l n).map intA)) [] (.sl 1 false ((wiK l n k j).map intA)) (by
  have hk:k=pN l n:=by
   have hq:=Znq l n;have hk1:=hH1.2;omega
  have e:wiK l n k j=Qc0 l n:=by unfold Qc0;rw [hk,show j=l.length from by omega]
  rw [← e]
  first | exact sR | exact W2r _ _ _)) a2.1 a2.2 ha2) a1.1 a1.2 ha1)
def Qb8 (l:List Int) (f:Fsy) (d:Int) (s:Txt):List Int:=if isB (Qaa f d).l s=true then Qc0 l (getI (Qaa f d).l s) else l
theorem Qc6 (l:List Int) (f:Fsy) (d:Int) (s:Txt):(Qb8 l f d s).length≤l.length+1:=by
 unfold Qb8
 split
 ·exact Qiq _ _
 ·omega
def rl0 (c:Cal):List Int:=Qc0 (Qc0 [] c.ino) c.to
theorem Qh5 (c:Cal):(rl0 c).length≤2:=by
 have:=Qiq [] c.ino;have:=Qiq (Qc0 [] c.ino) c.to;unfold rl0;simp at *;omega
def Qju (f:Fsy) (c:Cal):List Int:=if c.kind=15 then [0] else Qb8 (Qb8 (Qb8 (Qb8 (rl0 c) f c.ino c.name) f c.ino c.name2) f c.to c.name) f c.to c.name2
theorem Qi6 (l:List Int) (f:Fsy) (d:Int) (s:Txt) (hp:Qan f) (hs:s.length≤1000000) (hll:l.length≤100000):Qai prog 98 [.sl 1 false (l.map intA),.agg (fsyA f),aI d,aS s] (.sl 1 false ((Qb8 l f d s).map intA)):=by
 have hl:=hp.1;have hr:=Qaf hp;exact Qae func98 (
 .new fun b1=>.r 1<|.u 2 [b1]<|
 .call (Qa2 f d (by omega))<|
 .r 3<|.new fun b2=>.u 2 [b2]<|
 .u 3 [b2]<|
 .call (Qen (Qaa f d).l s (by have:=(Qfa hp d).2;omega))<|
 .r 5<|.r 2<|.br 27 (!(isB (Qaa f d).l s)) (fun q1=>have q1:=notT q1;have p1:=booF q1;.r 2<|.f (.sl 1 false ((Qb8 l f d s).map intA)) [] (.sl 1 false (l.map intA)) (by
  rw [show Qb8 l f d s=_ from W1x (by rw [q1];decide)];exact sR))
 <| fun q1=>have q1:=notF q1;have p1:=booT q1;.r 2<|.call (Qc3 l (getI (Qaa f d).l s) hll)<|
 .r 1<|.f (.sl 1 false ((Qb8 l f d s).map intA)) [] (.sl 1 false ((Qc0 l (getI (Qaa f d).l s)).map intA)) (by
  rw [show Qb8 l f d s=_ from W1y q1];exact sR))
theorem Qwp (f:Fsy) (c:Cal) (okf:OkF f) (okc:OkCal c) (hp:Qan f):Qai prog 54 [.agg (fsyA f),.agg (calA c)] (.sl 1 false ((Qju f c).map intA)):=by
 have hl:=hp.1;have hr:=Qaf hp;have hcn:=okc.name;have hcn2:=okc.name2;have hct:=okc.text;exact Qae func54 (
 .new fun b1=>.new fun b2=>.r 1<|.u 3 [b2]<|
 .be 8 c.kind 15 (fun p1=>.r 2<|.f (.sl 1 false ((Qju f c).map intA)) [] (.sl 1 true ([[aI 0]])) (by
  rw [show Qju f c=_ from W1y (by omega)]
  first | exact sR | exact W2r _ _ _))
 <| fun p1=>.ord [0,1,3,4,2,5,6]<|.u 4 [b2,b2]<|
 .cs (args0:=[aN,aI c.ino]) (Qc3 [] c.ino (by simp)) ⟨Sub.nil _ _,sR,trivial⟩<|
 .call (Qc3 (Qc0 [] c.ino) c.to (by have:=Qiq [] c.ino;simp at this;omega))<|
 .r 1<|.ord [0,1,2,3,4,5,7,8,9,10,11,13,14,15,16,17,19,20,21,22,23,6,12,18,24,25]<|.u 21 [b1,b2,b2,b1,b2,b2,b1,b2,b2,b1,b2,b2]<|
 .call (Qi6 (rl0 c) f c.ino c.name hp hcn (by first | (have:=Qh5 c;omega) | (have h0:=Qh5 c;have h1:=Qc6 (rl0 c) f c.ino c.name;have h2:=Qc6 (Qb8 (rl0 c) f c.ino c.name) f c.ino c.name2;have h3:=Qc6 (Qb8 (Qb8 (rl0 c) f c.ino c.name) f c.ino c.name2) f c.to c.name;omega)))<|
 .call (Qi6 (Qb8 (rl0 c) f c.ino c.name) f c.ino c.name2 hp hcn2 (by first | (have:=Qh5 c;omega) | (have h0:=Qh5 c;have h1:=Qc6 (rl0 c) f c.ino c.name;have h2:=Qc6 (Qb8 (rl0 c) f c.ino c.name) f c.ino c.name2;have h3:=Qc6 (Qb8 (Qb8 (rl0 c) f c.ino c.name) f c.ino c.name2) f c.to c.name;omega)))<|
 .call (Qi6 (Qb8 (Qb8 (rl0 c) f c.ino c.name) f c.ino c.name2) f c.to c.name hp hcn (by first | (have:=Qh5 c;omega) | (have h0:=Qh5 c;have h1:=Qc6 (rl0 c) f c.ino c.name;have h2:=Qc6 (Qb8 (rl0 c) f c.ino c.name) f c.ino c.name2;have h3:=Qc6 (Qb8 (Qb8 (rl0 c) f c.ino c.name) f c.ino c.name2) f c.to c.name;omega)))<|
 .call (Qi6 (Qb8 (Qb8 (Qb8 (rl0 c) f c.ino c.name) f c.ino c.name2) f c.to c.name) f c.to c.name2 hp hcn2 (by first | (have:=Qh5 c;omega) | (have h0:=Qh5 c;have h1:=Qc6 (rl0 c) f c.ino c.name;have h2:=Qc6 (Qb8 (rl0 c) f c.ino c.name) f c.ino c.name2;have h3:=Qc6 (Qb8 (Qb8 (rl0 c) f c.ino c.name) f c.ino c.name2) f c.to c.name;omega)))<|
 .r 1<|.f (.sl 1 false ((Qju f c).map intA)) [] (.sl 1 false ((Qb8 (Qb8 (Qb8 (Qb8 (rl0 c) f c.ino c.name) f c.ino c.name2) f c.to c.name) f c.to c.name2).map intA)) (by
  rw [show Qju f c=_ from W1x (by omega)]
  first | exact sR | exact W2r _ _ _))
def lenB (n:Int):Int:=if n=0 then 0 else if n=1 then 1 else if n≤3 then 2 else if n≤7 then 3 else 4
theorem len_c0 (w:World):Calls prog 203 #[.int .u64 0] w fun e w'=>e=.returned (.int .i64 0)∧w=w':=by
 go_enter func203,Tryz.ntmps203
 go_wp2_with fail
 go_ret
 exact ⟨by kernel_rfl,rfl⟩
theorem len_c1 (w:World):Calls prog 203 #[.int .u64 1] w fun e w'=>e=.returned (.int .i64 1)∧w=w':=by
 go_enter func203,Tryz.ntmps203
 go_wp2_with fail
 go_ret
 exact ⟨by kernel_rfl,rfl⟩
theorem len_c2 (w:World):Calls prog 203 #[.int .u64 2] w fun e w'=>e=.returned (.int .i64 2)∧w=w':=by
 go_enter func203,Tryz.ntmps203
 go_wp2_with fail
 go_ret
 exact ⟨by kernel_rfl,rfl⟩
theorem len_c3 (w:World):Calls prog 203 #[.int .u64 3] w fun e w'=>e=.returned (.int .i64 2)∧w=w':=by
 go_enter func203,Tryz.ntmps203
 go_wp2_with fail
 go_ret
 exact ⟨by kernel_rfl,rfl⟩
theorem len_c4 (w:World):Calls prog 203 #[.int .u64 4] w fun e w'=>e=.returned (.int .i64 3)∧w=w':=by
 go_enter func203,Tryz.ntmps203
 go_wp2_with fail
 go_ret
 exact ⟨by kernel_rfl,rfl⟩
theorem len_c5 (w:World):Calls prog 203 #[.int .u64 5] w fun e w'=>e=.returned (.int .i64 3)∧w=w':=by
 go_enter func203,Tryz.ntmps203
 go_wp2_with fail
 go_ret
 exact ⟨by kernel_rfl,rfl⟩
theorem len_c6 (w:World):Calls prog 203 #[.int .u64 6] w fun e w'=>e=.returned (.int .i64 3)∧w=w':=by
 go_enter func203,Tryz.ntmps203
 go_wp2_with fail
 go_ret
 exact ⟨by kernel_rfl,rfl⟩
theorem len_c7 (w:World):Calls prog 203 #[.int .u64 7] w fun e w'=>e=.returned (.int .i64 3)∧w=w':=by
 go_enter func203,Tryz.ntmps203
 go_wp2_with fail
 go_ret
 exact ⟨by kernel_rfl,rfl⟩
theorem len_c8 (w:World):Calls prog 203 #[.int .u64 8] w fun e w'=>e=.returned (.int .i64 4)∧w=w':=by
 go_enter func203,Tryz.ntmps203
 go_wp2_with fail
 go_ret
 exact ⟨by kernel_rfl,rfl⟩
theorem len_c9 (w:World):Calls prog 203 #[.int .u64 9] w fun e w'=>e=.returned (.int .i64 4)∧w=w':=by
 go_enter func203,Tryz.ntmps203
 go_wp2_with fail
 go_ret
 exact ⟨by kernel_rfl,rfl⟩
theorem Zn9 (w:World):Calls prog 203 #[.int .u64 10] w fun e w'=>e=.returned (.int .i64 4)∧w=w':=by
 go_enter func203,Tryz.ntmps203
 go_wp2_with fail
 go_ret
 exact ⟨by kernel_rfl,rfl⟩
theorem Zn8 (w:World):Calls prog 203 #[.int .u64 11] w fun e w'=>e=.returned (.int .i64 4)∧w=w':=by
 go_enter func203,Tryz.ntmps203
 go_wp2_with fail
 go_ret
 exact ⟨by kernel_rfl,rfl⟩
theorem Zn7 (w:World):Calls prog 203 #[.int .u64 12] w fun e w'=>e=.returned (.int .i64 4)∧w=w':=by
 go_enter func203,Tryz.ntmps203
 go_wp2_with fail
 go_ret
 exact ⟨by kernel_rfl,rfl⟩
theorem Zf1 (n:Int) (h0:0≤n) (h1:n≤12) (w:World):Calls prog 203 #[.int .u64 n] w fun e w'=>e=.returned (.int .i64 (lenB n))∧w=w':=by
 rcases (show n=0∨n=1∨n=2∨n=3∨n=4∨n=5∨n=6∨n=7∨n=8∨n=9∨n=10∨n=11∨n=12 from by omega) with rfl | rfl | rfl | rfl | rfl | rfl | rfl | rfl | rfl | rfl | rfl | rfl | rfl
 ·exact len_c0 w
 ·exact len_c1 w
 ·exact len_c2 w
 ·exact len_c3 w
 ·exact len_c4 w
 ·exact len_c5 w
 ·exact len_c6 w
 ·exact len_c7 w
 ·exact len_c8 w
 ·exact len_c9 w
 ·exact Zn9 w
 ·exact Zn8 w
 ·exact Zn7 w
theorem Zf2 (n:Int) (h0:0≤n) (h1:n≤12) (w:World):Calls prog 153 #[.int .u64 n] w fun e w'=>e=.returned (.int .i64 (lenB n))∧w=w':=by
 go_enter func153,Tryz.ntmps153
 go_wp2_with fail
 refine (Zf1 n h0 h1 _).mono ?_;rintro e w1 ⟨rfl,rfl⟩
 go_wp2_with fail
 go_ret
 exact ⟨rfl,rfl⟩
theorem Zjz (n:Int) (h0:0≤n) (h1:n≤12):Qai prog 153 [.val (.int .u64 n)] (aI (lenB n)):=Qco (fun D w=>.val _) fun D w vs h=>by
 obtain ⟨u,rfl,hu⟩:=Qdj.one h;cases hu;exact (Zf2 n h0 h1 w).mono fun e w' ⟨g1,g2⟩=>⟨g1,g2 ▸ Below.refl _ _⟩
def lk2 (l:List Ent) (ss:List Txt) (L:List Int):List Int:=ss.foldl (fun L s=>if isB l s=true then L++[getI l s] else L) L
def lk1 (f:Fsy) (c:Cal) (L:List Int) (i:Int):List Int:=if dirE f i=0 then lk2 (dirN f i).l [c.name,c.name2] L else L
def lk0 (f:Fsy) (c:Cal) (is:List Int):List Int:=is.foldl (lk1 f c) [c.ino,c.to]
def Qe1 (f:Fsy) (c:Cal):List Int:=lk0 f c [c.ino,c.to]
theorem Zfx {l:List Ent} {ss:List Txt} {L:List Int} {j:Nat} {s:Txt} (h:ss[j]?=some s) (q:isB l s=true):lk2 l (ss.take (j+1)) L=lk2 l (ss.take j) L++[getI l s]:=by
 unfold lk2;rw [Qam h,W1p,List.foldl_cons,List.foldl_nil,W1y q]
theorem Zl6 {l:List Ent} {ss:List Txt} {L:List Int} {j:Nat} {s:Txt} (h:ss[j]?=some s) (q:isB l s=false):lk2 l (ss.take (j+1)) L=lk2 l (ss.take j) L:=by
 unfold lk2;rw [Qam h,W1p,List.foldl_cons,List.foldl_nil,W1x (by rw [q];decide)]
theorem Qm4 {f:Fsy} {c:Cal} {is:List Int} {j:Nat} {i:Int} (h:is[j]?=some i):lk0 f c (is.take (j+1))=lk1 f c (lk0 f c (is.take j)) i:=by
 unfold lk0;rw [Qam h,W1p];rfl
theorem Qxg (l:List Ent):∀ (ss:List Txt) (L:List Int),L.length≤(lk2 l ss L).length∧(lk2 l ss L).length≤L.length+ss.length
 | [],L=>⟨W0m _,W0m _⟩
 | s :: r,L=>by
  have h:=Qxg l r (if isB l s=true then L++[getI l s] else L);have e:lk2 l (s :: r) L=lk2 l r (if isB l s=true then L++[getI l s] else L):=rfl;rw [e];have h2:L.length≤(if isB l s=true then L++[getI l s] else L).length∧(if isB l s=true then L++[getI l s] else L).length≤L.length+1:=by
   split
   ·rw [W0e];exact ⟨by omega,W0m _⟩
   ·exact ⟨W0m _,by omega⟩
  have h3:(s :: r).length=r.length+1:=rfl;omega
theorem Qxh (f:Fsy) (c:Cal):∀ (is:List Int) (L:List Int),L.length≤(is.foldl (lk1 f c) L).length∧(is.foldl (lk1 f c) L).length≤L.length+2*is.length
 | [],L=>⟨W0m _,W0m _⟩
 | i :: r,L=>by
  have h:=Qxh f c r (lk1 f c L i);have h2:L.length≤(lk1 f c L i).length∧(lk1 f c L i).length≤L.length+2:=by
   unfold lk1
   split
   ·exact Qxg _ _ _
   ·exact ⟨W0m _,by omega⟩
  have e:(i :: r).foldl (lk1 f c) L=r.foldl (lk1 f c) (lk1 f c L i):=rfl;rw [e];simp only [W0b];omega
theorem Qn9 (f:Fsy) (c:Cal):2≤(Qe1 f c).length∧(Qe1 f c).length≤6:=by
 have:=Qxh f c [c.ino,c.to] [c.ino,c.to];unfold Qe1 lk0;simp only [W0b,W0f] at this;omega
theorem Zcf {t:Bool} (a b:Txt):Sub (.sl 1 t [[aS a],[aS b]]) (.sl 1 false ([a,b].map txA)):=W2r _ _ _
def Asc (l:List Int):Prop:=l.Pairwise (· < ·)
theorem Ql7:∀ {a b:List Int},Asc a→Asc b→(∀ x,x∈a↔x∈b)→a=b
 | [],[],_,_,_=>rfl
 | [],y :: r,_,_,h=>absurd ((h y).2 (by simp)) (by simp)
 | x :: r,[],_,_,h=>absurd ((h x).1 (by simp)) (by simp)
 | x :: r,y :: q,ha,hb,h=>by
  obtain ⟨a1,a2⟩:=W1l.1 ha;obtain ⟨b1,b2⟩:=W1l.1 hb;have hx:=(h x).1 (by simp);have hy:=(h y).2 (by simp);have e:x=y:=by
   rcases W0y.1 hx with e | e
   ·exact e
   ·rcases W0y.1 hy with e2 | e2
    ·exact e2.symm
    ·have:=b1 x e;have:=a1 y e2;omega
  subst e;congr 1;refine Ql7 a2 b2 fun z=>?_;have hz:=h z;constructor
  ·intro hm;rcases W0y.1 (hz.1 (W12 _ hm)) with e | e
   ·have:=a1 z hm;omega
   ·exact e
  ·intro hm;rcases W0y.1 (hz.2 (W12 _ hm)) with e | e
   ·have:=b1 z hm;omega
   ·exact e
theorem Zh7 {l:List Int} (h:Asc l) (n:Int):(∀ x∈l.take (pN l n),x<n)∧∀ x∈l.drop (pN l n),n≤x:=by
 constructor
 ·intro x hx;obtain ⟨i,hi,rfl⟩:=List.mem_iff_getElem.1 hx;rw [W0g] at hi;rw [List.getElem_take];exact (Qt8 (n:=n) (l:=l) (k:=i) (by omega) (W0d (by omega))).2 (by omega)
 ·intro x hx;obtain ⟨i,hi,rfl⟩:=List.mem_iff_getElem.1 hx;rw [W0p] at hi;rw [List.getElem_drop];have h0:¬ l[pN l n]'(by omega)<n:=fun hc=>by
   have:=(Qt8 (n:=n) (l:=l) (k:=pN l n) (W0m _) (W0d (by omega))).1 hc;omega
  by_cases hi0:i=0
  ·subst hi0;simp only [Nat.add_zero];omega
  ·have:=W1d.1 h (pN l n) (pN l n+i) (by omega) (by omega) (by omega);omega
theorem Zc4 (l:List Int) (n:Int):Qc0 l n=l.take (pN l n)++n :: (l.drop (pN l n)).filter fun x=>x != n:=by
 unfold Qc0 wiK;rw [W1b (l:=l.drop (pN l n)) (i:=l.length-pN l n) (by rw [W0p];exact W0m _)]
theorem Qip {l:List Int} {n x:Int}:x∈Qc0 l n↔x=n∨x∈l:=by
 rw [Zc4];have e:x∈l↔x∈l.take (pN l n)∨x∈l.drop (pN l n):=by rw [← W05,W1h]
 rw [e,W05,W0y,W1m];constructor
 ·rintro (h | h | h)
  ·exact .inr (.inl h)
  ·exact .inl h
  ·exact .inr (.inr h.1)
 ·rintro (h | h | h)
  ·exact .inr (.inl h)
  ·exact .inl h
  ·by_cases hx:x=n
   ·exact .inr (.inl hx)
   ·exact .inr (.inr ⟨h,by simpa using hx⟩)
theorem Qj4 {l:List Int} (h:Asc l) (n:Int):Asc (Qc0 l n):=by
 obtain ⟨h1,h2⟩:=Zh7 h n;rw [Zc4];have hs:Asc (l.take (pN l n)):=List.Pairwise.sublist (List.take_sublist _ _) h;have hd:Asc (l.drop (pN l n)):=List.Pairwise.sublist (List.drop_sublist _ _) h;refine List.pairwise_append.2 ⟨hs,W1l.2 ⟨fun y hy=>?_,List.Pairwise.filter _ hd⟩,fun a ha b hb=>?_⟩
 ·obtain ⟨y1,y2⟩:=W1m.1 hy;have:=h2 y y1;have:y ≠ n:=by simpa using y2
  omega
 ·have:=h1 a ha;rcases W0y.1 hb with rfl | hb
  ·exact this
  ·have:=h2 b (W1m.1 hb).1;omega
def Qdn (l:List Int):List Int:=Lib.compact (l.mergeSort fun x y=>decide (x≤y))
theorem Qr8 (l:List Int) {j:Nat} (h:j<l.length):l.toArray[j]! = l[j]:=by simp [h]
theorem Qx2 {l:List Int} {x:Int}:x∈Lib.compact l↔x∈l:=by
 unfold Lib.compact Lib.compactUpTo;rw [W1j];constructor
 ·rintro ⟨j,hj,rfl⟩;have:=List.mem_range.1 (W1m.1 hj).1;rw [Qr8 l this];exact W1n _
 ·intro hx;obtain ⟨i,hi,he⟩:=List.mem_iff_getElem.1 hx;have key:∀ (n i:Nat) (hi:i<l.length),i≤n→l[i]=x→∃ j,j<l.length∧Lib.keeps l.toArray j=true∧l.toArray[j]! = x:=by
   intro n
   induction n with
   | zero=>
    intro i hi h0 he;obtain rfl:i=0:=by omega
    exact ⟨0,hi,Lib.keeps_lt_one _ 0 (by omega),by rw [Qr8 l hi];exact he⟩
   | succ n ih=>
    intro i hi h0 he;cases hk:Lib.keeps l.toArray i with
    | true=>exact ⟨i,hi,hk,by rw [Qr8 l hi];exact he⟩
    | false=>
     have hi0:i ≠ 0:=fun e=>by subst e;rw [Lib.keeps_lt_one _ 0 (by omega)] at hk;cases hk
     have h2:l[i]'hi=l[i-1]'(by omega):=by
      unfold Lib.keeps at hk;have:=of_decide_eq_false hk;rw [not_or,Decidable.not_not] at this;rw [← Qr8 l hi,← Qr8 l (show i-1<l.length by omega)];exact this.2
     exact ih (i-1) (by omega) (by omega) (by rw [← h2];exact he)
  obtain ⟨j,h1,h2,h3⟩:=key i i hi (W0m _) he;exact ⟨j,W1m.2 ⟨List.mem_range.2 h1,h2⟩,h3⟩
theorem Qx3 {l:List Int} (h:l.Pairwise (·≤·)):Asc (Lib.compact l):=by
 unfold Lib.compact Lib.compactUpTo Asc;rw [List.pairwise_map,List.pairwise_filter];have hp:=List.pairwise_lt_range (n:=l.length);refine List.Pairwise.imp_of_mem (fun {a b} ha hb hab h1 h2=>?_) hp;have ha:=List.mem_range.1 ha;have hb:=List.mem_range.1 hb;rw [Qr8 l ha,Qr8 l hb];unfold Lib.keeps at h2;have h3:=of_decide_eq_true h2;have h4:l[b]'hb ≠ l[b-1]'(by omega):=by
  rcases h3 with h3 | h3
  ·omega
  ·rwa [Qr8 l hb,Qr8 l (show b-1<l.length by omega)] at h3
 have h5:l[b-1]'(by omega)≤l[b]'hb:=W1d.1 h (b-1) b (by omega) hb (by omega);by_cases e:a=b-1
 ·subst e;omega
 ·have h6:l[a]'ha≤l[b-1]'(by omega):=W1d.1 h a (b-1) ha (by omega) (by omega);omega
theorem Qey {l:List Int} {x:Int}:x∈Qdn l↔x∈l:=by
 unfold Qdn;rw [Qx2];exact (List.mergeSort_perm _ _).mem_iff
theorem Qgh (l:List Int):Asc (Qdn l):=by
 unfold Qdn;refine Qx3 ?_;have:=List.pairwise_mergeSort (le:=fun (x y:Int)=>decide (x≤y)) (fun a b c h1 h2=>by simp at *;omega) (fun a b=>by simp;omega) l;exact this.imp fun h=>by simpa using h
theorem Qo2 (l:List Int):(Lib.compact l).length≤l.length:=by
 unfold Lib.compact Lib.compactUpTo;rw [W0a];have:=W2h (Lib.keeps l.toArray) (List.range l.length);rw [List.length_range] at this;exact this
theorem Qka (l:List Int):(Qdn l).length≤l.length:=by
 unfold Qdn;have:=Qo2 (l.mergeSort fun x y=>decide (x≤y))
 rwa [List.length_mergeSort] at this
def Qaq (f:Fsy) (c:Cal):List Int:=if c.kind=15 then [0] else Qdn (Qe1 f c)
theorem Zfy (l:List Ent) (x:Int):∀ (ss:List Txt) (L:List Int),x∈lk2 l ss L↔x∈L∨∃ s∈ss,isB l s=true∧getI l s=x
 | [],L=>by simp [lk2]
 | s :: r,L=>by
  show x∈lk2 l r (if isB l s=true then L++[getI l s] else L)↔_;rw [Zfy l x r]
  split
  ·rename_i h;rw [W05,W0z];constructor
   ·rintro ((h1 | h1) | ⟨t,h1,h2⟩)
    ·exact .inl h1
    ·exact .inr ⟨s,by simp,h,h1.symm⟩
    ·exact .inr ⟨t,by simp [h1],h2⟩
   ·rintro (h1 | ⟨t,h1,h2,h3⟩)
    ·exact .inl (.inl h1)
    ·rcases W0y.1 h1 with rfl | h1
     ·exact .inl (.inr h3.symm)
     ·exact .inr ⟨t,h1,h2,h3⟩
  ·rename_i h;constructor
   ·rintro (h1 | ⟨t,h1,h2⟩)
    ·exact .inl h1
    ·exact .inr ⟨t,by simp [h1],h2⟩
   ·rintro (h1 | ⟨t,h1,h2,h3⟩)
    ·exact .inl h1
    ·rcases W0y.1 h1 with rfl | h1
     ·exact absurd h2 h
     ·exact .inr ⟨t,h1,h2,h3⟩
theorem Zfz {f:Fsy} {c:Cal} {L:List Int} {i x:Int}:x∈lk1 f c L i↔x∈L∨dirE f i=0∧∃ s,(s=c.name∨s=c.name2)∧isB (dirN f i).l s=true∧getI (dirN f i).l s=x:=by
 unfold lk1
 split
 ·rename_i h;rw [Zfy];simp [h]
 ·rename_i h;simp [h]
theorem Qi7 {f:Fsy} {c:Cal} {x:Int}:x∈Qe1 f c↔(x=c.ino∨x=c.to)∨∃ i,(i=c.ino∨i=c.to)∧dirE f i=0∧∃ s,(s=c.name∨s=c.name2)∧isB (dirN f i).l s=true∧getI (dirN f i).l s=x:=by
 show x∈lk1 f c (lk1 f c [c.ino,c.to] c.ino) c.to↔_;rw [Zfz,Zfz];constructor
 ·rintro ((h | h) | h)
  ·exact .inl (by simpa using h)
  ·exact .inr ⟨c.ino,.inl rfl,h⟩
  ·exact .inr ⟨c.to,.inr rfl,h⟩
 ·rintro (h | ⟨i,rfl | rfl,h⟩)
  ·exact .inl (.inl (by simpa using h))
  ·exact .inl (.inr h)
  ·exact .inr h
theorem Qkn {l:List Int} {f:Fsy} {d:Int} {s:Txt} {x:Int}:x∈Qb8 l f d s↔x∈l∨isB (Qaa f d).l s=true∧getI (Qaa f d).l s=x:=by
 unfold Qb8
 split
 ·rename_i h;rw [Qip];simp [h];constructor
  ·rintro (h | h)
   ·exact .inr h.symm
   ·exact .inl h
  ·rintro (h | h)
   ·exact .inr h
   ·exact .inl h.symm
 ·rename_i h;simp [h]
theorem Qko {l:List Int} (h:Asc l) (f:Fsy) (d:Int) (s:Txt):Asc (Qb8 l f d s):=by
 unfold Qb8
 split
 ·exact Qj4 h _
 ·exact h
theorem Znl (c:Cal):Asc (rl0 c):=Qj4 (Qj4 List.Pairwise.nil _) _
theorem Znk {c:Cal} {x:Int}:x∈rl0 c↔x=c.ino∨x=c.to:=by
 unfold rl0;rw [Qip,Qip];simp;constructor
 ·rintro (h | h)
  ·exact .inr h
  ·exact .inl h
 ·rintro (h | h)
  ·exact .inr h
  ·exact .inl h
theorem Qm5 {f:Fsy} {i:Int} {s:Txt} (hp:Qan f) (h:isB (Qaa f i).l s=true):dirE f i=0∧dirN f i=Qaa f i:=by
 cases hc:atF f i with
 | none=>
  rw [(Qvq hc).2] at h;exact absurd h (by rw [Qer];exact Bool.false_ne_true)
 | some n=>
  have hn:=(Qfr hc).2;by_cases hk:n.kind=2
  ·obtain ⟨h1,h2⟩:=Qoz hc hk;exact ⟨h1,h2.trans hn.symm⟩
  ·rw [hn,Qgz (Qbh hp hc).1 hk] at h;exact absurd h (by rw [Qer];exact Bool.false_ne_true)
theorem Zed {f:Fsy} {c:Cal} (hp:Qan f):Qaq f c=Qju f c:=by
 unfold Qaq Qju
 split
 ·rfl
 ·refine Ql7 (Qgh _) (Qko (Qko (Qko (Qko (Znl c) _ _ _) _ _ _) _ _ _) _ _ _) fun x=>?_;rw [Qey,Qi7,Qkn,Qkn,Qkn,Qkn,Znk];constructor
  ·rintro (h | ⟨i,hi,h0,s,hs,h1,h2⟩)
   ·exact .inl (.inl (.inl (.inl h)))
   ·obtain ⟨d,g1,g2,g3,g4,g5⟩:=Qvr h0;rw [g3] at h1 h2;rcases hi with rfl | rfl<;>rcases hs with rfl | rfl
    ·exact .inl (.inl (.inl (.inr ⟨by rw [g4];exact h1,by rw [g4];exact h2⟩)))
    ·exact .inl (.inl (.inr ⟨by rw [g4];exact h1,by rw [g4];exact h2⟩))
    ·exact .inl (.inr ⟨by rw [g4];exact h1,by rw [g4];exact h2⟩)
    ·exact .inr ⟨by rw [g4];exact h1,by rw [g4];exact h2⟩
  ·rintro ((((h | h) | h) | h) | h)
   ·exact .inl h
   ·obtain ⟨a,b⟩:=Qm5 hp h.1;exact .inr ⟨c.ino,.inl rfl,a,c.name,.inl rfl,b ▸ h.1,b ▸ h.2⟩
   ·obtain ⟨a,b⟩:=Qm5 hp h.1;exact .inr ⟨c.ino,.inl rfl,a,c.name2,.inr rfl,b ▸ h.1,b ▸ h.2⟩
   ·obtain ⟨a,b⟩:=Qm5 hp h.1;exact .inr ⟨c.to,.inr rfl,a,c.name,.inl rfl,b ▸ h.1,b ▸ h.2⟩
   ·obtain ⟨a,b⟩:=Qm5 hp h.1;exact .inr ⟨c.to,.inr rfl,a,c.name2,.inr rfl,b ▸ h.1,b ▸ h.2⟩
end Go.Proofs.YtahlldgocpabjaaGreat

namespace Go.Proofs.YtahlldgocpabjaaGreat
open Go Go.RowKit Copyhold Go.Proofs.Tryz
open Copyhold.Name (Srt insE delE getE isAt)
def updF:List (Int × Option Nod)→Option Nod→Int→Option Nod
 | [],x,_=>x
 | (i,v) :: r,x,j=>if j=i then v else updF r x j
def Upd (f k:Fsy) (u:List (Int × Option Nod)):Prop:=∀ j,atF k j=updF u (atF f j) j
theorem Upd.self (f:Fsy):Upd f f []:=fun _=>rfl
theorem Upd.out {f k:Fsy} {u:List (Int × Option Nod)} (h:Upd f k u) {j:Int} (hj:∀ p∈u,¬ p.1=j):atF k j=atF f j:=by
 rw [h j];clear h
 induction u with
 | nil=>rfl
 | cons p r ih=>
  obtain ⟨i,v⟩:=p;have h1:¬ i=j:=hj (i,v) (by simp);show (if j=i then v else updF r (atF f j) j)=_;rw [W1x (fun e=>h1 e.symm)];exact ih fun q hq=>hj q (by simp [hq])
theorem Zmw {u:List (Int × Option Nod)} {x y:Option Nod} {j:Int} (h:∃ p∈u,p.1=j):updF u x j=updF u y j:=by
 induction u with
 | nil=>obtain ⟨p,hp,_⟩:=h;cases hp
 | cons q r ih=>
  obtain ⟨i,v⟩:=q;show (if j=i then v else updF r x j)=if j=i then v else updF r y j
  split
  ·rfl
  ·rename_i hji;refine ih ?_;obtain ⟨p,hp,e⟩:=h;rcases W0y.1 hp with rfl | hp
   ·exact absurd e.symm hji
   ·exact ⟨p,hp,e⟩
structure Agr (f g:Fsy) (c:Cal) (u:List (Int × Option Nod)):Prop where
 looks:∀ p∈u,p.1∈Qe1 f c
 few:u.length≤2
 updf:Upd f (doF f c).1 u
 updg:Upd g (doF g c).1 u
 same:(doF f c).2=(doF g c).2
 nextf:(doF f c).1.next=f.next
 nextg:(doF g c).1.next=g.next
 lenf:(doF f c).1.l.length≤f.l.length
theorem Qcc {f g:Fsy} {c:Cal} {r:Rep} (h1:doF f c=(f,r)) (h2:doF g c=(g,r)):∃ u,Agr f g c u:=
 ⟨[],fun p hp=>(by cases hp),W0j _,by rw [h1];exact Upd.self f,by rw [h2];exact Upd.self g,by rw [h1,h2],by rw [h1],by rw [h2],by rw [h1];exact W0m _⟩
theorem Qom (f:Fsy) (c:Cal):c.ino∈Qe1 f c:=Qi7.2 (.inl (.inl rfl))
theorem Zmy (f:Fsy) (c:Cal):c.to∈Qe1 f c:=Qi7.2 (.inl (.inr rfl))
theorem B_eq {f g:Fsy} {i:Int} (h:atF f i=atF g i):Qav f i=Qav g i∧Qaa f i=Qaa g i:=by rw [at_B,at_B,at_N,at_N,h];exact ⟨rfl,rfl⟩
theorem Zmj {f g:Fsy} {i:Int} (h:atF f i=atF g i):dirE f i=dirE g i∧dirN f i=dirN g i:=by
 obtain ⟨h1,h2⟩:=B_eq h;have e:dirE f i=dirE g i:=by unfold dirE;rw [h1,h2]
 exact ⟨e,by unfold dirN;rw [e,h2]⟩
theorem of_eq {f g:Fsy} {i k:Int} (h:atF f i=atF g i):ofE f i k=ofE g i k:=by
 obtain ⟨h1,h2⟩:=B_eq h;unfold ofE;rw [h1,h2]
theorem Zfe {f:Fsy} (hp:Qan f):atF f 0=none:=by
 cases h:atF f 0 with
 | none=>rfl
 | some n=>have:=Qbh hp h;have:=this.1.1;omega
theorem Zmb {f:Fsy} {c:Cal} {i j:Int} {s:Txt} (hi:i=c.ino∨i=c.to) (hs:s=c.name∨s=c.name2) (h0:dirE f i=0) (hg:getE (lI (dirN f i).l) s=some j):j∈Qe1 f c:=
 Qi7.2 (.inr ⟨i,hi,h0,s,hs,by rw [Qer,hg];rfl,by rw [Qeb,hg];rfl⟩)
theorem Qqf {f g:Fsy} {c:Cal} (hp:Qan f) (hpg:Qan g) (h:∀ i∈Qe1 f c,atF f i=atF g i):Qa4 f c.ino c.name=Qa4 g c.ino c.name∧lookN f c.ino c.name=lookN g c.ino c.name:=by
 have hi:=h _ (Qom f c);obtain ⟨d1,d2⟩:=Zmj hi;have hI:Qd3 f c.ino c.name=Qd3 g c.ino c.name:=by unfold Qd3;rw [d2]
 have hat:atF f (Qd3 f c.ino c.name)=atF g (Qd3 f c.ino c.name):=by
  cases hg:getE (lI (dirN f c.ino).l) c.name with
  | none=>
   have:Qd3 f c.ino c.name=0:=by unfold Qd3;rw [Qeb,hg];rfl
   rw [this,Zfe hp,Zfe hpg]
  | some j=>
   have e:Qd3 f c.ino c.name=j:=by unfold Qd3;rw [Qeb,hg];rfl
   by_cases h0:dirE f c.ino=0
   ·rw [e];exact h _ (Zmb (.inl rfl) (.inl rfl) h0 hg)
   ·unfold dirN at hg;rw [W1x h0] at hg;cases hg
 obtain ⟨b1,b2⟩:=B_eq hat;have hE:Qa4 f c.ino c.name=Qa4 g c.ino c.name:=by
  unfold Qa4;rw [d1,b1,hI]
 exact ⟨hE,by unfold lookN;rw [hE,b2,hI]⟩
theorem Qw2 {f:Fsy} {i:Int} {n m:Nod} (hp:Qan f) (hn:atF f i=some n) (hm:m.ino=i):Upd f (putF f m) [(i,some m)]∧(putF f m).next=f.next∧(putF f m).l.length=f.l.length:=by
 have hr:=Qaf hp;obtain ⟨n1,n2,n3⟩:=Qbh hp hn;refine ⟨fun j=>?_,Qki (by omega),Qrg hr (by rw [hm];exact (Qfr hn).1)⟩;rw [Qmm hr,hm];rfl
theorem Qzt {f:Fsy} {dir:Int} {s:Txt} {i:Int} (okf:OkF f) (hp:Qan f) (hs:s.length≤1000000) (he:Qa5 f dir s i=0):∃ d n,atF f dir=some d∧atF f i=some n ∧
  Upd f (Qcz f dir s i) [(i,some (Qjn n)),(dir,some (Qbr d (entL d.l s i)))]∧(Qcz f dir s i).next=f.next∧(Qcz f dir s i).l.length=f.l.length:=by
 obtain ⟨d,n,G⟩:=Qzs he;obtain ⟨n1,n2,n3⟩:=Qbh hp G.node;have okn:=okf.2.2 n (Qdk G.node);have hi1:1≤i:=by have:=n1.1;omega
 have hi2:I64 i:=n3 ▸ okn.1;obtain ⟨e1,e2,e3,e4,e5⟩:=Qox okf hp G.dir G.kind G.check hs hi1 hi2 G.away G.fewd;have hne:¬ i=dir:=fun e=>by
  have h:=G.node;rw [e,G.dir] at h;obtain rfl:=W0c h;exact G.file G.kind
 have hni:atF (enterF f dir s i) i=some n:=by rw [e5,W1x hne];exact G.node
 have hg:Qcz f dir s i=putF (enterF f dir s i) (Qjn n):=by
  unfold Qcz;rw [W1y he,(Qfr G.node).2];rfl
 obtain ⟨q1,q2,q3⟩:=Qw2 (m:=Qjn n) e2 hni n3;rw [hg];refine ⟨d,n,G.dir,G.node,fun j=>?_,q2.trans e4,q3.trans e3⟩;rw [q1 j];show (if j=i then _ else atF (enterF f dir s i) j)=if j=i then _ else (if j=dir then _ else atF f j)
 rw [e5]
theorem Qyl {f:Fsy} {dir:Int} {s:Txt} (okf:OkF f) (hp:Qan f) (he:Qbd f dir s=0):∃ d j n,atF f dir=some d∧d.kind=2∧getE (lI d.l) s=some j∧atF f j=some n∧lookN f dir s=n ∧
  Upd f (Qdm f dir s) [(j,if n.links-1<1 then none else some (Qhr n)),(dir,some (Qbr d (delL d.l s)))]∧(Qdm f dir s).next=f.next∧(Qdm f dir s).l.length≤f.l.length:=by
 have h:=he;unfold Qbd at h;rw [Qqk] at h
 split at h
 ·rename_i h1;obtain ⟨d,j,n,a1,a2,a3,a4,a5⟩:=(Qi8 hp).1 h1;have hl:=(Qfm a1 a2 a3 a4 a5).2;have hnj:=Qc7 a5;obtain ⟨w1,w2,w3,w4,w5⟩:=Qld (s:=s) okf hp a1 a2 (n:=n) (.inl (by rw [hnj];exact a5));have ht:Qdm f dir s=Qbm f dir s n:=by unfold Qdm;rw [W1y he,hl]
  rw [ht];exact ⟨d,j,n,a1,a2,a4,a5,hl,fun x=>by rw [w5,hnj];rfl,w4,w3⟩
 ·exact absurd h (by assumption)
def Qhu (c:Cal):Prop:=c.kind=6∨c.kind=7∨c.kind=8∨c.kind=12∨c.kind=15
theorem Zao {f g:Fsy} {c:Cal} {m:Nod} {r:Rep} (hp:Qan f) (hpg:Qan g) (h:∀ i∈Qe1 f c,atF f i=atF g i) (h0:ofE f c.ino 1=0) (hm:m.ino=(Qaa f c.ino).ino) (h1:doF f c=(putF f m,r)) (h2:doF g c=(putF g m,r)):∃ u,Agr f g c u:=by
 obtain ⟨hn,hk⟩:=of_at h0;have hi:=Qc7 hn;obtain ⟨a1,a2,a3⟩:=Qw2 (m:=m) hp hn (hm.trans hi);obtain ⟨b1,b2,b3⟩:=Qw2 (m:=m) hpg ((h _ (Qom f c)).symm.trans hn) (hm.trans hi);exact ⟨[(c.ino,some m)],fun p hp=>by obtain rfl:=W0z.1 hp;exact Qom f c,(by show 1≤2;omega),by rw [h1];exact a1,by rw [h2];exact b1,by rw [h1,h2],by rw [h1];exact a2,by rw [h2];exact b2,by rw [h1];exact Nat.le_of_eq a3⟩
theorem Zap {f g:Fsy} {c:Cal} {dir:Bool} {odd:Int} (okf:OkF f) (okg:OkF g) (hp:Qan f) (hpg:Qan g) (h:∀ i∈Qe1 f c,atF f i=atF g i) (ho:¬ odd=0) (hd:Qb5 f c=Qc8 f c dir odd) (hdg:Qb5 g c=Qc8 g c dir odd):∃ u,Agr f g c u:=by
 obtain ⟨l1,l2⟩:=Qqf hp hpg h;by_cases h0:Qa4 f c.ino c.name=0
 ·have h0g:Qa4 g c.ino c.name=0:=l1 ▸ h0;cases hk:((lookN f c.ino c.name).kind==2) != dir with
  | true=>exact Qcc (tk_2 hd h0 hk ho) (tk_2 hdg h0g (l2 ▸ hk) ho)
  | false=>
   have e1:=tk_3 hd h0 hk;have e2:=tk_3 hdg h0g (l2 ▸ hk);have et:Qbd g c.ino c.name=Qbd f c.ino c.name:=by unfold Qbd;rw [l1,l2]
   by_cases he:Qbd f c.ino c.name=0
   ·obtain ⟨d,j,n,a1,a2,a3,a4,a5,a6,a7,a8⟩:=Qyl okf hp he;obtain ⟨d',j',n',b1,b2,b3,b4,b5,b6,b7,b8⟩:=Qyl okg hpg (et.trans he);have hdd:d'=d:=by
     have:=h _ (Qom f c);rw [a1,b1] at this;exact (W0c this).symm
    subst hdd;have hj:j'=j:=by rw [a3] at b3;exact (W0c b3).symm
    subst hj;have hnn:n'=n:=by rw [← a5,← b5,l2]
    subst hnn;obtain ⟨g1,g2⟩:=Qoz a1 a2;refine ⟨[(j',if n'.links-1<1 then none else some (Qhr n')),(c.ino,some (Qbr d' (delL d'.l c.name)))],fun p hp=>?_,by simp,by rw [e1];exact a6,by rw [e2];exact b6,by rw [e1,e2,et],by rw [e1];exact a7,by rw [e2];exact b7,by rw [e1];exact a8⟩;rcases W0y.1 hp with rfl | hp
    ·exact Zmb (.inl rfl) (.inl rfl) g1 (by rw [g2];exact a3)
    ·obtain rfl:=W0z.1 hp;exact Qom f c
   ·rw [show Qdm f c.ino c.name=f from W1x he] at e1;rw [show Qdm g c.ino c.name=g from W1x (by rw [et];exact he),et] at e2;exact Qcc e1 e2
 ·have h1:=tk_1 hd h0;have h2:=tk_1 hdg (l1 ▸ h0);rw [← l1] at h2;exact Qcc h1 h2
theorem Zks {f g:Fsy} {c:Cal} (okf:OkF f) (okg:OkF g) (hp:Qan f) (hpg:Qan g) (okc:OkCal c) (hw:¬ Qhu c) (h:∀ i∈Qe1 f c,atF f i=atF g i):∃ u,Agr f g c u:=by
 have hi:=h _ (Qom f c);obtain ⟨b1,b2⟩:=B_eq hi;obtain ⟨d1,d2⟩:=Zmj hi;unfold Qhu at hw;rcases (show c.kind=1∨c.kind=2∨c.kind=3∨c.kind=4∨c.kind=5∨c.kind=9∨c.kind=10∨c.kind=11∨c.kind=13∨c.kind=14∨(c.kind<1∨c.kind>15) from by omega) with hk | hk | hk | hk | hk | hk | hk | hk | hk | hk | hk
 ·obtain ⟨l1,l2⟩:=Qqf hp hpg h;have e2:=Qxf (f:=g) hk;rw [← l1,← l2] at e2;exact Qcc (Qxf hk) e2
 ·cases hb:Qav f c.ino with
  | false=>exact Qcc (Qv7 hk hb) (Qv7 hk (b1 ▸ hb))
  | true=>
   have e2:=Qqy (f:=g) hk (b1 ▸ hb);rw [← b2] at e2;exact Qcc (Qqy hk hb) e2
 ·have ho:=of_eq (k:=1) hi;by_cases h0:ofE f c.ino 1=0
  ·have e2:=Qrc (f:=g) hk (ho ▸ h0);rw [← b2] at e2;exact Qcc (Qrc hk h0) e2
  ·exact Qcc (Qrd hk rfl h0) (Qrd hk ho.symm h0)
 ·have ho:=of_eq (k:=1) hi;by_cases h0:ofE f c.ino 1=0
  ·have e1:=Qj3 (f:=f) hk h0;have e2:=Qj3 (f:=g) hk (ho ▸ h0);rw [← b2] at e2;by_cases he:(Qbk (Qaa f c.ino).text c.at_ c.text).2=0
   ·exact Zao (m:=Qei (Qaa f c.ino) (Qbk (Qaa f c.ino).text c.at_ c.text).1) hp hpg h h0 rfl (Qef e1 he) (Qef e2 he)
   ·exact Qcc (r:=errR (Qbk (Qaa f c.ino).text c.at_ c.text).2) (Qk4 e1 he) (Qk4 e2 he)
  ·exact Qcc (Qmu hk rfl h0) (Qmu hk ho.symm h0)
 ·have ho:=of_eq (k:=1) hi;by_cases h0:ofE f c.ino 1=0
  ·have e1:=Qsn (f:=f) hk h0;have e2:=Qsn (f:=g) hk (ho ▸ h0);rw [← b2] at e2;by_cases he:(cutD (Qaa f c.ino).text c.many).2=0
   ·exact Zao (m:=Qei (Qaa f c.ino) (cutD (Qaa f c.ino).text c.many).1) hp hpg h h0 rfl (Qef e1 he) (Qef e2 he)
   ·exact Qcc (r:=errR (cutD (Qaa f c.ino).text c.many).2) (Qk4 e1 he) (Qk4 e2 he)
  ·exact Qcc (Zaa hk rfl h0) (Zaa hk ho.symm h0)
 ·exact Zap okf okg hp hpg h (by decide) (Qmk hk) (Qmk hk)
 ·exact Zap okf okg hp hpg h (by decide) (Qii hk) (Qii hk)
 ·obtain ⟨t1,t2⟩:=B_eq (h _ (Zmy f c));have et:Qa5 g c.ino c.name c.to=Qa5 f c.ino c.name c.to:=by unfold Qa5;rw [d1,d2,t1,t2]
  have e1:=Zn5 (f:=f) hk;have e2:=Zn5 (f:=g) hk;rw [et] at e2;by_cases he:Qa5 f c.ino c.name c.to=0
  ·obtain ⟨d,n,a1,a2,a3,a4,a5⟩:=Qzt okf hp okc.name he;obtain ⟨d',n',g1,g2,g3,g4,g5⟩:=Qzt okg hpg okc.name (et.trans he);have hdd:d'=d:=by rw [hi,g1] at a1;exact W0c a1
   have hnn:n'=n:=by rw [h _ (Zmy f c),g2] at a2;exact W0c a2
   subst hdd hnn;refine ⟨[(c.to,some (Qjn n')),(c.ino,some (Qbr d' (entL d'.l c.name c.to)))],fun p hp=>?_,by simp,by rw [e1];exact a3,by rw [e2];exact g3,by rw [e1,e2],by rw [e1];exact a4,by rw [e2];exact g4,by rw [e1];exact Nat.le_of_eq a5⟩;rcases W0y.1 hp with rfl | hp
   ·exact Zmy f c
   ·obtain rfl:=W0z.1 hp;exact Qom f c
  ·rw [show Qcz f c.ino c.name c.to=f from W1x he] at e1;rw [show Qcz g c.ino c.name c.to=g from W1x (by rw [et];exact he)] at e2;exact Qcc e1 e2
 ·have ho:=of_eq (k:=3) hi;by_cases h0:ofE f c.ino 3=0
  ·have e2:=Qrv (f:=g) hk (ho ▸ h0);rw [← b2] at e2;exact Qcc (Qrv hk h0) e2
  ·exact Qcc (Qrw hk rfl h0) (Qrw hk ho.symm h0)
 ·have e2:=Qww (f:=g) hk;rw [← d1,← d2] at e2;exact Qcc (Qww hk) e2
 ·exact Qcc (Qxa hk) (Qxa hk)
end Go.Proofs.YtahlldgocpabjaaGreat
