import Derived.Test.YtahlldgocpabjaaGreatAl
import Derived.Test.YtahlldgocpabjaaGreatMrgJ
import Derived.Test.YtahlldgocpabjaaGreatVc
import Derived.Test.YtahlldgocpabjaaGreatMrgG
import Derived.Test.YtahlldgocpabjaaGreatMrgH
import Derived.MapKept
set_option maxRecDepth 100000
set_option maxHeartbeats 8000000
set_option linter.unusedVariables false
set_option linter.unusedSimpArgs false
namespace Go.Proofs.YtahlldgocpabjaaGreat
open Go Go.RowKit Copyhold Go.Proofs.Tryz
theorem Zbf (f:Fsy) (okf:OkF f):Qai prog 84 [.agg (fsyA f)] (aB (dP (Qan f))):=by
 have hfl:=okf.2.1;exact Qae func84 (let R:AV:=aB (dP (Qan f));
 .new fun b1=>.r 1<|.u 3 [b1]<|
 .lm 7 f.l nodA<|.r 2<|.br 9 (decide ((f.l.length:Int)>256)) (fun q1=>have p1:=decT q1;.r 4<|.r 1<|.f R [] (aB false) (by
  refine sF (fun h=>?_);obtain ⟨g1,g2,g3⟩:=h;omega))
 <| fun q1=>have p1:=decF q1;.u 4 [b1]<|
 .br 13 (decide (f.next<1)) (fun q2=>have p2:=decT q2;.r 1<|.f R [] (aB false) (by
  refine sF (fun h=>?_);obtain ⟨g1,g2,g3⟩:=h;omega))
 <| fun q2=>have p2:=decF q2;.r 1<|let L1:Lp (Nat):=⟨fun a1=>⟨[(1,.ptr 1 b1 0),(3,aI (a1:Int))],[(1,.box b1 28 (fsyA f))]⟩,fun a1=>f.l.length-a1,fun a1=>a1≤f.l.length∧Qba (Znj f) f.l a1⟩
 .lp L1 0 ⟨W0j _,Qba.zero _ _⟩ [(3,aI 0)] [] ⟨sR,sO,trivial⟩ bb1 fun a1 ha1=>
 (fun (k:Nat) (hH1:k≤f.l.length∧Qba (Znj f) f.l k)=>.u 4 [b1]<|
 .lm 17 f.l nodA<|.r 1<|.br 18 (decide ((k:Int)<(f.l.length:Int))) (fun q3=>have p3:=decT q3;.u 3 [b1]<|
 .idxM f.l nodA k (m:=(k:Int)) rfl (by omega) fun x1 hx1=>
 have okx1:=okf.2.2 x1 (W0h hx1);.r 1<|.call (Qh4 x1 okx1)<|
 .r 1<|.ord [0,1,2,3,4,5,6,7,8,9,10,11,12,13,14,15,16,17,18,19,20,21,22,23,24,25,26,27,28,29,30,31,32]<|.r 3<|.br 29 (!(dP (nodP x1))) (fun q4=>have q4:=notT q4;have p4:=booF q4;.r 30<|.r 1<|.f R [] (aB false) (by
  refine sF (fun h=>?_);obtain ⟨g1,g2,g3⟩:=h.2.2.at hx1
  first | omega | exact Qad.1 (by assumption) g1 ))
 <| fun q4=>have q4:=notF q4;have p4:=booT q4;.u 3 [b1]<|
 .idx k (m:=(k:Int)) (xs:=f.l.map nodA) (e:=nodA x1) rfl (map_some hx1)<|
 .u 7 [b1]<|
 .br 40 (decide (x1.ino≥f.next)) (fun q5=>have p5:=decT q5;.r 19<|.r 1<|.f R [] (aB false) (by
  refine sF (fun h=>?_);obtain ⟨g1,g2,g3⟩:=h.2.2.at hx1
  first | omega | exact Qad.1 (by assumption) g1 ))
 <| fun q5=>have p5:=decF q5;.r 3<|.br 43 (decide ((k:Int)>0)) (fun q6=>have p6:=decT q6;.run 4 [b1=b1,rng .i64 ((k:Int)-1)] ⟨rfl,Qah,trivial⟩<|
 .idxM f.l nodA (k-1) (m:=(k:Int)-1) (by omega) (by omega) fun x2 hx2=>
 have okx2:=okf.2.2 x2 (W0h hx2);.u 5 [b1]<|
 .idx k (m:=(k:Int)) (xs:=f.l.map nodA) (e:=nodA x1) rfl (map_some hx1)<|
 .r 5<|.br 59 (decide (x2.ino≥x1.ino)) (fun q7=>have p7:=decT q7;.r 1<|.f R [] (aB false) (by
  refine sF (fun h=>?_);obtain ⟨g1,g2,g3⟩:=h.2.2.at hx1
  first | omega | exact Qad.1 (by assumption) g1 | (have:=g3 _ (by omega) hx2;omega)))
 <| fun q7=>have p7:=decF q7;.run 3 [rng .i64 ((k:Int)+1)] ⟨Qah,trivial⟩<|
 .bk L1 k (k+1) ⟨by omega,hH1.2.step hx1 ⟨Qau.1 (by assumption),by omega,by intro d h0 hd;first | omega | (rw [hd] at hx2;obtain rfl:=W0c hx2;omega)⟩⟩ (show f.l.length-(k+1)<f.l.length-k from (by omega)) [(3,aI ((k:Int)+1))] [] ⟨sR,sO,trivial⟩ bb1)
 <| fun q6=>have p6:=decF q6;.r 16<|.run 3 [rng .i64 ((k:Int)+1)] ⟨Qah,trivial⟩<|
 .bk L1 k (k+1) ⟨by omega,hH1.2.step hx1 ⟨Qau.1 (by assumption),by omega,by intro d h0 hd;omega⟩⟩ (show f.l.length-(k+1)<f.l.length-k from (by omega)) [(3,aI ((k:Int)+1))] [] ⟨sR,sO,trivial⟩ bb1)
 <| fun q3=>have p3:=decF q3;.r 1<|.f R [] (aB true) (by exact sT ⟨by omega,by omega,hH1.2.full (by omega)⟩)) a1 ha1)
theorem Qa2 (f:Fsy) (i:Int) (hl:f.l.length≤8796093022207):Qai prog 67 [.agg (fsyA f),aI i] (.tup [.agg (nodA (Qaa f i)),aB (Qav f i)]):=by
 exact Qae func67 (
 .new fun b1=>.new fun b2=>.r 1<|.r 1<|let L1:Lp (Nat):=⟨fun a1=>⟨[(1,aI i),(2,.ptr 2 b1 0),(4,.ptr 4 b2 0),(6,aI (a1:Int))],[(2,.box b1 28 (fsyA f)),(4,.box b2 84 [aI 0,aI 0,aI 0,aS ([]),aN])]⟩,fun a1=>f.l.length-a1,fun a1=>a1≤f.l.length∧Qba (fun _ n=>isNo i n=false) f.l a1⟩
 .lp L1 0 ⟨W0j _,Qba.zero _ _⟩ [(6,aI 0)] [] ⟨sR,sR,sR,sO,trivial⟩ bb2 fun a1 ha1=>
 (fun (k:Nat) (hH1:k≤f.l.length∧Qba (fun _ n=>isNo i n=false) f.l k)=>.u 4 [b1]<|
 .lm 10 f.l nodA<|.r 1<|.br 11 (decide ((k:Int)<(f.l.length:Int))) (fun q1=>have p1:=decT q1;.u 3 [b1]<|
 .idxM f.l nodA k (m:=(k:Int)) rfl (by omega) fun x1 hx1=>
 .r 4<|.br 21 (x1.ino==i) (fun q2=>have p2:=beqT q2;.u 3 [b1]<|
 .idx k (m:=(k:Int)) (xs:=f.l.map nodA) (e:=nodA x1) rfl (map_some hx1)<|
 .u 3 [b2]<|
 .f (.tup [.agg (nodA (Qaa f i)),aB (Qav f i)]) [b2] (.tup [.agg (nodA x1),aB true]) (by
  obtain ⟨e1,e2⟩:=Qxp hH1.2 hx1 (by assumption);rw [show Qaa f i=x1 from by unfold Qaa;rw [e2];rfl,show Qav f i=true from e1];exact sR))
 <| fun q2=>have p2:=beqF q2;.run 3 [rng .i64 ((k:Int)+1)] ⟨Qah,trivial⟩<|
 .bk L1 k (k+1) ⟨by omega,hH1.2.step hx1 (by assumption)⟩ (show f.l.length-(k+1)<f.l.length-k from (by omega)) [(6,aI ((k:Int)+1))] [] ⟨sR,sR,sR,sO,trivial⟩ bb2)
 <| fun q1=>have p1:=decF q1;.u 3 [b2]<|
 .f (.tup [.agg (nodA (Qaa f i)),aB (Qav f i)]) [b2] (.tup [.agg [aI 0,aI 0,aI 0,aS ([]),aN],aB false]) (by
  obtain ⟨e1,e2⟩:=Zgx (hH1.2.full (by omega));rw [show Qaa f i=nod0 from by unfold Qaa;rw [e2];rfl,show Qav f i=false from e1];exact W2s ⟨W2t ⟨sR,sR,sR,sR,Sub.nil _ _,trivial⟩,sR,trivial⟩)) a1 ha1)
theorem Zmf {x y:Fsy} (h1:x.l=y.l) (h2:x.next=y.next):x=y:=by cases x;cases y;simp_all
theorem Qqh (f g:Fsy) (okf:OkF f) (okg:OkF g):Qai prog 29 [.agg (fsyA f),.agg (fsyA g)] (aB (dP (f=g))):=by
 have hb1:=okf.2.1;have hb2:=okg.2.1;exact Qae func29 (let R:AV:=aB (dP (f=g));
 .new fun b1=>.new fun b2=>.r 1<|.u 6 [b1,b2]<|
 .br 12 (f.next != g.next) (fun q1=>have p1:=bneT q1;.r 8<|.r 1<|.f R [] (aB false) (by exact sF (fun h=>by subst h;omega)))
 <| fun q1=>have p1:=bneF q1;.u 3 [b1]<|
 .lm 15 f.l nodA<|.u 3 [b2]<|
 .lm 18 g.l nodA<|.r 2<|.br 20 ((f.l.length:Int) != (g.l.length:Int)) (fun q2=>have p2:=bneT q2;.r 1<|.f R [] (aB false) (by exact sF (fun h=>by subst h;omega)))
 <| fun q2=>have p2:=bneF q2;.r 1<|let L1:Lp (Nat):=⟨fun a1=>⟨[(2,.ptr 2 b1 0),(3,.ptr 3 b2 0),(5,aI (a1:Int))],[(2,.box b1 28 (fsyA f)),(3,.box b2 28 (fsyA g))]⟩,fun a1=>f.l.length-a1,fun a1=>a1≤f.l.length∧f.l.take a1=g.l.take a1⟩
 .lp L1 0 ⟨W0j _,rfl⟩ [(5,aI 0)] [] ⟨sR,sR,sO,trivial⟩ bb2 fun a1 ha1=>
 (fun (k:Nat) (hH1:k≤f.l.length∧f.l.take k=g.l.take k)=>.u 4 [b1]<|
 .lm 24 f.l nodA<|.r 1<|.br 25 (decide ((k:Int)<(f.l.length:Int))) (fun q3=>have p3:=decT q3;.ord [0,1,2,3,4,5,6,7,8,9,10,11]<|.u 3 [b1]<|
 .idxM f.l nodA k (m:=(k:Int)) rfl (by omega) fun x1 hx1=>
 have okx1:=okf.2.2 x1 (W0h hx1);.u 4 [b2]<|
 .idxM g.l nodA k (m:=(k:Int)) rfl (by omega) fun x2 hx2=>
 have okx2:=okg.2.2 x2 (W0h hx2);.r 1<|.call (Qem x1 x2 okx1 okx2)<|
 .r 1<|.r 2<|.br 40 (!(dP (x1=x2))) (fun q4=>have q4:=notT q4;have p4:=booF q4;.r 1<|.f R [] (aB false) (by
  refine sF (fun h=>?_);rw [h,hx2] at hx1;obtain rfl:=W0c hx1;simp_all [Qau,Qad]))
 <| fun q4=>have q4:=notF q4;have p4:=booT q4;.run 3 [rng .i64 ((k:Int)+1)] ⟨Qah,trivial⟩<|
 .bk L1 k (k+1) ⟨by omega,by rw [Qam hx1,Qam hx2,hH1.2];first | (congr 2;done) | (congr 2;exact Qau.1 (by assumption))⟩ (show f.l.length-(k+1)<f.l.length-k from (by omega)) [(5,aI ((k:Int)+1))] [] ⟨sR,sR,sO,trivial⟩ bb2)
 <| fun q3=>have p3:=decF q3;.r 1<|.f R [] (aB true) (by
  refine sT (Zmf ?_ (by omega));have h:=hH1.2;rw [Qat (by omega),Qat (by omega)] at h;exact h)) a1 ha1)
def wN (n:Nod):Nat:=n.l.length
def fewF (f:Fsy):Prop:=f.l.length+(f.l.map wN).sum≤200∧∀ n∈f.l,n.text.length≤5000
def FewK (f:Fsy) (k n:Nat):Prop:=k≤f.l.length∧n=f.l.length+((f.l.take k).map wN).sum∧(∀ m∈f.l.take k,m.text.length≤5000)∧n≤100000000000000
theorem few0 {f:Fsy} (h:f.l.length≤8796093022207):FewK f 0 f.l.length:=⟨W0j _,by simp,fun m h=>by simp at h,by omega⟩
theorem Zkl {f:Fsy} {k n:Nat} {x:Nod} (h:FewK f k n) (hx:f.l[k]?=some x) (hn:n≤200) (ht:x.text.length≤5000) (hb:x.l.length≤8796093022207):FewK f (k+1) (n+x.l.length):=by
 obtain ⟨h1,h2,h3,_⟩:=h;refine ⟨Qap hx,by rw [Qmw wN hx,h2];simp only [wN];omega,fun m hm=>?_,by omega⟩;rcases Qia hx hm with h | rfl
 ·exact h3 m h
 ·exact ht
theorem Zg0 {f:Fsy} {k n:Nat} (h:FewK f k n) (h3:¬ (k:Int)<f.l.length∨¬ (n:Int)≤200):decide ((n:Int)≤200)=true↔fewF f:=by
 obtain ⟨hk,h1,h2,_⟩:=h;rw [decide_eq_true_iff];refine ⟨fun hn=>?_,fun hf=>?_⟩
 ·have hk':f.l.length≤k:=by omega
  rw [Qat hk'] at h1 h2;exact ⟨by omega,h2⟩
 ·have:=hf.1;have:=Qfh wN f.l k;omega
theorem Zkm (f:Fsy) (okf:OkF f):Qai prog 12 [.agg (fsyA f)] (aB (dP (fewF f))):=by
 have hfl:=okf.2.1;exact Qae func12 (let R:AV:=aB (dP (fewF f));
 .new fun b1=>.r 1<|.u 3 [b1]<|
 .lm 7 f.l nodA<|.r 1<|.r 1<|let L1:Lp (Nat × Nat):=⟨fun a1=>⟨[(1,.ptr 1 b1 0),(4,aI (a1.1:Int)),(3,aI (a1.2:Int))],[(1,.box b1 28 (fsyA f))]⟩,fun a1=>f.l.length-a1.1,fun a1=>FewK f a1.1 a1.2⟩
 .lp L1 (0,f.l.length) (show FewK f 0 f.l.length from (few0 hfl)) [(4,aI 0)] [] ⟨sR,sO,sR,trivial⟩ bb1 fun a1 ha1=>
 (fun (k:Nat) (n:Nat) (hH1:FewK f k n)=>have hk1:=hH1.1;have hk2:=hH1.2.2.2;.u 4 [b1]<|
 .lm 11 f.l nodA<|.r 2<|.bd 13 ((k:Int)<(f.l.length:Int)) (fun p1=>.r 3<|.bd 16 ((n:Int)≤200) (fun p2=>.u 4 [b1]<|
 .idxM f.l nodA k (m:=(k:Int)) rfl (by omega) fun x1 hx1=>
 have okx1:=okf.2.2 x1 (W0h hx1);have blx1:=okx1.2.2.2.2.1;.r 3<|.lm 26 x1.l entA<|.run 2 [rng .i64 ((n:Int)+(x1.l.length:Int))] ⟨Qah,trivial⟩<|
 .u 3 [b1]<|
 .idx k (m:=(k:Int)) (xs:=f.l.map nodA) (e:=nodA x1) rfl (map_some hx1)<|
 .r 4<|.bd 35 (((x1.text).length:Int)>5000) (fun p3=>.r 1<|.f (aB (dP (fewF f))) [] (aB false) (by exact sF (fun h=>by have:=h.2 _ (W0h hx1);omega)))
 <| fun p3=>.run 3 [rng .i64 ((k:Int)+1)] ⟨Qah,trivial⟩<|
 .bk L1 (k,n) ((k+1),(n+x1.l.length)) (show FewK f (k+1) (n+x1.l.length) from (Zkl hH1 hx1 (by omega) (by omega) (by omega))) (show f.l.length-(k+1)<f.l.length-k from (by omega)) [(4,aI ((k:Int)+1)),(3,aI ((n:Int)+(x1.l.length:Int)))] [] ⟨sR,sO,sO,trivial⟩ bb1)
 <| fun p2=>.r 3<|.f R [] (aB (decide ((n:Int)≤200))) (by exact sE (Zg0 hH1 (by omega))))
 <| fun p1=>.r 3<|.r 3<|.f R [] (aB (decide ((n:Int)≤200))) (by exact sE (Zg0 hH1 (by omega)))) a1.1 a1.2 ha1)
def hasB (U:List Int) (i:Int):Bool:=U.any fun z=>z==i
theorem has_no {U:List Int} {i:Int} (h:AllQ (fun _ z=>(z==i)=false) U):hasB U i=false:=by
 unfold hasB;rw [W2d];intro x hx;obtain ⟨j,hj⟩:=W0w hx;rw [h j x hj];simp
theorem Zoe {U:List Int} {k:Nat} {x i:Int} (hx:U[k]?=some x) (h:(x==i)=true):hasB U i=true:=
 List.any_eq_true.2 ⟨x,W0h hx,h⟩
theorem Qjb {U:List Int} {i:Int}:hasB U i=true↔i∈U:=by
 unfold hasB;rw [List.any_eq_true];exact ⟨fun ⟨x,hx,he⟩=>by rw [beq_iff_eq] at he;exact he ▸ hx,fun h=>⟨i,h,by simp⟩⟩
def addE (U:List Int) (l:List Ent):List Int:=l.foldl (fun U e=>if hasB U e.ino then U else U++[e.ino]) U
theorem Qjk {U:List Int} {l:List Ent} {k:Nat} {x:Ent} (h:l[k]?=some x) (q:hasB (addE U (l.take k)) x.ino=true):addE U (l.take (k+1))=addE U (l.take k):=by
 unfold addE at q ⊢;rw [Qam h,W1p];simp [q]
theorem Qma {U:List Int} {l:List Ent} {k:Nat} {x:Ent} (h:l[k]?=some x) (q:hasB (addE U (l.take k)) x.ino=false):addE U (l.take (k+1))=addE U (l.take k)++[x.ino]:=by
 unfold addE at q ⊢;rw [Qam h,W1p];simp [q]
theorem Zaq (l:List Ent):∀ U:List Int,U.length≤(addE U l).length:=by
 induction l with
 | nil=>exact fun U=>W0m _
 | cons e r ih=>
  intro U;show _≤(addE (if hasB U e.ino then U else U++[e.ino]) r).length;refine W1a ?_ (ih _)
  split
  ·exact W0m _
  ·simp
def Qjw (f:Fsy):List Int:=f.l.flatMap fun n=>n.l.map Ent.ino
theorem Qzq (f:Fsy):(Qjw f).length=(f.l.map wN).sum:=by
 unfold Qjw;rw [List.length_flatMap];congr 1;refine List.map_congr_left fun n _=>?_;rw [W0a];rfl
theorem Qrq:∀ {U A:List Int},U.Nodup→(∀ z∈U,z∈A)→U.length≤A.length
 | [],A,_,_=>W0j _
 | x :: r,A,hn,hs=>by
  obtain ⟨h1,h2⟩:=List.nodup_cons.1 hn;have hx:x∈A:=hs x (by simp);have:=Qrq (U:=r) (A:=A.erase x) h2 fun z hz=>(List.mem_erase_of_ne (a:=z) (b:=x) (fun e=>h1 (by rw [← e];exact hz))).2 (hs z (by simp [hz]));rw [List.length_erase_of_mem hx] at this;have:=List.length_pos_of_mem hx;simp only [W0b];omega
def Dst (f:Fsy) (U:List Int):Prop:=U.Nodup∧∀ z∈U,z∈Qjw f
theorem Dst.le {f:Fsy} {U:List Int} (h:Dst f U) (hf:fewF f):U.length≤200:=by
 have:=Qrq h.1 h.2;rw [Qzq] at this;have:=hf.1;omega
theorem Dst.nil (f:Fsy):Dst f []:=⟨List.nodup_nil,fun z h=>by cases h⟩
theorem Qf5 {f:Fsy}:∀ {l:List Ent} {U:List Int},Dst f U→(∀ e∈l,e.ino∈Qjw f)→Dst f (addE U l)
 | [],U,h,_=>h
 | e :: r,U,h,hl=>by
  show Dst f (addE (if hasB U e.ino then U else U++[e.ino]) r);refine Qf5 ?_ fun e' he=>hl e' (by simp [he]);cases hq:hasB U e.ino with
  | true=>exact h
  | false=>
   have hne:e.ino ∉ U:=fun hm=>by rw [Qjb.2 hm] at hq;cases hq
   refine ⟨?_,fun z hz=>?_⟩
   ·show (U++[e.ino]).Nodup;rw [List.nodup_append];exact ⟨h.1,by simp,fun a ha b hb=>by obtain rfl:=W0z.1 hb;exact fun e=>hne (e ▸ ha)⟩
   ·rcases W05.1 hz with hz | hz
    ·exact h.2 z hz
    ·obtain rfl:=W0z.1 hz;exact hl e (by simp)
theorem Qf4 {f:Fsy} {i:Int} {e:Ent} (h:e∈(Qaa f i).l):e.ino∈Qjw f:=by
 unfold Qaa at h;cases hf:f.l.find? (isNo i) with
 | none=>rw [hf] at h;cases h
 | some n=>
  rw [hf] at h;exact List.mem_flatMap.2 ⟨n,W1o hf,List.mem_map_of_mem h⟩
theorem Qd0 {f:Fsy} {U:List Int} (h:Dst f U) (i:Int) (k:Nat):Dst f (addE U ((Qaa f i).l.take k)):=
 Qf5 h fun e he=>Qf4 (W14 he)
def goU (f:Fsy):Nat→List Int→Nat→List Int
 | 0,U,_=>U
 | n+1,U,p=>
  match U[p]? with
  | some i=>goU f n (addE U (Qaa f i).l) (p+1)
  | none=>U
def Qda (f:Fsy) (i:Int):List Int:=goU f 1300 (addE [] (Qaa f i).l) 0
def UH (f:Fsy) (i:Int) (U:List Int) (p:Nat):Prop:=Dst f U∧p≤U.length∧goU f (1300-p) U p=Qda f i
theorem UH.zero (f:Fsy) (i:Int) {j:Nat} (h:(Qaa f i).l.length≤j):UH f i (addE [] ((Qaa f i).l.take j)) 0:=by
 refine ⟨Qd0 (Dst.nil f) i j,W0j _,?_⟩;rw [Qat h];rfl
theorem UH.step {f:Fsy} {i:Int} {U:List Int} {p j:Nat} {z:Int} (hf:fewF f) (h:UH f i U p) (hz:U[p]?=some z) (hj:(Qaa f z).l.length≤j):UH f i (addE U ((Qaa f z).l.take j)) (p+1):=by
 obtain ⟨h1,h2,h3⟩:=h;have hp:=Qap hz;have hl:=h1.le hf;refine ⟨Qd0 h1 z j,by have:=Zaq ((Qaa f z).l.take j) U;omega,?_⟩;rw [Qat hj,← h3,show 1300-p=(1300-(p+1))+1 from by omega];simp only [goU,hz]
theorem UH.done {f:Fsy} {i:Int} {U:List Int} {p:Nat} (h:UH f i U p) (hp:U.length≤p):Qda f i=U:=by
 rw [← h.2.2];cases 1300-p with
 | zero=>rfl
 | succ n=>simp only [goU,W1i hp]
theorem Zgn {f:Fsy}:∀ (n:Nat) {U:List Int} (p:Nat),Dst f U→Dst f (goU f n U p)
 | 0,U,p,h=>h
 | n+1,U,p,h=>by
  simp only [goU]
  split
  ·exact Zgn n (p+1) (Qf5 h fun e he=>Qf4 he)
  ·exact h
def isE (i:Int) (e:Ent):Bool:=e.ino==i
def cntE (i:Int) (n:Nod):Nat:=n.l.countP (isE i)
def Qqc (f:Fsy) (i:Int):Nat:=(f.l.map (cntE i)).sum
def cntK (i:Int) (l:List Ent) (j:Nat):Nat:=(l.take j).countP (isE i)
theorem Zlb {i:Int} {l:List Ent} {j:Nat} {x:Ent} (h:l[j]?=some x) (q:(x.ino==i)=true):cntK i l (j+1)=cntK i l j+1:=by
 unfold cntK;rw [Qam h,List.countP_append];simp [isE,q]
theorem Zox {i:Int} {l:List Ent} {j:Nat} {x:Ent} (h:l[j]?=some x) (q:(x.ino==i)=false):cntK i l (j+1)=cntK i l j:=by
 unfold cntK;rw [Qam h,List.countP_append];simp [isE,q]
theorem Zlc {i:Int} {n:Nod} {j:Nat} (h:n.l.length≤j):cntK i n.l j=cntE i n:=by unfold cntK cntE;rw [Qat h]
theorem Zoy (i:Int) (l:List Ent) (j:Nat):cntK i l j≤l.length:=W1a List.countP_le_length (by rw [W0g];omega)
theorem Zhn (i:Int):∀ l:List Nod,(l.map (cntE i)).sum≤(l.map wN).sum
 | []=>W0m _
 | n :: r=>by
  have:=Zhn i r;have:cntE i n≤wN n:=List.countP_le_length;simp only [W1u,List.sum_cons];omega
def Qof (f:Fsy) (i:Nat) (n:Nod):Bool:=!(decide ((i:Int)>0)&&(decide (n.links<1)||(n.kind==2&&(decide (n.links>1)||!(hasB (Qda f 1) n.ino)))))
def Qxb (f:Fsy) (i:Nat) (n:Nod):Prop:=n.links=(Qqc f n.ino:Int)∧Qof f i n=true∧AllQ (fun _ e=>Qav f e.ino=true) n.l
def Qmf (f:Fsy):Prop:=Qan f∧(∃ n,f.l[0]?=some n∧n.ino=1∧n.kind=2∧n.links=0)∧AllQ (Qxb f) f.l
def Qs1 (P:Program) (f:FuncId) (args:List AV) (y:Bx) (r:AV):Prop:=
 ∀ (D:Nat→Prop) (w:World) (vs:Array Value),(∀ b,D b→b<w.heap.size)→Qdj D w args vs→BoxR D w y→(∀ g,y.blk=some g→¬ D g) →
  Calls P f vs w (fun e w'=>∃ v,∃ D':Nat→Prop,e=.returned v∧Below 0 w w'∧(∀ k,y.blk ≠ some k→k<w.heap.size→w'.heap[k]?=w.heap[k]?)∧(∀ b,D b→D' b) ∧
   (∀ b,D' b→b<w'.heap.size∧(D b∨y.blk=some b∨w.heap.size≤b))∧Ra D' w' r v)
theorem Zjy {P:Program} {f:FuncId} {F:Func} {code:Code} {args:List AV} {q:Nat} {y:Bx} {r:AV} (n:Nat) (ct:Ct P) (hf:P.funcs[f]?=some F) (hb:F.body=some code)
  (hk:(decide (args.length≤F.ntmps)&&(P.follows .mixedOrders&&(F.results.toList.all fun rv=>decide ((match rv with | .tmp t=>t | .cell t _=>t)<F.ntmps))))=true)
  (h:vcC ct=vc P F (.val r) n ct (.code code) [] ⟨Qdu args 0,[(q,y)]⟩):Qs1 P f args y r:=by
 simp only [W0r] at hk;have hsz:args.length≤F.ntmps:=of_decide_eq_true hk.1;have hn:=hk.2.2;have hv:vc P F (.val r) n ct (.code code) [] ⟨Qdu args 0,[(q,y)]⟩:=h ▸ Qay ct;intro D w vs hD hvs hy hyD;refine calls_of_wp hf hb ?_
 let c:Cx:=⟨w.heap.size,w,F.ntmps,D,fun k=>y.blk=some k⟩
 have hawp:AWp c P code (FinG P F (.val r)) (LS.mk (Qdu args 0) [(q,y)]).fs:=Qa1 (c:=c) rfl hk.2.1 n ct (.code code) [] _ hv;have htm:∀ t,(LS.mk (Qdu args 0) [(q,y)]).fs.tm t=args.getD t .any:=fun t=>by
  show lget (Qdu args 0) t=_;rw [Qgt];simp
 have hbx:∀ i x,(LS.mk (Qdu args 0) [(q,y)]).fs.bx i=some x→i=q∧x=y:=fun i x hx=>by
  have hx':bget [(q,y)] i=some x:=hx;simp only [bget] at hx';cases hb:Nat.beq q i with
  | true=>
   rw [hb] at hx';exact ⟨(W0q hb).symm,(W0c hx').symm⟩
  | false=>rw [hb] at hx';cases hx'
 have hrel:Rel c (LS.mk (Qdu args 0) [(q,y)]).fs { tmps:=vs++Array.replicate (F.ntmps-vs.size) undef,defers:=[] } w:=by
  refine ⟨W0m _,D,rfl,?_,BelowL.refl (c:=c),hD,⟨fun _ h=>h,fun _ h=>.inl h⟩,fun t v hv=>?_,fun id x h=>?_,fun i j x z hx hz hij=>?_⟩
  ·have:=hvs.1;simp [c];omega
  ·rw [htm];by_cases ht:t<vs.size
   ·rw [W2c ht] at hv;have hta:t<args.length:=by rw [hvs.1];exact ht
    have:=hvs.2 t args[t] v (W0d hta) hv;simpa [List.getD,W0d hta] using this
   ·have hta:args.length≤t:=by rw [hvs.1];omega
    have:args.getD t .any=.any:=by simp [List.getD,W1i hta]
    rw [this];exact .any v
  ·obtain ⟨_,rfl⟩:=hbx id x h;exact ⟨fun g hg=>⟨.inr hg,hyD g hg⟩,hy⟩
  ·exact absurd ((hbx i x hx).1.trans (hbx j z hz).1.symm) hij
 refine wp_mono (hawp _ _ hrel) fun e' a' w' ⟨s',hq,hc,D',hR⟩=>?_;obtain ⟨he,hd⟩:=hq;have hn':∀ rv∈F.results.toList,(match rv with | .tmp t=>t | .cell t _=>t)<c.n:=fun rv hrv=>by
  have:=W10.1 hn rv hrv;simpa using this
 obtain ⟨v,hv1,hrv⟩:=Qg8 hR hn' hd;have fin:∃ u,∃ D'':Nat→Prop,Ending.returned v=.returned u∧Below 0 w w'∧(∀ k,y.blk ≠ some k→k<w.heap.size→w'.heap[k]?=w.heap[k]?)∧(∀ b,D b→D'' b) ∧
   (∀ b,D'' b→b<w'.heap.size∧(D b∨y.blk=some b∨w.heap.size≤b))∧Ra D'' w' r u:=
  ⟨v,D',rfl,⟨hR.below.os,hR.below.tape,hR.below.output,hR.below.size,fun k hk=>absurd hk (by omega)⟩,fun k hk hl=>hR.below.block k hl hk,hR.old.1,
   fun b hb=>⟨hR.dlt b hb,(hR.old.2 b hb).imp id fun h=>h.symm⟩,hrv⟩
 rcases he with rfl | rfl
 ·exact ⟨hR.defers,v,hv1,fin⟩
 ·exact ⟨hR.defers,v,hv1,fin⟩
def gone:Bx:=.row (.slice none 0 0) 0 0 []
def lcR (P:Program) (q:Nat) (ops:Array Oper) (s:LS) (i:Nat):Option ((FuncId × List AV × Option Tmp) × Bx):=
 match Qms ops s i,bget s.bx q with
 | some (f,args,d),some y=>bif entB P f then some ((f,args,d),y) else none
 | _,_=>none
theorem Zog (D:Nat→Prop) (w:World):BoxR D w gone:=by
 show BoxR D w (.row (.slice none 0 0) 0 0 []);refine ⟨fun l h=>(by cases h),[],World.ownsRow_nil _ _ _ _,fun u h=>(by cases h),fun j a u h=>(by simp at h)⟩
theorem Qc4 {P:Program} {q:Nat} {f:FuncId} {args args':List AV} {d:Option Tmp} {y:Bx} {r:AV} (hs:Qdl args args') (hsp:Qs1 P f args' y r) :
  ∀ (ops:Array Oper) (i:Nat) (s:LS) (K:FS→Prop),lcR P q ops s i=some ((f,args,d),y)→(∀ a:Unit,K ((s.put d r).setB q gone).fs)→Qvv P ops i s.fs K:=by
 intro ops i s K h kk;unfold lcR at h
 split at h
 ·rename_i f' args0 d' y' hc hr;cases he:entB P f' with
  | false=>rw [he] at h;cases h
  | true=>
   rw [he] at h;simp only [cond_true,W0k,W0s] at h;obtain ⟨⟨rfl,rfl,rfl⟩,rfl⟩:=h;obtain ⟨o,hi,hg,hrd,hd,hrun⟩:=Qlc (P:=P) hc;refine ⟨o,hi,hg,.inl ⟨q,fun x z=>x=r∧z=gone,?_,?_⟩⟩
   ·intro D w a Q K' hD hops hbx hnd hcont;obtain ⟨hl,hsa⟩:=hs.ok;obtain ⟨vs,h1,h2⟩:=hrun D w a.eval hops;have hra:Qdj D w args' vs:=by
     refine ⟨by rw [← hl];exact h2.1,fun j x v hx hv=>?_⟩;have hj:j<args0.length:=by have:=(W0i.1 hx).1;omega
     exact hsa j args0[j] x (W0d hj) hx D w v (h2.2 j args0[j] v (W0d hj) hv)
    unfold Oper.wp;rw [h1,Qjy he,Oper.upon_enter];refine (hsp D w _ hD hra (hbx q _ hr) (fun g hg=>hnd _ g hr hg)).mono ?_;rintro e' w' ⟨v,D',rfl,g1,g2,g3,g4,g5⟩;exact hcont v w' r _ gone D' ⟨rfl,rfl⟩ hr g1 g2 g3 g4 (fun g h=>by cases h) (Zog D' w') g5
   ·rintro x z ⟨rfl,rfl⟩;rw [hd,LS.fs_put,LS.fs_setB];exact kk ()
 ·cases h
theorem Qku {P:Program} {f:FuncId} {F:Func} {code:Code} {args:List AV} {q:Nat} {y:Bx} {r:AV} (hf:P.funcs[f]?=some F) (ct:Ct P) (n:Nat:=400) (hb:F.body=some code:=by rfl)
  (hk:(decide (args.length≤F.ntmps)&&(P.follows .mixedOrders&&(F.results.toList.all fun rv=>decide ((match rv with | .tmp t=>t | .cell t _=>t)<F.ntmps))))=true:=by kernel_rfl)
  (h:vcC ct=vc P F (.val r) n ct (.code code) [] ⟨Qdu args 0,[(q,y)]⟩:=by kernel_rfl):Qs1 P f args y r:=Zjy n ct hf hb hk h
theorem Zf7 {P:Program} {kt:TypeId} (h:Qcn P kt (.i 0)=true) (es:List (MK × AV)) (he:∀ p∈es,∃ z,p.1=.i z):(es.all fun p=>Qcn P kt p.1)=true:=by
 rw [W10];intro p hp;obtain ⟨z,hz⟩:=he p hp;rw [hz];exact h
def lkS (ok:Bool) (fd:Option (Nat × AV)) (zv:Value) (y:AV):Prop:=Sub (Qug ok (fdV fd zv) fd.isSome) y
theorem Zi4 {P:Program} {ops:Array Oper} {K:FS→Prop} {rest:List Nat} {i:Nat} {s:LS} {kt e:TypeId} {k:MK} {es:List (MK × AV)} {ok:Bool} {d:Option Tmp} (fd:Option (Nat × AV)) (zv:Value) (h:lkO P ops s i=some (kt,e,es,k,ok,d))
  (hk:(es.all fun p=>Qcn P kt p.1)=true) (hk2:Qcn P kt k=true) (hz:(P.info? e).bind (·.zero)=some zv) (hn:Qd7 k es 0=fd)
  {y:AV} (hy:lkS ok fd zv y) (kk:SeqR P ops K rest (s.put d y).fs):SeqR P ops K (i :: rest) s.fs:=by
 unfold lkO at h
 split at h
 ·rename_i o ho;obtain ⟨hi,hg⟩:=Qb2 ho
  split at h
  ·rename_i t m ko ok' hop
   split at h
   ·rename_i kt' e' es1 kk' hu hm hko;simp only [W0k,W0s] at h;obtain ⟨rfl,rfl,rfl,rfl,rfl,rfl⟩:=h;refine ⟨o,hi,.inr ⟨hg,.inr (.inl ⟨by rw [hop];rfl,fun z nb=>z=y∧nb=none,?_,?_⟩)⟩⟩
    ·intro D w a Q K' hD hops hbx hcont;have hvm:=Qa8 hops m (by simp [hop,Op.operands]);have hvk:=Qa8 hops ko (by simp [hop,Op.operands]);rw [hm] at hvm;rw [Qoi hko] at hvk;generalize hmv:a.eval m=vm at hvm;generalize hkv:a.eval ko=vk at hvk;cases hvk;cases hvm with
     | mp es r es' clock g1 g2 g3 g4' g5 g6=>
      obtain ⟨g4,gB⟩:=g4';obtain ⟨dd,hd'⟩:=Qoh hk2;have e1:(getObj r).run P w=.ok (.map es' clock) w:=by simp [getObj,Sem.run,g3]
      obtain ⟨f1,f2⟩:=Qfe hd' hk2 es1 es'.toList 0 (by simpa using g4) (fun p hp=>W10.1 hk p hp) (fun j p e hp he=>g5 j p e hp (by simpa using he));have main:∃ v,(execOp a.eval o).run P w=.ok (.value v) w∧Ra D w (Qug ok' (fdV fd zv) fd.isSome) v:=by
       cases fd with
       | none=>
        have hfind:=f1 hn;obtain ⟨inf,hi1,hi2⟩:∃ inf,P.info? e'=some inf∧inf.zero=some zv:=by
         cases hinf:P.info? e' with
         | none=>rw [hinf] at hz;cases hz
         | some inf=>rw [hinf] at hz;exact ⟨inf,rfl,hz⟩
        cases ok' with
        | true=>
         refine ⟨.tuple #[zv,.bool false],by simp [execOp,hop,hmv,hkv,Instr.lookup,run_underlying hu,e1,Qb0 _ hk2,Instr.findKey,run_underlying hd',hfind,zeroValue,typeInfo,hi1,hi2],.tup _ _ rfl (fun j x v hx hv=>?_)⟩
         match j,hx,hv with
         | 0,hx,hv=>simp at hx hv;subst hx hv;exact .val _
         | 1,hx,hv=>simp at hx hv;subst hx hv;exact .val _
         | j+2,hx,_=>simp at hx
        | false=>
         exact ⟨zv,by simp [execOp,hop,hmv,hkv,Instr.lookup,run_underlying hu,e1,Qb0 _ hk2,Instr.findKey,run_underlying hd',hfind,zeroValue,typeInfo,hi1,hi2],.val _⟩
       | some p=>
        obtain ⟨j,x⟩:=p;obtain ⟨en,q,q1,q2,q3,hfind⟩:=f2 j x hn;have hre:=g6 q _ en q2 (by simpa using q1);cases ok' with
        | true=>
         refine ⟨.tuple #[en.val,.bool true],by simp [execOp,hop,hmv,hkv,Instr.lookup,run_underlying hu,e1,Qb0 _ hk2,Instr.findKey,run_underlying hd',hfind],.tup _ _ rfl (fun j x v hx hv=>?_)⟩
         match j,hx,hv with
         | 0,hx,hv=>simp at hx hv;subst hx hv;exact hre
         | 1,hx,hv=>simp at hx hv;subst hx hv;exact .val _
         | j+2,hx,_=>simp at hx
        | false=>
         exact ⟨en.val,by simp [execOp,hop,hmv,hkv,Instr.lookup,run_underlying hu,e1,Qb0 _ hk2,Instr.findKey,run_underlying hd',hfind],hre⟩
      obtain ⟨v,m1,m2⟩:=main;unfold Oper.wp;rw [m1,Oper.upon_value];exact hcont _ w _ none D ⟨rfl,rfl⟩ (Below.refl _ _) (fun _ h=>h) (fun b h=>⟨hD b h,.inl h⟩) (hy D w v m2) (fun id y h=>by cases h)
    ·rintro z nb ⟨rfl,rfl⟩;refine ⟨fun id y h=>(by cases h),?_⟩;simp only [FS.addB];rw [LS.fs_put];exact kk
   ·cases h
  ·cases h
 ·cases h
def lkB (P:Program) (ops:Array Oper) (s:LS) (i:Nat):Option (TypeId × TypeId × Nat × Nat × MK × Bool × Option Tmp):=
 match opAt ops s i with
 | some o=>
  match o.op with
  | .lookup t m k ok=>
   match P.underlying t,s.ev m,keyA (s.ev k) with
   | some (.map kt e),.mref id r,some kk=>some (kt,e,id,r,kk,ok,o.dst)
   | _,_,_=>none
  | _=>none
 | none=>none
theorem Zi5 {P:Program} {ops:Array Oper} {K:FS→Prop} {rest:List Nat} {i:Nat} {s:LS} {kt e:TypeId} {k:MK} {es:List (MK × AV)} {ok:Bool} {d:Option Tmp} (fd:Option (Nat × AV)) (zv:Value) {id r r':Nat} (h:lkB P ops s i=some (kt,e,id,r,k,ok,d)) (hbx0:bget s.bx id=some (.mp r' es)) (hr0:r'=r)
  (hk:(es.all fun p=>Qcn P kt p.1)=true) (hk2:Qcn P kt k=true) (hz:(P.info? e).bind (·.zero)=some zv) (hn:Qd7 k es 0=fd)
  {y:AV} (hy:lkS ok fd zv y) (kk:SeqR P ops K rest (s.put d y).fs):SeqR P ops K (i :: rest) s.fs:=by
 unfold lkB at h
 split at h
 ·rename_i o ho;obtain ⟨hi,hg⟩:=Qb2 ho
  split at h
  ·rename_i t m ko ok' hop
   split at h
   ·rename_i kt' e' id1 r1 kk' hu hm hko;simp only [W0k,W0s] at h;obtain ⟨rfl,rfl,rfl,rfl,rfl,rfl,rfl⟩:=h;subst hr0;refine ⟨o,hi,.inr ⟨hg,.inr (.inl ⟨by rw [hop];rfl,fun z nb=>z=y∧nb=none,?_,?_⟩)⟩⟩
    ·intro D w a Q K' hD hops hbx hcont;have hvm:=Qa8 hops m (by simp [hop,Op.operands]);have hvk:=Qa8 hops ko (by simp [hop,Op.operands]);rw [hm] at hvm;rw [Qoi hko] at hvk;generalize hmv:a.eval m=vm at hvm;generalize hkv:a.eval ko=vk at hvk;cases hvk;cases hvm
     ·obtain ⟨es',clock,g3,⟨g4,gB⟩,g5,g6⟩:=hbx id1 _ hbx0;obtain ⟨dd,hd'⟩:=Qoh hk2;have e1:(getObj r').run P w=.ok (.map es' clock) w:=by simp [getObj,Sem.run,g3]
      obtain ⟨f1,f2⟩:=Qfe hd' hk2 es es'.toList 0 (by simpa using g4) (fun p hp=>W10.1 hk p hp) (fun j p e hp he=>g5 j p e hp (by simpa using he));have main:∃ v,(execOp a.eval o).run P w=.ok (.value v) w∧Ra D w (Qug ok' (fdV fd zv) fd.isSome) v:=by
       cases fd with
       | none=>
        have hfind:=f1 hn;obtain ⟨inf,hi1,hi2⟩:∃ inf,P.info? e'=some inf∧inf.zero=some zv:=by
         cases hinf:P.info? e' with
         | none=>rw [hinf] at hz;cases hz
         | some inf=>rw [hinf] at hz;exact ⟨inf,rfl,hz⟩
        cases ok' with
        | true=>
         refine ⟨.tuple #[zv,.bool false],by simp [execOp,hop,hmv,hkv,Instr.lookup,run_underlying hu,e1,Qb0 _ hk2,Instr.findKey,run_underlying hd',hfind,zeroValue,typeInfo,hi1,hi2],.tup _ _ rfl (fun j x v hx hv=>?_)⟩
         match j,hx,hv with
         | 0,hx,hv=>simp at hx hv;subst hx hv;exact .val _
         | 1,hx,hv=>simp at hx hv;subst hx hv;exact .val _
         | j+2,hx,_=>simp at hx
        | false=>
         exact ⟨zv,by simp [execOp,hop,hmv,hkv,Instr.lookup,run_underlying hu,e1,Qb0 _ hk2,Instr.findKey,run_underlying hd',hfind,zeroValue,typeInfo,hi1,hi2],.val _⟩
       | some p=>
        obtain ⟨j,x⟩:=p;obtain ⟨en,q,q1,q2,q3,hfind⟩:=f2 j x hn;have hre:=g6 q _ en q2 (by simpa using q1);cases ok' with
        | true=>
         refine ⟨.tuple #[en.val,.bool true],by simp [execOp,hop,hmv,hkv,Instr.lookup,run_underlying hu,e1,Qb0 _ hk2,Instr.findKey,run_underlying hd',hfind],.tup _ _ rfl (fun j x v hx hv=>?_)⟩
         match j,hx,hv with
         | 0,hx,hv=>simp at hx hv;subst hx hv;exact hre
         | 1,hx,hv=>simp at hx hv;subst hx hv;exact .val _
         | j+2,hx,_=>simp at hx
        | false=>
         exact ⟨en.val,by simp [execOp,hop,hmv,hkv,Instr.lookup,run_underlying hu,e1,Qb0 _ hk2,Instr.findKey,run_underlying hd',hfind],hre⟩
      obtain ⟨v,m1,m2⟩:=main;unfold Oper.wp;rw [m1,Oper.upon_value];exact hcont _ w _ none D ⟨rfl,rfl⟩ (Below.refl _ _) (fun _ h=>h) (fun b h=>⟨hD b h,.inl h⟩) (hy D w v m2) (fun id y h=>by cases h)
    ·rintro z nb ⟨rfl,rfl⟩;refine ⟨fun id y h=>(by cases h),?_⟩;simp only [FS.addB];rw [LS.fs_put];exact kk
   ·cases h
  ·cases h
 ·cases h
def lkRO (P:Program) (ops:Array Oper) (s:LS) (i:Nat):Option ((TypeId × Option Value) × List (MK × AV) × MK × Bool × Option Tmp):=
 match lkO P ops s i with
 | some (kt,e,es,k,ok,d)=>some ((kt,(P.info? e).bind (·.zero)),es,k,ok,d)
 | none=>none
def lkRB (P:Program) (ops:Array Oper) (s:LS) (i:Nat):Option ((TypeId × Option Value) × (Nat × Nat × Nat × List (MK × AV)) × MK × Bool × Option Tmp):=
 match lkB P ops s i with
 | some (kt,e,id,r,k,ok,d)=>
  (match bget s.bx id with
  | some (.mp r' es)=>some ((kt,(P.info? e).bind (·.zero)),(id,r,r',es),k,ok,d)
  | _=>none)
 | none=>none
theorem Zbb {P:Program} {kt:TypeId} {zv:Value} {es:List (MK × AV)} {k:MK} {ok:Bool} {d:Option Tmp} (fd:Option (Nat × AV)) {y:AV}
  (hk:(es.all fun p=>Qcn P kt p.1)=true) (hk2:Qcn P kt k=true) (hn:Qd7 k es 0=fd) (hy:lkS ok fd zv y) :
  ∀ (ops:Array Oper) (i:Nat) (s:LS) (K:FS→Prop) (rest:List Nat),lkRO P ops s i=some ((kt,some zv),es,k,ok,d)→(∀ a:Unit,SeqR P ops K rest (s.put d y).fs)→SeqR P ops K (i :: rest) s.fs:=by
 intro ops i s K rest h kk;unfold lkRO at h
 split at h
 ·rename_i kt' e es' k' ok' d' ho;simp only [W0k,W0s] at h;obtain ⟨⟨rfl,hz⟩,rfl,rfl,rfl,rfl⟩:=h;exact Zi4 fd zv ho hk hk2 hz hn hy (kk ())
 ·cases h
theorem Zbc {P:Program} {kt:TypeId} {zv:Value} {id r:Nat} {es:List (MK × AV)} {k:MK} {ok:Bool} {d:Option Tmp} (fd:Option (Nat × AV)) {y:AV}
  (hk:(es.all fun p=>Qcn P kt p.1)=true) (hk2:Qcn P kt k=true) (hn:Qd7 k es 0=fd) (hy:lkS ok fd zv y) :
  ∀ (ops:Array Oper) (i:Nat) (s:LS) (K:FS→Prop) (rest:List Nat),lkRB P ops s i=some ((kt,some zv),(id,r,r,es),k,ok,d)→(∀ a:Unit,SeqR P ops K rest (s.put d y).fs)→SeqR P ops K (i :: rest) s.fs:=by
 intro ops i s K rest h kk;unfold lkRB at h
 split at h
 ·rename_i kt' e id' r' k' ok' d' ho
  split at h
  ·rename_i r2 es' hb;simp only [W0k,W0s] at h;obtain ⟨⟨rfl,hz⟩,⟨rfl,rfl,rfl,rfl⟩,rfl,rfl,rfl⟩:=h;exact Zi5 fd zv ho hb rfl hk hk2 hz hn hy (kk ())
  ·cases h
 ·cases h
def insR (P:Program) (ops:Array Oper) (s:LS) (i:Nat):Option (TypeId × (Nat × Nat × Nat × List (MK × AV)) × MK × AV):=
 match insO P ops s i with
 | some (kt,id,r,k,x,none)=>
  (match bget s.bx id with
  | some (.mp r' es)=>some (kt,(id,r,r',es),k,x)
  | _=>none)
 | _=>none
theorem Zd4 {P:Program} {kt:TypeId} {id r:Nat} {es es2:List (MK × AV)} {k:MK} {x:AV}
  (hk:(es.all fun p=>Qcn P kt p.1)=true) (hk2:Qcn P kt k=true) (hn:Qd7 k es 0=none) (he:es++[(k,x)]=es2) :
  ∀ (ops:Array Oper) (i:Nat) (s:LS) (K:FS→Prop) (rest:List Nat),insR P ops s i=some (kt,(id,r,r,es),k,x)→(∀ a:Unit,SeqR P ops K rest (s.setB id (.mp r es2)).fs)→SeqR P ops K (i :: rest) s.fs:=by
 subst he;intro ops i s K rest h kk;unfold insR at h
 split at h
 ·rename_i kt' id' r' k' x' ho
  split at h
  ·rename_i r2 es' hb;simp only [W0k,W0s] at h;obtain ⟨rfl,⟨rfl,rfl,rfl,rfl⟩,rfl,rfl⟩:=h;exact Zlx ho hb rfl hk hk2 hn rfl (kk ())
  ·cases h
 ·cases h
theorem Qx8 {es:Array MapEntry} {clock:Nat} (h:Born es clock) (i:Nat) (f:MapEntry→MapEntry) (hf:∀ e,(f e).born=e.born):Born (es.modify i f) clock:=by
 have hm:(es.modify i f).toList.map (·.born)=es.toList.map (·.born):=by
  apply List.ext_getElem?;intro j;simp only [W0v,W18,Array.getElem?_modify];by_cases hij:i=j
  ·subst hij;cases he:es[i]? with
   | none=>simp
   | some e=>simp [hf e]
  ·simp [hij]
 refine ⟨fun x hx=>?_,by rw [hm];exact h.2⟩;have:x.born∈(es.modify i f).toList.map (·.born):=List.mem_map_of_mem hx;rw [hm] at this;obtain ⟨y,hy,he⟩:=W1j.1 this;rw [← he];exact h.1 y hy
theorem seqUpd {P:Program} {ops:Array Oper} {K:FS→Prop} {rest:List Nat} {i:Nat} {s s':LS} {kt:TypeId} {id r r':Nat} {k:MK} {x:AV} {es:List (MK × AV)} (h:insO P ops s i=some (kt,id,r,k,x,none))
  (hb:bget s.bx id=some (.mp r' es)) (hr:r'=r) (hk:(es.all fun p=>Qcn P kt p.1)=true) (hk2:Qcn P kt k=true) {j0:Nat} {x0:AV} (hn:Qd7 k es 0=some (j0,x0))
  (hf:s.setB id (.mp r' (es.set j0 (k,x)))=s') (kk:SeqR P ops K rest s'.fs):SeqR P ops K (i :: rest) s.fs:=by
 subst hr hf;have core:∀ (o:Oper) (t:TypeId) (m ko xo:Operand),opAt ops s i=some o→(o.op=.insert t m ko xo∨o.op=.mapUpdate t m ko xo)→(∃ e,P.underlying t=some (.map kt e))→s.ev m=.mref id r'→keyA (s.ev ko)=some k→s.ev xo=x→o.dst=none→SeqR P ops K (i :: rest) s.fs:=by
  intro o t m ko xo ho hop hu hm hko hx hd;obtain ⟨hi,hg⟩:=Qb2 ho;have hmo:m∈o.op.operands∧ko∈o.op.operands∧xo∈o.op.operands:=by
   rcases hop with h | h<;>simp [h,Op.operands]
  refine ⟨o,hi,.inr ⟨hg,.inr (.inr ⟨by rcases hop with h | h<;>(rw [h];rfl),by rcases hop with h | h<;>(rw [h];rfl),id,fun z y'=>z=.any∧y'=.mp r' (es.set j0 (k,x)),?_,?_⟩)⟩⟩
  ·refine Qvy.up ?_;intro D w a Q K' hD hops hbx hnd hcont;have hvm:=Qa8 hops m hmo.1;have hvk:=Qa8 hops ko hmo.2.1;have hvx:=Qa8 hops xo hmo.2.2;rw [hm] at hvm;rw [Qoi hko] at hvk;rw [hx] at hvx;generalize hmv:a.eval m=vm at hvm;generalize hkv:a.eval ko=vk at hvk;generalize hxv:a.eval xo=vx at hvx;cases hvm;cases hvk;obtain ⟨es',clock,g1,⟨g2,gB⟩,g3,g4⟩:=hbx id _ hb;obtain ⟨d,hd'⟩:=Qoh hk2;obtain ⟨e,hu⟩:=hu;obtain ⟨en,q0,q1,q2,q3,hfind⟩:=(Qfe hd' hk2 es es'.toList 0 (by simpa using g2) (fun p hp=>W10.1 hk p hp) (fun j p e hp he=>g3 j p e hp (by simpa using he))).2 j0 x0 hn;have hq:q0=j0:=by omega
   subst hq;have hen:es'[q0]?=some en:=by simpa using q1
   have hkey:en.key=k.val:=g3 q0 _ en q2 hen;have hstay:(Instr.keyThatStays k.val k.val).run P w=.ok k.val w:=by
    cases k<;>simp [Instr.keyThatStays,MK.val,Instr.sameBits,Qo6]
   have hrun:(Instr.mapUpdate t (.map (some r')) k.val vx).run P w=.ok () { w with heap:=w.heap.setIfInBounds r' (.map (es'.modify q0 fun e=>{ e with key:=k.val,val:=vx }) clock) }:=by
    have e1:(getObj r').run P w=.ok (.map es' clock) w:=by simp [getObj,Sem.run,g1]
    have e2:∀ o',(setObj r' o').run P w=.ok () { w with heap:=w.heap.setIfInBounds r' o' }:=fun o'=>by simp [setObj,Sem.run,g1]
    simp [Instr.mapUpdate,run_underlying hu,e1,Qb0 false hk2,Instr.findKey,run_underlying hd',hfind,e2,hen,hkey,hstay]
   have hexec:(execOp a.eval o).run P w=.ok .skip { w with heap:=w.heap.setIfInBounds r' (.map (es'.modify q0 fun e=>{ e with key:=k.val,val:=vx }) clock) }:=by
    rcases hop with h | h<;>simp [execOp,h,hmv,hkv,hxv,hrun]
   unfold Oper.wp;rw [hexec,Oper.upon_skip];have hlt:r'<w.heap.size:=(W07.1 g1).1;have hother:∀ q,q ≠ r'→(w.heap.setIfInBounds r' (.map (es'.modify q0 fun e=>{ e with key:=k.val,val:=vx }) clock))[q]?=w.heap[q]?:=fun q hq=>Array.getElem?_setIfInBounds_ne (Ne.symm hq);have hfr:∀ b u,Ra D w b u→Ra D { w with heap:=w.heap.setIfInBounds r' (.map (es'.modify q0 fun e=>{ e with key:=k.val,val:=vx }) clock) } b u:=fun b u hu=>
    hu.frame (fun _ h=>h) (by simp) (fun b hdb hl=>hother b (fun e=>hnd _ r' hb rfl (e ▸ hdb)))
   refine hcont undef _ .any _ _ ⟨rfl,rfl⟩ hb ⟨rfl,rfl,rfl,by simp,fun q hq=>by omega⟩ (fun q hq _=>hother q (fun e=>hq (by rw [e];rfl))) (fun g hg=>⟨.inl hg,hnd _ g hb hg⟩)
    ⟨(es'.modify q0 fun e=>{ e with key:=k.val,val:=vx }),clock,by simp [hlt],⟨by simp [g2],Qx8 gB _ _ fun e=>rfl⟩,fun j p e hp he=>?_,fun j p e hp he=>?_⟩ (.any _)
   ·rw [Array.getElem?_modify] at he;rw [List.getElem?_set] at hp;by_cases hj:q0=j
    ·subst hj;rw [W1y rfl,hen] at he;simp only [Option.map_some,W0k] at he;have hl:=Qap q2;rw [W1y rfl,W1y hl] at hp;obtain rfl:=W0c hp;subst he;rfl
    ·rw [W1x hj] at he hp;exact g3 j p e hp he
   ·rw [Array.getElem?_modify] at he;rw [List.getElem?_set] at hp;by_cases hj:q0=j
    ·subst hj;rw [W1y rfl,hen] at he;simp only [Option.map_some,W0k] at he;have hl:=Qap q2;rw [W1y rfl,W1y hl] at hp;obtain rfl:=W0c hp;subst he;exact hfr _ _ hvx
    ·rw [W1x hj] at he hp;exact hfr _ _ (g4 j p e hp he)
  ·rintro z y' ⟨rfl,rfl⟩;rw [hd];have:=kk;rw [← LS.fs_setB] at this;exact this
 unfold insO at h
 split at h
 ·rename_i o ho
  split at h
  ·rename_i t m ko xo hop
   split at h
   ·rename_i kt' e id' r kk' hu hm hko;simp only [W0k,W0s] at h;obtain ⟨rfl,rfl,rfl,rfl,hx,hd⟩:=h;exact core o t m ko xo ho (.inl hop) ⟨e,hu⟩ hm hko hx hd
   ·cases h
  ·rename_i t m ko xo hop
   split at h
   ·rename_i kt' e id' r kk' hu hm hko;simp only [W0k,W0s] at h;obtain ⟨rfl,rfl,rfl,rfl,hx,hd⟩:=h;exact core o t m ko xo ho (.inr hop) ⟨e,hu⟩ hm hko hx hd
   ·cases h
  ·cases h
 ·cases h
theorem Zd1 {P:Program} {kt:TypeId} {id r:Nat} {es es2:List (MK × AV)} {k:MK} {x:AV} {j0:Nat} {x0:AV}
  (hk:(es.all fun p=>Qcn P kt p.1)=true) (hk2:Qcn P kt k=true) (hn:Qd7 k es 0=some (j0,x0)) (he:es.set j0 (k,x)=es2) :
  ∀ (ops:Array Oper) (i:Nat) (s:LS) (K:FS→Prop) (rest:List Nat),insR P ops s i=some (kt,(id,r,r,es),k,x)→(∀ a:Unit,SeqR P ops K rest (s.setB id (.mp r es2)).fs)→SeqR P ops K (i :: rest) s.fs:=by
 subst he;intro ops i s K rest h kk;unfold insR at h
 split at h
 ·rename_i kt' id' r' k' x' ho
  split at h
  ·rename_i r2 es' hb;simp only [W0k,W0s] at h;obtain ⟨rfl,⟨rfl,rfl,rfl,rfl⟩,rfl,rfl⟩:=h;exact seqUpd ho hb rfl hk hk2 hn rfl (kk ())
  ·cases h
 ·cases h
def mpR (id:Nat) (s:LS):Option (Nat × List (MK × AV)):=
 match bget s.bx id with
 | some (.mp r es)=>some (r,es)
 | _=>none
theorem Qwf {P:Program} {id r:Nat} {es es':List (MK × AV)} (he:es=es'):∀ (c:Cx) (Q:Exit→FS→Prop) (code:Code) (s:LS),mpR id s=some (r,es)→(∀ a:Unit,AWp c P code Q (s.setB id (.mp r es')).fs)→AWp c P code Q s.fs:=by
 subst he;intro c Q code s h kk;unfold mpR at h
 split at h
 ·rename_i r' es' hb;simp only [W0k,W0s] at h;obtain ⟨rfl,rfl⟩:=h;have:=kk ();rw [← LS.fs_setB] at this;have e:s.fs.setB id (some (.mp r' es'))=s.fs:=by
   show FS.mk _ _=FS.mk _ _;congr 1;funext i;show (if i=id then some (Bx.mp r' es') else s.fs.bx i)=s.fs.bx i
   split
   ·rename_i hi;subst hi;exact hb.symm
   ·rfl
  rw [e] at this;exact this
 ·cases h
end Go.Proofs.YtahlldgocpabjaaGreat
