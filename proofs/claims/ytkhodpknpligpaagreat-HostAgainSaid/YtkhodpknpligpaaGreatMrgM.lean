import Derived.Test.YtkhodpknpligpaaGreatAl
import Derived.Test.YtkhodpknpligpaaGreatMrgL
import Derived.Test.YtkhodpknpligpaaGreatMrgI
import Derived.Laws.IdiomRangeMap
set_option maxRecDepth 100000
set_option maxHeartbeats 8000000
set_option linter.unusedVariables false
set_option linter.unusedSimpArgs false
namespace Go.Proofs.YtkhodpknpligpaaGreat
open Go Go.RowKit Copyhold Go.Proofs.Tryz
theorem Qy1 (f:Fsy) (okf:OkF f):Qag prog 71 [.agg (fsyA f)] (aB (dP (Qat f))):=by
 have hfl:=okf.2.1;exact Qac func71 (let R:AV:=aB (dP (Qat f));
 .new fun b1=>.r 1<|.u 3 [b1]<|
 .lm 7 f.l nodA<|.r 2<|.br 9 (decide ((f.l.length:Int)>256)) (fun q1=>have p1:=decT q1;.r 4<|.r 1<|.f R [] (aB false) (by
  refine sF (fun h=>?_);obtain ⟨g1,g2,g3⟩:=h;omega))
 <| fun q1=>have p1:=decF q1;.u 4 [b1]<|
 .br 13 (decide (f.next<1)) (fun q2=>have p2:=decT q2;.r 1<|.f R [] (aB false) (by
  refine sF (fun h=>?_);obtain ⟨g1,g2,g3⟩:=h;omega))
 <| fun q2=>have p2:=decF q2;.r 1<|let L1:Lp (Nat):=⟨fun a1=>⟨[(1,.ptr 1 b1 0),(3,aI (a1:Int))],[(1,.box b1 38 (fsyA f))]⟩,fun a1=>f.l.length-a1,fun a1=>a1≤f.l.length∧Qaz (Zln f) f.l a1⟩
 .lp L1 0 ⟨W0j _,Qaz.zero _ _⟩ [(3,aI 0)] [] ⟨sR,sO,trivial⟩ bb1 fun a1 ha1=>
 (fun (k:Nat) (hH1:k≤f.l.length∧Qaz (Zln f) f.l k)=>.u 4 [b1]<|
 .lm 17 f.l nodA<|.r 1<|.br 18 (decide ((k:Int)<(f.l.length:Int))) (fun q3=>have p3:=decT q3;.u 3 [b1]<|
 .idxM f.l nodA k (m:=(k:Int)) rfl (by omega) fun x1 hx1=>
 have okx1:=okf.2.2 x1 (W0h hx1);.r 1<|.call (Qko x1 okx1)<|
 .r 1<|.ord [0,1,2,3,4,5,6,7,8,9,10,11,12,13,14,15,16,17,18,19,20,21,22,23,24,25,26,27,28,29,30,31,32]<|.r 3<|.br 29 (!(dP (nodP x1))) (fun q4=>have q4:=notT q4;have p4:=booF q4;.r 30<|.r 1<|.f R [] (aB false) (by
  refine sF (fun h=>?_);obtain ⟨g1,g2,g3⟩:=h.2.2.at hx1
  first | omega | exact Qaa.1 (by assumption) g1 ))
 <| fun q4=>have q4:=notF q4;have p4:=booT q4;.u 3 [b1]<|
 .idx k (m:=(k:Int)) (xs:=f.l.map nodA) (e:=nodA x1) rfl (map_some hx1)<|
 .u 7 [b1]<|
 .br 40 (decide (x1.ino≥f.next)) (fun q5=>have p5:=decT q5;.r 19<|.r 1<|.f R [] (aB false) (by
  refine sF (fun h=>?_);obtain ⟨g1,g2,g3⟩:=h.2.2.at hx1
  first | omega | exact Qaa.1 (by assumption) g1 ))
 <| fun q5=>have p5:=decF q5;.r 3<|.br 43 (decide ((k:Int)>0)) (fun q6=>have p6:=decT q6;.run 4 [b1=b1,rng .i64 ((k:Int)-1)] ⟨rfl,Qal,trivial⟩<|
 .idxM f.l nodA (k-1) (m:=(k:Int)-1) (by omega) (by omega) fun x2 hx2=>
 have okx2:=okf.2.2 x2 (W0h hx2);.u 5 [b1]<|
 .idx k (m:=(k:Int)) (xs:=f.l.map nodA) (e:=nodA x1) rfl (map_some hx1)<|
 .r 5<|.br 59 (decide (x2.ino≥x1.ino)) (fun q7=>have p7:=decT q7;.r 1<|.f R [] (aB false) (by
  refine sF (fun h=>?_);obtain ⟨g1,g2,g3⟩:=h.2.2.at hx1
  first | omega | exact Qaa.1 (by assumption) g1 | (have:=g3 _ (by omega) hx2;omega)))
 <| fun q7=>have p7:=decF q7;.run 3 [rng .i64 ((k:Int)+1)] ⟨Qal,trivial⟩<|
 .bk L1 k (k+1) ⟨by omega,hH1.2.step hx1 ⟨Qaf.1 (by assumption),by omega,by intro d h0 hd;first | omega | (rw [hd] at hx2;obtain rfl:=W0c hx2;omega)⟩⟩ (show f.l.length-(k+1)<f.l.length-k from (by omega)) [(3,aI ((k:Int)+1))] [] ⟨sR,sO,trivial⟩ bb1)
 <| fun q6=>have p6:=decF q6;.r 16<|.run 3 [rng .i64 ((k:Int)+1)] ⟨Qal,trivial⟩<|
 .bk L1 k (k+1) ⟨by omega,hH1.2.step hx1 ⟨Qaf.1 (by assumption),by omega,by intro d h0 hd;omega⟩⟩ (show f.l.length-(k+1)<f.l.length-k from (by omega)) [(3,aI ((k:Int)+1))] [] ⟨sR,sO,trivial⟩ bb1)
 <| fun q3=>have p3:=decF q3;.r 1<|.f R [] (aB true) (by exact sT ⟨by omega,by omega,hH1.2.full (by omega)⟩)) a1 ha1)
theorem Qc2 (f:Fsy) (i:Int) (hl:f.l.length≤8796093022207):Qag prog 65 [.agg (fsyA f),aI i] (.tup [.agg (nodA (Qab f i)),aB (Qav f i)]):=by
 exact Qac func65 (
 .new fun b1=>.new fun b2=>.r 1<|.r 1<|let L1:Lp (Nat):=⟨fun a1=>⟨[(1,aI i),(2,.ptr 2 b1 0),(4,.ptr 4 b2 0),(6,aI (a1:Int))],[(2,.box b1 38 (fsyA f)),(4,.box b2 85 [aI 0,aI 0,aI 0,aS ([]),aN])]⟩,fun a1=>f.l.length-a1,fun a1=>a1≤f.l.length∧Qaz (fun _ n=>isNo i n=false) f.l a1⟩
 .lp L1 0 ⟨W0j _,Qaz.zero _ _⟩ [(6,aI 0)] [] ⟨sR,sR,sR,sO,trivial⟩ bb2 fun a1 ha1=>
 (fun (k:Nat) (hH1:k≤f.l.length∧Qaz (fun _ n=>isNo i n=false) f.l k)=>.u 4 [b1]<|
 .lm 10 f.l nodA<|.r 1<|.br 11 (decide ((k:Int)<(f.l.length:Int))) (fun q1=>have p1:=decT q1;.u 3 [b1]<|
 .idxM f.l nodA k (m:=(k:Int)) rfl (by omega) fun x1 hx1=>
 .r 4<|.br 21 (x1.ino==i) (fun q2=>have p2:=beqT q2;.u 3 [b1]<|
 .idx k (m:=(k:Int)) (xs:=f.l.map nodA) (e:=nodA x1) rfl (map_some hx1)<|
 .u 3 [b2]<|
 .f (.tup [.agg (nodA (Qab f i)),aB (Qav f i)]) [b2] (.tup [.agg (nodA x1),aB true]) (by
  obtain ⟨e1,e2⟩:=Quz hH1.2 hx1 (by assumption);rw [show Qab f i=x1 from by unfold Qab;rw [e2];rfl,show Qav f i=true from e1];exact sR))
 <| fun q2=>have p2:=beqF q2;.run 3 [rng .i64 ((k:Int)+1)] ⟨Qal,trivial⟩<|
 .bk L1 k (k+1) ⟨by omega,hH1.2.step hx1 (by assumption)⟩ (show f.l.length-(k+1)<f.l.length-k from (by omega)) [(6,aI ((k:Int)+1))] [] ⟨sR,sR,sR,sO,trivial⟩ bb2)
 <| fun q1=>have p1:=decF q1;.u 3 [b2]<|
 .f (.tup [.agg (nodA (Qab f i)),aB (Qav f i)]) [b2] (.tup [.agg [aI 0,aI 0,aI 0,aS ([]),aN],aB false]) (by
  obtain ⟨e1,e2⟩:=Zd7 (hH1.2.full (by omega));rw [show Qab f i=nod0 from by unfold Qab;rw [e2];rfl,show Qav f i=false from e1];exact W2q ⟨W2r ⟨sR,sR,sR,sR,Sub.nil _ _,trivial⟩,sR,trivial⟩)) a1 ha1)
theorem Zki {x y:Fsy} (h1:x.l=y.l) (h2:x.next=y.next):x=y:=by cases x;cases y;simp_all
theorem Qox (f g:Fsy) (okf:OkF f) (okg:OkF g):Qag prog 89 [.agg (fsyA f),.agg (fsyA g)] (aB (dP (f=g))):=by
 have hb1:=okf.2.1;have hb2:=okg.2.1;exact Qac func89 (let R:AV:=aB (dP (f=g));
 .new fun b1=>.new fun b2=>.r 1<|.u 6 [b1,b2]<|
 .br 12 (f.next != g.next) (fun q1=>have p1:=bneT q1;.r 8<|.r 1<|.f R [] (aB false) (by exact sF (fun h=>by subst h;omega)))
 <| fun q1=>have p1:=bneF q1;.u 3 [b1]<|
 .lm 15 f.l nodA<|.u 3 [b2]<|
 .lm 18 g.l nodA<|.r 2<|.br 20 ((f.l.length:Int) != (g.l.length:Int)) (fun q2=>have p2:=bneT q2;.r 1<|.f R [] (aB false) (by exact sF (fun h=>by subst h;omega)))
 <| fun q2=>have p2:=bneF q2;.r 1<|let L1:Lp (Nat):=⟨fun a1=>⟨[(2,.ptr 2 b1 0),(3,.ptr 3 b2 0),(5,aI (a1:Int))],[(2,.box b1 38 (fsyA f)),(3,.box b2 38 (fsyA g))]⟩,fun a1=>f.l.length-a1,fun a1=>a1≤f.l.length∧f.l.take a1=g.l.take a1⟩
 .lp L1 0 ⟨W0j _,rfl⟩ [(5,aI 0)] [] ⟨sR,sR,sO,trivial⟩ bb2 fun a1 ha1=>
 (fun (k:Nat) (hH1:k≤f.l.length∧f.l.take k=g.l.take k)=>.u 4 [b1]<|
 .lm 24 f.l nodA<|.r 1<|.br 25 (decide ((k:Int)<(f.l.length:Int))) (fun q3=>have p3:=decT q3;.ord [0,1,2,3,4,5,6,7,8,9,10,11]<|.u 3 [b1]<|
 .idxM f.l nodA k (m:=(k:Int)) rfl (by omega) fun x1 hx1=>
 have okx1:=okf.2.2 x1 (W0h hx1);.u 4 [b2]<|
 .idxM g.l nodA k (m:=(k:Int)) rfl (by omega) fun x2 hx2=>
 have okx2:=okg.2.2 x2 (W0h hx2);.r 1<|.call (Qfu x1 x2 okx1 okx2)<|
 .r 1<|.r 2<|.br 40 (!(dP (x1=x2))) (fun q4=>have q4:=notT q4;have p4:=booF q4;.r 1<|.f R [] (aB false) (by
  refine sF (fun h=>?_);rw [h,hx2] at hx1;obtain rfl:=W0c hx1;simp_all [Qaf,Qaa]))
 <| fun q4=>have q4:=notF q4;have p4:=booT q4;.run 3 [rng .i64 ((k:Int)+1)] ⟨Qal,trivial⟩<|
 .bk L1 k (k+1) ⟨by omega,by rw [Qaq hx1,Qaq hx2,hH1.2];first | (congr 2;done) | (congr 2;exact Qaf.1 (by assumption))⟩ (show f.l.length-(k+1)<f.l.length-k from (by omega)) [(5,aI ((k:Int)+1))] [] ⟨sR,sR,sO,trivial⟩ bb2)
 <| fun q3=>have p3:=decF q3;.r 1<|.f R [] (aB true) (by
  refine sT (Zki ?_ (by omega));have h:=hH1.2;rw [Qap (by omega),Qap (by omega)] at h;exact h)) a1 ha1)
def wN (n:Nod):Nat:=n.l.length
def fewF (f:Fsy):Prop:=f.l.length+(f.l.map wN).sum≤200∧∀ n∈f.l,n.text.length≤5000
def FewK (f:Fsy) (k n:Nat):Prop:=k≤f.l.length∧n=f.l.length+((f.l.take k).map wN).sum∧(∀ m∈f.l.take k,m.text.length≤5000)∧n≤100000000000000
theorem few0 {f:Fsy} (h:f.l.length≤8796093022207):FewK f 0 f.l.length:=⟨W0j _,by simp,fun m h=>by simp at h,by omega⟩
theorem Zio {f:Fsy} {k n:Nat} {x:Nod} (h:FewK f k n) (hx:f.l[k]?=some x) (hn:n≤200) (ht:x.text.length≤5000) (hb:x.l.length≤8796093022207):FewK f (k+1) (n+x.l.length):=by
 obtain ⟨h1,h2,h3,_⟩:=h;refine ⟨Qan hx,by rw [Qk8 wN hx,h2];simp only [wN];omega,fun m hm=>?_,by omega⟩;rcases Qgn hx hm with h | rfl
 ·exact h3 m h
 ·exact ht
theorem Zd9 {f:Fsy} {k n:Nat} (h:FewK f k n) (h3:¬ (k:Int)<f.l.length∨¬ (n:Int)≤200):decide ((n:Int)≤200)=true↔fewF f:=by
 obtain ⟨hk,h1,h2,_⟩:=h;rw [decide_eq_true_iff];refine ⟨fun hn=>?_,fun hf=>?_⟩
 ·have hk':f.l.length≤k:=by omega
  rw [Qap hk'] at h1 h2;exact ⟨by omega,h2⟩
 ·have:=hf.1;have:=Qdv wN f.l k;omega
theorem Qqm (f:Fsy) (okf:OkF f):Qag prog 11 [.agg (fsyA f)] (aB (dP (fewF f))):=by
 have hfl:=okf.2.1;exact Qac func11 (let R:AV:=aB (dP (fewF f));
 .new fun b1=>.r 1<|.u 3 [b1]<|
 .lm 7 f.l nodA<|.r 1<|.r 1<|let L1:Lp (Nat × Nat):=⟨fun a1=>⟨[(1,.ptr 1 b1 0),(4,aI (a1.1:Int)),(3,aI (a1.2:Int))],[(1,.box b1 38 (fsyA f))]⟩,fun a1=>f.l.length-a1.1,fun a1=>FewK f a1.1 a1.2⟩
 .lp L1 (0,f.l.length) (show FewK f 0 f.l.length from (few0 hfl)) [(4,aI 0)] [] ⟨sR,sO,sR,trivial⟩ bb1 fun a1 ha1=>
 (fun (k:Nat) (n:Nat) (hH1:FewK f k n)=>have hk1:=hH1.1;have hk2:=hH1.2.2.2;.u 4 [b1]<|
 .lm 11 f.l nodA<|.r 2<|.bd 13 ((k:Int)<(f.l.length:Int)) (fun p1=>.r 3<|.bd 16 ((n:Int)≤200) (fun p2=>.u 4 [b1]<|
 .idxM f.l nodA k (m:=(k:Int)) rfl (by omega) fun x1 hx1=>
 have okx1:=okf.2.2 x1 (W0h hx1);have blx1:=okx1.2.2.2.2.1;.r 3<|.lm 26 x1.l entA<|.run 2 [rng .i64 ((n:Int)+(x1.l.length:Int))] ⟨Qal,trivial⟩<|
 .u 3 [b1]<|
 .idx k (m:=(k:Int)) (xs:=f.l.map nodA) (e:=nodA x1) rfl (map_some hx1)<|
 .r 4<|.bd 35 (((x1.text).length:Int)>5000) (fun p3=>.r 1<|.f (aB (dP (fewF f))) [] (aB false) (by exact sF (fun h=>by have:=h.2 _ (W0h hx1);omega)))
 <| fun p3=>.run 3 [rng .i64 ((k:Int)+1)] ⟨Qal,trivial⟩<|
 .bk L1 (k,n) ((k+1),(n+x1.l.length)) (show FewK f (k+1) (n+x1.l.length) from (Zio hH1 hx1 (by omega) (by omega) (by omega))) (show f.l.length-(k+1)<f.l.length-k from (by omega)) [(4,aI ((k:Int)+1)),(3,aI ((n:Int)+(x1.l.length:Int)))] [] ⟨sR,sO,sO,trivial⟩ bb1)
 <| fun p2=>.r 3<|.f R [] (aB (decide ((n:Int)≤200))) (by exact sE (Zd9 hH1 (by omega))))
 <| fun p1=>.r 3<|.r 3<|.f R [] (aB (decide ((n:Int)≤200))) (by exact sE (Zd9 hH1 (by omega)))) a1.1 a1.2 ha1)
def hasB (U:List Int) (i:Int):Bool:=U.any fun z=>z==i
theorem has_no {U:List Int} {i:Int} (h:AllQ (fun _ z=>(z==i)=false) U):hasB U i=false:=by
 unfold hasB;rw [W2c];intro x hx;obtain ⟨j,hj⟩:=W0w hx;rw [h j x hj];simp
theorem Zml {U:List Int} {k:Nat} {x i:Int} (hx:U[k]?=some x) (h:(x==i)=true):hasB U i=true:=
 List.any_eq_true.2 ⟨x,W0h hx,h⟩
theorem Qln {U:List Int} {i:Int}:hasB U i=true↔i∈U:=by
 unfold hasB;rw [List.any_eq_true];exact ⟨fun ⟨x,hx,he⟩=>by rw [beq_iff_eq] at he;exact he ▸ hx,fun h=>⟨i,h,by simp⟩⟩
def addE (U:List Int) (l:List Ent):List Int:=l.foldl (fun U e=>if hasB U e.ino then U else U++[e.ino]) U
theorem Qhw {U:List Int} {l:List Ent} {k:Nat} {x:Ent} (h:l[k]?=some x) (q:hasB (addE U (l.take k)) x.ino=true):addE U (l.take (k+1))=addE U (l.take k):=by
 unfold addE at q ⊢;rw [Qaq h,W1o];simp [q]
theorem Qkh {U:List Int} {l:List Ent} {k:Nat} {x:Ent} (h:l[k]?=some x) (q:hasB (addE U (l.take k)) x.ino=false):addE U (l.take (k+1))=addE U (l.take k)++[x.ino]:=by
 unfold addE at q ⊢;rw [Qaq h,W1o];simp [q]
theorem Qx9 (l:List Ent):∀ U:List Int,U.length≤(addE U l).length:=by
 induction l with
 | nil=>exact fun U=>W0m _
 | cons e r ih=>
  intro U;show _≤(addE (if hasB U e.ino then U else U++[e.ino]) r).length;refine W09 ?_ (ih _)
  split
  ·exact W0m _
  ·simp
def Qh8 (f:Fsy):List Int:=f.l.flatMap fun n=>n.l.map Ent.ino
theorem Qxa (f:Fsy):(Qh8 f).length=(f.l.map wN).sum:=by
 unfold Qh8;rw [List.length_flatMap];congr 1;refine List.map_congr_left fun n _=>?_;rw [W0a];rfl
theorem Qp2:∀ {U A:List Int},U.Nodup→(∀ z∈U,z∈A)→U.length≤A.length
 | [],A,_,_=>W0j _
 | x :: r,A,hn,hs=>by
  obtain ⟨h1,h2⟩:=List.nodup_cons.1 hn;have hx:x∈A:=hs x (by simp);have:=Qp2 (U:=r) (A:=A.erase x) h2 fun z hz=>(List.mem_erase_of_ne (a:=z) (b:=x) (fun e=>h1 (by rw [← e];exact hz))).2 (hs z (by simp [hz]));rw [List.length_erase_of_mem hx] at this;have:=List.length_pos_of_mem hx;simp only [W0b];omega
def Dst (f:Fsy) (U:List Int):Prop:=U.Nodup∧∀ z∈U,z∈Qh8 f
theorem Dst.le {f:Fsy} {U:List Int} (h:Dst f U) (hf:fewF f):U.length≤200:=by
 have:=Qp2 h.1 h.2;rw [Qxa] at this;have:=hf.1;omega
theorem Dst.nil (f:Fsy):Dst f []:=⟨List.nodup_nil,fun z h=>by cases h⟩
theorem Qhx {f:Fsy}:∀ {l:List Ent} {U:List Int},Dst f U→(∀ e∈l,e.ino∈Qh8 f)→Dst f (addE U l)
 | [],U,h,_=>h
 | e :: r,U,h,hl=>by
  show Dst f (addE (if hasB U e.ino then U else U++[e.ino]) r);refine Qhx ?_ fun e' he=>hl e' (by simp [he]);cases hq:hasB U e.ino with
  | true=>exact h
  | false=>
   have hne:e.ino ∉ U:=fun hm=>by rw [Qln.2 hm] at hq;cases hq
   refine ⟨?_,fun z hz=>?_⟩
   ·show (U++[e.ino]).Nodup;rw [List.nodup_append];exact ⟨h.1,by simp,fun a ha b hb=>by obtain rfl:=W0z.1 hb;exact fun e=>hne (e ▸ ha)⟩
   ·rcases W04.1 hz with hz | hz
    ·exact h.2 z hz
    ·obtain rfl:=W0z.1 hz;exact hl e (by simp)
theorem Qhq {f:Fsy} {i:Int} {e:Ent} (h:e∈(Qab f i).l):e.ino∈Qh8 f:=by
 unfold Qab at h;cases hf:f.l.find? (isNo i) with
 | none=>rw [hf] at h;cases h
 | some n=>
  rw [hf] at h;exact List.mem_flatMap.2 ⟨n,W1n hf,List.mem_map_of_mem h⟩
theorem Qdf {f:Fsy} {U:List Int} (h:Dst f U) (i:Int) (k:Nat):Dst f (addE U ((Qab f i).l.take k)):=
 Qhx h fun e he=>Qhq (W13 he)
def goU (f:Fsy):Nat→List Int→Nat→List Int
 | 0,U,_=>U
 | n+1,U,p=>
  match U[p]? with
  | some i=>goU f n (addE U (Qab f i).l) (p+1)
  | none=>U
def Qeu (f:Fsy) (i:Int):List Int:=goU f 1300 (addE [] (Qab f i).l) 0
def UH (f:Fsy) (i:Int) (U:List Int) (p:Nat):Prop:=Dst f U∧p≤U.length∧goU f (1300-p) U p=Qeu f i
theorem UH.zero (f:Fsy) (i:Int) {j:Nat} (h:(Qab f i).l.length≤j):UH f i (addE [] ((Qab f i).l.take j)) 0:=by
 refine ⟨Qdf (Dst.nil f) i j,W0j _,?_⟩;rw [Qap h];rfl
theorem UH.step {f:Fsy} {i:Int} {U:List Int} {p j:Nat} {z:Int} (hf:fewF f) (h:UH f i U p) (hz:U[p]?=some z) (hj:(Qab f z).l.length≤j):UH f i (addE U ((Qab f z).l.take j)) (p+1):=by
 obtain ⟨h1,h2,h3⟩:=h;have hp:=Qan hz;have hl:=h1.le hf;refine ⟨Qdf h1 z j,by have:=Qx9 ((Qab f z).l.take j) U;omega,?_⟩;rw [Qap hj,← h3,show 1300-p=(1300-(p+1))+1 from by omega];simp only [goU,hz]
theorem UH.done {f:Fsy} {i:Int} {U:List Int} {p:Nat} (h:UH f i U p) (hp:U.length≤p):Qeu f i=U:=by
 rw [← h.2.2];cases 1300-p with
 | zero=>rfl
 | succ n=>simp only [goU,W1h hp]
theorem Zdx {f:Fsy}:∀ (n:Nat) {U:List Int} (p:Nat),Dst f U→Dst f (goU f n U p)
 | 0,U,p,h=>h
 | n+1,U,p,h=>by
  simp only [goU]
  split
  ·exact Zdx n (p+1) (Qhx h fun e he=>Qhq he)
  ·exact h
def isE (i:Int) (e:Ent):Bool:=e.ino==i
def cntE (i:Int) (n:Nod):Nat:=n.l.countP (isE i)
def Qop (f:Fsy) (i:Int):Nat:=(f.l.map (cntE i)).sum
def cntK (i:Int) (l:List Ent) (j:Nat):Nat:=(l.take j).countP (isE i)
theorem Zjb {i:Int} {l:List Ent} {j:Nat} {x:Ent} (h:l[j]?=some x) (q:(x.ino==i)=true):cntK i l (j+1)=cntK i l j+1:=by
 unfold cntK;rw [Qaq h,List.countP_append];simp [isE,q]
theorem Zm6 {i:Int} {l:List Ent} {j:Nat} {x:Ent} (h:l[j]?=some x) (q:(x.ino==i)=false):cntK i l (j+1)=cntK i l j:=by
 unfold cntK;rw [Qaq h,List.countP_append];simp [isE,q]
theorem Zjc {i:Int} {n:Nod} {j:Nat} (h:n.l.length≤j):cntK i n.l j=cntE i n:=by unfold cntK cntE;rw [Qap h]
theorem Zm7 (i:Int) (l:List Ent) (j:Nat):cntK i l j≤l.length:=W09 List.countP_le_length (by rw [W0g];omega)
theorem Zfb (i:Int):∀ l:List Nod,(l.map (cntE i)).sum≤(l.map wN).sum
 | []=>W0m _
 | n :: r=>by
  have:=Zfb i r;have:cntE i n≤wN n:=List.countP_le_length;simp only [W1t,W1s];omega
def Qmw (f:Fsy) (i:Nat) (n:Nod):Bool:=!(decide ((i:Int)>0)&&(decide (n.links<1)||(n.kind==2&&(decide (n.links>1)||!(hasB (Qeu f 1) n.ino)))))
def Quk (f:Fsy) (i:Nat) (n:Nod):Prop:=n.links=(Qop f n.ino:Int)∧Qmw f i n=true∧AllQ (fun _ e=>Qav f e.ino=true) n.l
def Qe3 (f:Fsy):Prop:=Qat f∧(∃ n,f.l[0]?=some n∧n.ino=1∧n.kind=2∧n.links=0)∧AllQ (Quk f) f.l
theorem Ze9 {l:List Nod} {i:Int} (hr:Qbm l):∀ x∈outN l i,x.ino ≠ i∧x∈l:=by
 intro x hx;rw [Qh6 hr] at hx;obtain ⟨h1,h2⟩:=W1l.1 hx;exact ⟨by simpa using h2,h1⟩
theorem Qwq {l:List Nod} {i:Int} (hr:Qbm l):Qbm (outN l i):=by
 rw [Qh6 hr];exact List.Pairwise.filter _ hr
theorem Qwp {f:Fsy} {i:Int} (h:Qat f):Qat (outF f i):=by
 obtain ⟨h1,h2,h3,h4⟩:=Qbe.1 h;exact Qbe.2 ⟨W09 (Qug f.l i) h1,h2,fun n hn=>h3 n (Ze9 h4 n hn).2,Qwq h4⟩
theorem Zik {f:Fsy} {i j:Int} (hr:Qbm f.l):Qav (outF f i) j=(if j=i then false else Qav f j)∧Qab (outF f i) j=(if j=i then nod0 else Qab f j):=by
 have key:(outN f.l i).find? (isNo j)=if j=i then none else f.l.find? (isNo j):=by
  rw [Qh6 hr,List.find?_filter];by_cases h:j=i
  ·rw [W1x h];refine W10.2 fun x _=>?_;subst h;simp [isNo]
  ·rw [W1w h];congr 1;funext x;by_cases hx:x.ino=j
   ·have:¬ x.ino=i:=by omega
    simp [isNo,hx,this,h]
   ·simp [isNo,hx]
 have hb:∀ f:Fsy,Qav f j=(f.l.find? (isNo j)).isSome:=fun f=>by
  unfold Qav
  induction f.l with
  | nil=>rfl
  | cons n r ih=>
   simp only [List.any_cons,W1e];cases h:isNo j n<;>simp [ih]
 constructor
 ·rw [hb,hb];show ((outN f.l i).find? (isNo j)).isSome=_;rw [key]
  split<;>rfl
 ·show ((outN f.l i).find? (isNo j)).getD nod0=_;rw [key]
  split<;>rfl
theorem out_ok {f:Fsy} {i:Int} (okf:OkF f) (hr:Qbm f.l):OkF (outF f i):=⟨okf.1,W09 (Qug f.l i) okf.2.1,fun n hn=>okf.2.2 n (Ze9 hr n hn).2⟩
theorem Qun {l:List Nod} {n x:Nod} (h:x∈putN l n):x=n∨x∈l:=by
 unfold putN at h;rcases W04.1 h with h | h
 ·exact .inr (W13 h)
 ·rcases W0y.1 h with h | h
  ·exact .inl h
  ·exact .inr (W2d h)
theorem Qoi {f:Fsy} {n:Nod} (okf:OkF f) (okn:OkN n) (hn:n.ino<9223372036854775807) (hl:f.l.length≤100000):OkF (putF f n):=by
 refine ⟨?_,?_,fun x hx=>?_⟩
 ·show I64 (if n.ino+1>f.next then n.ino+1 else f.next)
  split
  ·exact ⟨by have:=okn.1.1;omega,by omega⟩
  ·exact okf.1
 ·have:=Qme f.l n;show (putN f.l n).length≤_;omega
 ·rcases Qun hx with rfl | hx
  ·exact okn
  ·exact okf.2.2 x hx
theorem Qhk {l:List Nod} {n:Nod} (hr:Qbm l):Qbm (putN l n):=by
 have hc:=hr.cut n.ino;have e:putN l n=l.take (plN l n.ino)++n :: (l.drop (plN l n.ino)).filter (fun x=>x.ino != n.ino):=by unfold putN;rw [Qic hr]
 rw [e];refine List.pairwise_append.2 ⟨List.Pairwise.sublist (List.take_sublist _ _) hr,W1k.2 ⟨fun x hx=>?_,List.Pairwise.filter _ (List.Pairwise.sublist (List.drop_sublist _ _) hr)⟩,fun x hx y hy=>?_⟩
 ·obtain ⟨h1,h2⟩:=W1l.1 hx;have h3:=hc.2 x h1;have h4:¬ x.ino=n.ino:=by simpa using h2
  show n.ino<x.ino;omega
 ·have h1:=hc.1 x hx;rcases W0y.1 hy with rfl | hy
  ·exact h1
  ·have h3:=hc.2 y (W1l.1 hy).1;show x.ino<y.ino;omega
theorem Zhc {f:Fsy} {n:Nod} (h:Qat f) (hn:nodP n) (hl:f.l.length<256):Qat (putF f n):=by
 obtain ⟨h1,h2,h3,h4⟩:=Qbe.1 h;have hnx:f.next≤(putF f n).next∧n.ino+1≤(putF f n).next:=by
  show f.next≤(if n.ino+1>f.next then n.ino+1 else f.next)∧n.ino+1≤(if n.ino+1>f.next then n.ino+1 else f.next)
  split<;>omega
 refine Qbe.2 ⟨by have:=Qme f.l n;show (putN f.l n).length≤256;omega,by omega,fun x hx=>?_,Qhk h4⟩;rcases Qun hx with rfl | hx
 ·exact ⟨hn,by omega⟩
 ·have:=h3 x hx;exact ⟨this.1,by omega⟩
theorem Qna {l:List Nod} {i:Int} {x:Nod} (hr:Qbm l) (hx:x∈l) (hi:x.ino=i):l.find? (isNo i)=some x:=by
 cases h:l.find? (isNo i) with
 | none=>exact absurd (W10.1 h x hx) (by simp [isNo,hi])
 | some y=>
  have hy:=W1n h;have hp:(y.ino==i)=true:=List.find?_some (p:=isNo i) h;obtain ⟨j,hj⟩:=W0w hx;obtain ⟨k,hk⟩:=W0w hy;have h3:=W1c.1 hr;have l1:=Qan hj;have l2:=Qan hk;have e1:l[j]=x:=W0c ((W0d l1).symm.trans hj);have e2:l[k]=y:=W0c ((W0d l2).symm.trans hk);have hyi:y.ino=i:=by simpa using hp
  rcases Nat.lt_trichotomy j k with hlt | rfl | hlt
  ·have:=h3 j k l1 l2 hlt;rw [e1,e2] at this;omega
  ·rw [← e1,← e2]
  ·have:=h3 k j l2 l1 hlt;rw [e1,e2] at this;omega
theorem Qxk (f:Fsy) (j:Int):Qav f j=(f.l.find? (isNo j)).isSome:=by
 unfold Qav
 induction f.l with
 | nil=>rfl
 | cons n r ih=>
  simp only [List.any_cons,W1e];cases h:isNo j n<;>simp [ih]
theorem Qqk {f:Fsy} {n:Nod} (hr:Qbm f.l):Qav (putF f n) n.ino=true∧Qab (putF f n) n.ino=n:=by
 have h:(putN f.l n).find? (isNo n.ino)=some n:=Qna (Qhk hr) (by unfold putN;simp) rfl;refine ⟨?_,?_⟩
 ·rw [Qxk];show ((putN f.l n).find? (isNo n.ino)).isSome=true;rw [h];rfl
 ·show ((putN f.l n).find? (isNo n.ino)).getD nod0=n;rw [h];rfl
theorem Qn2 {f:Fsy} {n:Nod} {j:Int} (hr:Qbm f.l) (hj:¬ j=n.ino):Qav (putF f n) j=Qav f j∧Qab (putF f n) j=Qab f j:=by
 have key:(putN f.l n).find? (isNo j)=f.l.find? (isNo j):=by
  have e:putN f.l n=f.l.take (plN f.l n.ino)++n :: (f.l.drop (plN f.l n.ino)).filter (fun x=>x.ino != n.ino):=by unfold putN;rw [Qic hr]
  have hn:isNo j n=false:=by simp [isNo];omega
  have e2:((f.l.drop (plN f.l n.ino)).filter (fun x=>x.ino != n.ino)).find? (isNo j)=(f.l.drop (plN f.l n.ino)).find? (isNo j):=by
   rw [List.find?_filter];congr 1;funext x;by_cases hx:x.ino=j
   ·have:¬ x.ino=n.ino:=by omega
    simp [isNo,hx,hj]
   ·simp [isNo,hx]
  rw [e,List.find?_append,W1e,hn,e2]
  conv=>rhs;rw [← W1g (plN f.l n.ino) f.l,List.find?_append]
 exact ⟨by rw [Qxk,Qxk];show ((putN f.l n).find? (isNo j)).isSome=_;rw [key],by show ((putN f.l n).find? (isNo j)).getD nod0=_;rw [key];rfl⟩
def Qa4 (f:Fsy) (i:Int):List Int:=if (Qab f i).kind=2 then (Qab f i).l.map Ent.ino else []
theorem Qp7 {f:Fsy} {i z:Int} (h:z∈Qa4 f i):z∈Qh8 f:=by
 unfold Qa4 at h
 split at h
 ·obtain ⟨e,he,rfl⟩:=W1i.1 h;exact Qhq he
 ·cases h
def dfsF (f:Fsy):Nat→Int→List Int→List Int
 | 0,_,U=>U
 | n+1,i,U=>(Qa4 f i).foldl (fun U z=>if hasB U z=true then U else dfsF f n z (U++[z])) U
def upK (f:Fsy) (n:Nat) (i:Int) (U:List Int) (k:Nat):List Int:=((Qa4 f i).take k).foldl (fun U z=>if hasB U z=true then U else dfsF f n z (U++[z])) U
theorem Zat {f:Fsy} {n:Nat} {i z:Int} {U:List Int} {k:Nat} (hz:(Qa4 f i)[k]?=some z) (h:hasB (upK f n i U k) z=true):upK f n i U (k+1)=upK f n i U k:=by
 unfold upK at h ⊢;rw [Qaq hz,W1o,List.foldl_cons,List.foldl_nil,W1x h]
theorem Zjy {f:Fsy} {n:Nat} {i z:Int} {U:List Int} {k:Nat} (hz:(Qa4 f i)[k]?=some z) (h:hasB (upK f n i U k) z=false):upK f n i U (k+1)=dfsF f n z (upK f n i U k++[z]):=by
 unfold upK at h ⊢;rw [Qaq hz,W1o,List.foldl_cons,List.foldl_nil,W1w (by rw [h];decide)]
theorem Zk2 {f:Fsy} {n:Nat} {i:Int} {U:List Int} {k:Nat} (hk:(Qa4 f i).length≤k):upK f n i U k=dfsF f (n+1) i U:=by unfold upK;rw [Qap hk];rfl
theorem Qj6 {f:Fsy} {i:Int} {k:Nat} {x:Ent} (hk:(Qab f i).kind=2) (h:(Qab f i).l[k]?=some x):(Qa4 f i)[k]?=some x.ino:=by
 unfold Qa4;rw [W1x hk,W0v,h];rfl
theorem Zh2 {f:Fsy} {i:Int} (hk:(Qab f i).kind=2):(Qa4 f i).length=(Qab f i).l.length:=by
 unfold Qa4;rw [W1x hk,W0a]
theorem Zmg {f:Fsy} {i:Int} (h:¬ (Qab f i).kind=2):Qa4 f i=[]:=W1w h
theorem Zks {f:Fsy} {n:Nat} {i:Int} {U:List Int} (h:¬ (Qab f i).kind=2):dfsF f n i U=U:=by
 cases n with
 | zero=>rfl
 | succ n=>show (Qa4 f i).foldl _ U=U;rw [Zmg h];rfl
theorem Qst {f:Fsy} {i:Int} (h:Qav f i=false):¬ (Qab f i).kind=2:=by
 unfold Qav at h;unfold Qab;rw [W10.2 fun x hx=>by simpa using W2c.1 h x hx];decide
def remF (f:Fsy) (U:List Int):Nat:=(Qh8 f).countP fun z=>!hasB U z
theorem Qd2 {U:List Int} {x z:Int}:hasB (U++[x]) z=(hasB U z||x==z):=by unfold hasB;simp
theorem Qqt {α:Type} {p q:α→Bool}:∀ {l:List α},(∀ x∈l,p x=true→q x=true)→l.countP p≤l.countP q
 | [],_=>W0m _
 | x :: r,h=>by
  have ih:=Qqt (l:=r) fun y hy=>h y (by simp [hy]);rw [List.countP_cons,List.countP_cons];have:=h x (by simp);cases hp:p x<;>cases hq:q x<;>simp_all<;>omega
theorem Qxv {α:Type} {p q:α→Bool}:∀ {l:List α} {z:α},(∀ x∈l,p x=true→q x=true)→z∈l→p z=false→q z=true→l.countP p<l.countP q
 | x :: r,z,h,hz,h1,h2=>by
  rw [List.countP_cons,List.countP_cons];have hx:=h x (by simp);rcases W0y.1 hz with e | hz
  ·rw [← e,h1,h2];have:=Qqt (l:=r) fun y hy=>h y (by simp [hy]);simp;omega
  ·have ih:=Qxv (l:=r) (fun y hy=>h y (by simp [hy])) hz h1 h2;cases hp:p x<;>cases hq:q x<;>simp_all<;>omega
theorem Qwj {f:Fsy} {U V:List Int} (h:∀ z,hasB U z=true→hasB V z=true):remF f V≤remF f U:=by
 refine Qqt fun x _ hx=>?_;cases hu:hasB U x with
 | false=>rfl
 | true=>rw [h x hu] at hx;cases hx
theorem Qt6 {f:Fsy} {U:List Int} {z:Int} (hz:z∈Qh8 f) (h:hasB U z=false):remF f (U++[z])<remF f U:=by
 refine Qxv (z:=z) (fun x _ hx=>?_) hz (by rw [Qd2];simp) (by rw [h];rfl);rw [Qd2] at hx;simp only [Bool.not_eq_true',Bool.or_eq_false_iff] at hx;rw [hx.1];rfl
theorem Qqp {f:Fsy}:∀ (n:Nat) (i:Int) (U:List Int) (z:Int),hasB U z=true→hasB (dfsF f n i U) z=true
 | 0,_,_,_,h=>h
 | n+1,i,U,z,h=>by
  show hasB ((Qa4 f i).foldl _ U) z=true;generalize Qa4 f i=l
  induction l generalizing U with
  | nil=>exact h
  | cons x r ih=>
   rw [List.foldl_cons];refine ih _ ?_
   split
   ·exact h
   ·exact Qqp n x _ z (by rw [Qd2,h];rfl)
theorem Zlo {f:Fsy} {n:Nat} {i:Int} {U:List Int}:remF f (dfsF f n i U)≤remF f U:=Qwj fun z h=>Qqp n i U z h
inductive Reach (f:Fsy):Int→Int→Prop where
 | one {i z:Int}:z∈Qa4 f i→Reach f i z
 | more {i y z:Int}:y∈Qa4 f i→Reach f y z→Reach f i z
theorem Reach.trans {f:Fsy} {a b c:Int} (h:Reach f a b) (h2:Reach f b c):Reach f a c:=by
 induction h with
 | one h=>exact .more h h2
 | more h _ ih=>exact .more h (ih h2)
theorem Reach.snoc {f:Fsy} {a b c:Int} (h:Reach f a b) (h2:c∈Qa4 f b):Reach f a c:=h.trans (.one h2)
def Zga (f:Fsy) (U V:List Int):Prop:=∀ z,hasB V z=true→hasB U z=false→∀ y∈Qa4 f z,hasB V y=true
theorem Qo2 {f:Fsy}:∀ (n:Nat) (i:Int) (U:List Int),remF f U<n →
  (∀ y∈Qa4 f i,hasB (dfsF f n i U) y=true)∧Zga f U (dfsF f n i U)∧∀ z,hasB (dfsF f n i U) z=true→hasB U z=true∨Reach f i z
 | 0,_,_,h=>absurd h (Nat.not_lt_zero _)
 | n+1,i,U,h=>by
  have key:∀ (l:List Int),(∀ y∈l,y∈Qa4 f i)→∀ (V:List Int),(∀ z,hasB U z=true→hasB V z=true)→Zga f U V→(∀ z,hasB V z=true→hasB U z=true∨Reach f i z) →
    let W:=l.foldl (fun U z=>if hasB U z=true then U else dfsF f n z (U++[z])) V
    (∀ z,hasB V z=true→hasB W z=true)∧(∀ y∈l,hasB W y=true)∧Zga f U W∧∀ z,hasB W z=true→hasB U z=true∨Reach f i z:=by
   intro l
   induction l with
   | nil=>exact fun _ V _ h2 h3=>⟨fun _ h=>h,fun y hy=>by (cases hy),h2,h3⟩
   | cons x r ih=>
    intro hl V h1 h2 h3;simp only [List.foldl_cons];by_cases hx:hasB V x=true
    ·simp only [hx,if_true];obtain ⟨g0,g1,g2,g3⟩:=ih (fun y hy=>hl y (by simp [hy])) V h1 h2 h3;refine ⟨g0,fun y hy=>?_,g2,g3⟩;rcases W0y.1 hy with e | hy
     ·rw [e];exact g0 x hx
     ·exact g1 y hy
    ·rw [W1w hx];have hx':hasB V x=false:=by simpa using hx
     have hr1:remF f V≤remF f U:=Qwj (f:=f) h1;have hr2:=Qt6 (f:=f) (Qp7 (hl x (by simp))) hx';obtain ⟨d1,d2,d3⟩:=Qo2 (f:=f) n x (V++[x]) (by omega);have hm:=Qqp (f:=f) n x (V++[x]);have hxx:hasB (dfsF f n x (V++[x])) x=true:=hm x (by rw [Qd2];simp);obtain ⟨g0,g1,g2,g3⟩:=ih (fun y hy=>hl y (by simp [hy])) (dfsF f n x (V++[x])) (fun z hz=>hm z (by rw [Qd2,h1 z hz];rfl)) (fun z hz hu y hy=>by
      by_cases hv:hasB V z=true
      ·exact hm y (by rw [Qd2,h2 z hv hu y hy];rfl)
      ·by_cases hzx:z=x
       ·rw [hzx] at hy;exact d1 y hy
       ·refine d2 z hz ?_ y hy;rw [Qd2];have e1:hasB V z=false:=by simpa using hv
        have e2:(x==z)=false:=by simpa using fun e=>hzx (by rw [← e])
        rw [e1,e2];rfl) (fun z hz=>by
      rcases d3 z hz with hd | hd
      ·rw [Qd2] at hd;by_cases hv:hasB V z=true
       ·exact h3 z hv
       ·have e:x=z:=by simpa [hv] using hd
        rw [← e];exact .inr (.one (hl x (by simp)))
      ·exact .inr (.more (hl x (by simp)) hd))
     refine ⟨fun z hz=>g0 z (hm z (by rw [Qd2,hz];rfl)),fun y hy=>?_,g2,g3⟩;rcases W0y.1 hy with e | hy
     ·rw [e];exact g0 x hxx
     ·exact g1 y hy
  obtain ⟨_,g1,g2,g3⟩:=key (Qa4 f i) (fun _ h=>h) U (fun _ h=>h) (fun z h1 h2=>by rw [h1] at h2;cases h2) (fun z h=>.inl h);exact ⟨g1,g2,g3⟩
def Qeh (f:Fsy) (i:Int):List Int:=dfsF f ((Qh8 f).length+1) i []
theorem Zbw (f:Fsy):remF f []<(Qh8 f).length+1:=Nat.lt_succ_of_le List.countP_le_length
theorem Qro {f:Fsy} {i z:Int}:hasB (Qeh f i) z=true↔Reach f i z:=by
 obtain ⟨h1,h2,h3⟩:=Qo2 _ i [] (Zbw f);refine ⟨fun h=>(h3 z h).resolve_left (by simp [hasB]),fun h=>?_⟩;have main:∀ a b,Reach f a b→(∀ y∈Qa4 f a,hasB (Qeh f i) y=true)→hasB (Qeh f i) b=true:=by
  intro a b hab
  induction hab with
  | one h=>exact fun hk=>hk _ h
  | more h _ ih=>exact fun hk=>ih fun y hy=>h2 _ (hk _ h) rfl y hy
 exact main i z h h1
def setM (U:List Int):List (MK × AV):=U.map fun z=>(MK.i z,.agg [])
theorem Ql5 (U:List Int):∀ p∈setM U,∃ z,p.1=.i z:=fun p hp=>by
 obtain ⟨z,_,rfl⟩:=W1i.1 hp;exact ⟨z,rfl⟩
theorem Qjw:∀ (U:List Int) (z:Int) (i:Nat),(Qdb (.i z) (setM U) i).isSome=hasB U z∧∀ j x,Qdb (.i z) (setM U) i=some (j,x)→x=.agg []
 | [],z,i=>⟨rfl,fun j x h=>by cases h⟩
 | y :: r,z,i=>by
  obtain ⟨h1,h2⟩:=Qjw r z (i+1);show (Qdb (.i z) ((MK.i y,AV.agg []) :: setM r) i).isSome=_∧∀ j x,Qdb (.i z) ((MK.i y,AV.agg []) :: setM r) i=some (j,x)→_;unfold Qdb;by_cases hy:y=z
  ·subst hy;simp only [if_true];exact ⟨by simp [hasB],fun j x h=>by cases h;rfl⟩
  ·rw [W1w (fun e=>hy (by injection e))];refine ⟨?_,h2⟩;rw [h1];unfold hasB;have e:(y==z)=false:=by simpa using hy
   rw [List.any_cons,e,W0u]
theorem Zgi:Sub (.val (.agg #[])) (.agg []):=fun D w v h=>by
 cases h;exact .agg [] #[] rfl (fun j v h=>by simp at h) (fun j x v h=>by simp at h)
theorem Qri (U:List Int) (z:Int):lkS true (Qdb (.i z) (setM U) 0) (.agg #[]) (.tup [.agg [],aB (hasB U z)]):=by
 obtain ⟨h1,h2⟩:=Qjw U z 0;unfold lkS Qr9;rw [W1x rfl,h1];refine W2q ⟨?_,sR,trivial⟩;cases hm:Qdb (.i z) (setM U) 0 with
 | none=>exact Zgi
 | some p=>
  obtain ⟨j,x⟩:=p;rw [h2 j x hm];exact sR
theorem Zgy {U:List Int} {z:Int} (h:hasB U z=false):mput (setM U) (.i z) (.agg [])=setM (U++[z]):=by
 obtain ⟨h1,h2⟩:=Qjw U z 0;unfold mput;cases hm:Qdb (.i z) (setM U) 0 with
 | none=>simp [setM]
 | some p=>rw [hm,h] at h1;cases h1
theorem Zc2 (f:Fsy) (r:Nat) (okf:OkF f) (hl:f.l.length≤100000) (hr:Qbm f.l) (m:Nat) (ih:∀ (i:Int) (U:List Int),remF f U<m→Qh2 prog 127 [aI i,.dptr (fsyA f),.dptr [.mref 7 r],.dptr [CLn 127 [.dptr (fsyA f),.dptr [.mref 7 r]] m]] (.mp r (setM U)) (.tup []) (.mp r (setM (dfsF f m i U)))) (i:Int) (U:List Int) (h:remF f U<m+1):Qh2 prog 127 [aI i,.dptr (fsyA f),.dptr [.mref 7 r],.dptr [.clo 127 [.dptr (fsyA f),.dptr [.mref 7 r],.dptr [CLn 127 [.dptr (fsyA f),.dptr [.mref 7 r]] m]]]] (.mp r (setM U)) (.tup []) (.mp r (setM (dfsF f (m+1) i U))):=by
 have hfb:=(Qf0 okf i).2.2.2.2.1;exact Qja (q:=7) func127 (
 .r 2<|.call (Qce f i (by omega) hr)<|
 .r 3<|.new fun b1=>.u 2 [b1]<|
 .r 3<|.br 19 (!(Qav f i)) (fun q1=>have q1:=notT q1;have p1:=booF q1;.r 4<|.st (mpR 7) (r,setM U) (fun (_:Unit) σ=>σ.setB 7 (.mp r (setM (dfsF f (m+1) i U)))) (Qt2 (by rw [Zks (Qst q1)])) fun _=>
 .finB (x:=.tup []) (r:=.tup []) [] trivial (.mp r (setM (dfsF f (m+1) i U))) (by exact sR))
 <| fun q1=>have q1:=notF q1;have p1:=booT q1;.u 4 [b1]<|
 .br 23 (((Qab f i).kind) != 2) (fun q2=>have p2:=bneT q2;.st (mpR 7) (r,setM U) (fun (_:Unit) σ=>σ.setB 7 (.mp r (setM (dfsF f (m+1) i U)))) (Qt2 (by rw [Zks (by assumption)])) fun _=>
 .finB (x:=.tup []) (r:=.tup []) [] trivial (.mp r (setM (dfsF f (m+1) i U))) (by exact sR))
 <| fun q2=>have p2:=bneF q2;have hk:(Qab f i).kind=2:=(by simpa using q2);.u 3 [b1]<|
 .lm 26 ((Qab f i).l) entA<|.r 1<|let L1:Lp (Nat):=⟨fun a1=>⟨[(2,.dptr [.mref 7 r]),(3,.dptr [.clo 127 [.dptr (fsyA f),.dptr [.mref 7 r],.dptr [CLn 127 [.dptr (fsyA f),.dptr [.mref 7 r]] m]]]),(25,.sl 2 false ((Qab f i).l.map entA)),(26,aI (((Qab f i).l).length:Int)),(27,aI (a1:Int))],[(7,.mp r (setM (upK f m i U a1)))]⟩,fun a1=>(Qab f i).l.length-a1,fun a1=>a1≤(Qab f i).l.length∧remF f (upK f m i U a1)<m+1⟩
 .lp L1 0 ⟨W0j _,h⟩ [(27,aI 0)] [(7,.mp r (setM U))] ⟨sR,sR,sR,sR,sO,trivial⟩ ⟨⟨_,rfl,W2o rfl⟩,trivial⟩ fun a1 ha1=>
 (fun (k:Nat) (hH1:k≤(Qab f i).l.length∧remF f (upK f m i U k)<m+1)=>.r 1<|.bd 28 ((k:Int)<(((Qab f i).l).length:Int)) (fun p3=>.idxM ((Qab f i).l) entA k (m:=(k:Int)) rfl (by omega) fun x1 hx1=>
 .r 1<|.new fun b2=>.u 1 [b2]<|
 .u 3 [b2]<|
 .op (lkRB prog) ((3,some (.agg #[])),(7,r,r,setM (upK f m i U k)),.i x1.ino,true,some 35) (fun (_:Unit) σ=>σ.put (some 35) (.tup [.agg [],aB (hasB (upK f m i U k) x1.ino)])) (Qyw (Qdb (.i x1.ino) (setM (upK f m i U k)) 0) (Zdb (by kernel_rfl) _ (Ql5 (upK f m i U k))) (by kernel_rfl) rfl (Qri (upK f m i U k) x1.ino)) fun _=>
 .r 3<|.new fun b3=>.u 2 [b3]<|
 .r 1<|.br 38 (hasB (upK f m i U k) x1.ino) (fun q4=>have p4:=booT q4;.run 2 [rng .i64 ((k:Int)+1)] ⟨Qal,trivial⟩<|
 .bk L1 k (k+1) ⟨by omega,by rw [Zat (Qj6 hk hx1) q4];exact hH1.2⟩ (show (Qab f i).l.length-(k+1)<(Qab f i).l.length-k from (by omega)) [(27,aI ((k:Int)+1))] [(7,.mp r (setM (upK f m i U k)))] ⟨sR,sR,sR,sR,sO,trivial⟩ ⟨⟨_,rfl,W2o (by rw [Zat (Qj6 hk hx1) q4])⟩,trivial⟩)
 <| fun q4=>have p4:=booF q4;.u 4 [b2]<|
 .op (insR prog) (3,(7,r,r,setM (upK f m i U k)),.i x1.ino,AV.agg []) (fun (_:Unit) σ=>σ.setB 7 (.mp r (setM ((upK f m i U k)++[x1.ino])))) (Zbl (Zdb (by kernel_rfl) _ (Ql5 (upK f m i U k))) (by kernel_rfl) (Zgy q4)) fun _=>
 .lent 3<|.u 3 [b2]<|
 .lop (lcR prog 7) ((127,[aI x1.ino,.dptr (fsyA f),.dptr [.mref 7 r],.dptr [CLn 127 [.dptr (fsyA f),.dptr [.mref 7 r]] m]],some 46),.mp r (setM ((upK f m i U k)++[x1.ino]))) (fun (_:Unit) σ=>(σ.put (some 46) (.tup [])).setB 7 (.mp r (setM (dfsF f m x1.ino ((upK f m i U k)++[x1.ino]))))) (Qde (args':=[aI x1.ino,.dptr (fsyA f),.dptr [.mref 7 r],.dptr [CLn 127 [.dptr (fsyA f),.dptr [.mref 7 r]] m]]) sr4 (ih x1.ino ((upK f m i U k)++[x1.ino]) (by have:=Qt6 (f:=f) (Qp7 (W0h (Qj6 hk hx1))) q4;omega))) fun _=>
 .run 2 [rng .i64 ((k:Int)+1)] ⟨Qal,trivial⟩<|
 .bk L1 k (k+1) ⟨by omega,by rw [Zjy (Qj6 hk hx1) q4];have:=Zlo (f:=f) (n:=m) (i:=x1.ino) (U:=upK f m i U k++[x1.ino]);have:=Qt6 (f:=f) (Qp7 (W0h (Qj6 hk hx1))) q4;omega⟩ (show (Qab f i).l.length-(k+1)<(Qab f i).l.length-k from (by omega)) [(27,aI ((k:Int)+1))] [(7,.mp r (setM (dfsF f m x1.ino ((upK f m i U k)++[x1.ino]))))] ⟨sR,sR,sR,sR,sO,trivial⟩ ⟨⟨_,rfl,W2o (by rw [Zjy (Qj6 hk hx1) q4])⟩,trivial⟩)
 <| fun p3=>.st (mpR 7) (r,setM (upK f m i U k)) (fun (_:Unit) σ=>σ.setB 7 (.mp r (setM (dfsF f (m+1) i U)))) (Qt2 (by rw [Zk2 (by rw [Zh2 hk];omega)])) fun _=>
 .finB (x:=.tup []) (r:=.tup []) [] trivial (.mp r (setM (dfsF f (m+1) i U))) (by exact sR)) a1 ha1)
theorem Qw2 (f:Fsy) (r:Nat) (okf:OkF f) (hl:f.l.length≤100000) (hr:Qbm f.l):∀ (m:Nat) (i:Int) (U:List Int),remF f U<m→Qh2 prog 127 [aI i,.dptr (fsyA f),.dptr [.mref 7 r],.dptr [CLn 127 [.dptr (fsyA f),.dptr [.mref 7 r]] m]] (.mp r (setM U)) (.tup []) (.mp r (setM (dfsF f m i U)))
 | 0,_,_,h=>absurd h (Nat.not_lt_zero _)
 | m+1,i,U,h=>Zc2 f r okf hl hr m (Qw2 f r okf hl hr m) i U h
theorem Qy6 (f:Fsy) (i:Int) (okf:OkF f) (hl:f.l.length≤100000) (hr:Qbm f.l):Qag prog 83 [.agg (fsyA f),aI i] (.mp (setM (Qeh f i))):=by
 exact Qac func83 (let R:AV:=.mp (setM (Qeh f i));
 .new fun b1=>.r 1<|.mkMap fun r2=>.new fun b3=>.u 1 [b3]<|
 .new fun b4=>.u 2 [b4]<|
 .frz 2 [1,4,5,6] [7,5,6] [b1=b1] rt1<|
 .frz 5 [1,4,5,6] [7,6] [b3=b3,b3=b3] rt2<|
 .st (fun s=>(recR 6 s).map fun x=>(x,lget s.tm 6)) ((b4,185,127,[.dptr (fsyA f),.dptr [.mref 7 r2]],6,b4),.ptr 6 b4 0) (fun (_:Unit) σ=>recS 6 6 (CLn 127 [.dptr (fsyA f),.dptr [.mref 7 r2]] (((Qh8 f).length+1)+1)) [1,4,5] [7] σ) (Zg8 (((Qh8 f).length+1)+1) [1,4,5] [7]) fun _=>
 .lent 2<|.r 2<|.lop (lcR prog 7) ((127,[aI i,.dptr (fsyA f),.dptr [.mref 7 r2],.dptr [CLn 127 [.dptr (fsyA f),.dptr [.mref 7 r2]] ((Qh8 f).length+1)]],some 11),.mp r2 []) (fun (_:Unit) σ=>(σ.put (some 11) (.tup [])).setB 7 (.mp r2 (setM (Qeh f i)))) (Qde (args':=[aI i,.dptr (fsyA f),.dptr [.mref 7 r2],.dptr [CLn 127 [.dptr (fsyA f),.dptr [.mref 7 r2]] ((Qh8 f).length+1)]]) sr4 (Qw2 f r2 okf hl hr ((Qh8 f).length+1) i [] (Zbw f))) fun _=>
 .r 2<|.frz 7 [4] [] [r2=r2] rt1<|
 .fi R [])
theorem Zab (f:Fsy) (i j:Int) (okf:OkF f) (hl:f.l.length≤100000) (hr:Qbm f.l):Qag prog 326 [.agg (fsyA f),aI i,aI j] (aB (hasB (Qeh f j) i)):=by
 exact Qac func326 (let R:AV:=aB (hasB (Qeh f j) i);
 .new fun b1=>.r 1<|.u 2 [b1]<|
 .call (Qy6 f j okf hl hr)<|
 .r 1<|.op (lkRO prog) ((3,some (.agg #[])),setM (Qeh f j),.i i,true,some 14) (fun (_:Unit) σ=>σ.put (some 14) (.tup [.agg [],aB (hasB (Qeh f j) i)])) (Qyv (Qdb (.i i) (setM (Qeh f j)) 0) (Zdb (by kernel_rfl) _ (Ql5 (Qeh f j))) (by kernel_rfl) rfl (Qri (Qeh f j) i)) fun _=>
 .r 3<|.new fun b2=>.u 2 [b2]<|
 .r 2<|.fi R [])
def cntI:List (Int × Nat)→Int→List (Int × Nat)
 | [],z=>[(z,1)]
 | p :: r,z=>if p.1=z then (p.1,p.2+1) :: r else p :: cntI r z
def cntM (L:List (Int × Nat)):List (MK × AV):=L.map fun p=>(MK.i p.1,aI (p.2:Int))
def cntEs (L:List (Int × Nat)) (l:List Ent):List (Int × Nat):=l.foldl (fun L e=>cntI L e.ino) L
def cntNs (L:List (Int × Nat)) (l:List Nod):List (Int × Nat):=l.foldl (fun L n=>if n.kind=2 then cntEs L n.l else L) L
def Qo4 (f:Fsy):List (Int × Nat):=cntNs [] f.l
def keyT (f:Fsy) (z:Int):Prop:=Qav f z=true∧¬ z=1
def Qv4 (f:Fsy) (sn:List Nat):Prop:=sn.Nodup∧(∀ j∈sn,j<(Qo4 f).length)∧∀ j∈sn,∀ p,(Qo4 f)[j]?=some p→keyT f p.1
theorem Qv4.nil (f:Fsy):Qv4 f []:=⟨List.nodup_nil,fun j h=>(by cases h),fun j h=>(by cases h)⟩
theorem Qv4.more {f:Fsy} {sn:List Nat} {j:Nat} {y:Int × Nat} (h:Qv4 f sn) (hl:j<(Qo4 f).length) (hn:j ∉ sn) (hy:(Qo4 f)[j]?=some y) (hk:keyT f y.1):Qv4 f (j :: sn):=by
 refine ⟨List.nodup_cons.2 ⟨hn,h.1⟩,fun k hk'=>?_,fun k hk' p hp=>?_⟩
 ·rcases W0y.1 hk' with rfl | hk'
  ·exact hl
  ·exact h.2.1 k hk'
 ·rcases W0y.1 hk' with rfl | hk'
  ·rw [hy] at hp;obtain rfl:=W0c hp;exact hk
  ·exact h.2.2 k hk' p hp
theorem Qv4.all {f:Fsy} {sn:List Nat} (h:Qv4 f sn) (ha:∀ j,j<(cntM (Qo4 f)).length→j∈sn):∀ p∈Qo4 f,keyT f p.1:=fun p hp=>by
 obtain ⟨j,hj⟩:=W0w hp;exact h.2.2 j (ha j (by have:=Qan hj;simpa [cntM] using this)) p hj
theorem Qlm (U:List Int) (i:Int) (hl:U.length≤100000):Qag prog 74 [.sl 1 false (U.map intA),aI i] (aB (hasB U i)):=by
 exact Qac func74 (
 .r 1<|.r 1<|let L1:Lp (Nat):=⟨fun a1=>⟨[(0,.sl 1 false (U.map intA)),(1,aI i),(5,aI (a1:Int))],[]⟩,fun a1=>U.length-a1,fun a1=>Qaz (fun _ z=>(z==i)=false) U a1⟩
 .lp L1 0 (show Qaz (fun _ z=>(z==i)=false) U 0 from Qaz.zero _ _) [(5,aI 0)] [] ⟨sR,sR,sO,trivial⟩ trivial fun a1 ha1=>
 (fun (k:Nat) (hH1:Qaz (fun _ z=>(z==i)=false) U k)=>.r 3<|.lm 8 U intA<|.r 1<|.br 9 (decide ((k:Int)<(U.length:Int))) (fun q1=>have p1:=decT q1;.r 2<|.idxM U intA k (m:=(k:Int)) rfl (by omega) fun x1 hx1=>
 .r 3<|.br 17 (x1==i) (fun q2=>have p2:=beqT q2;.r 1<|.f (aB (hasB U i)) [] (aB true) (by exact W2n (W1y aB (Zml hx1 (by assumption)).symm)))
 <| fun q2=>have p2:=beqF q2;.run 3 [rng .i64 ((k:Int)+1)] ⟨Qal,trivial⟩<|
 .bk L1 k (k+1) (show Qaz (fun _ z=>(z==i)=false) U (k+1) from (hH1.step hx1 (by assumption))) (show U.length-(k+1)<U.length-k from (by omega)) [(5,aI ((k:Int)+1))] [] ⟨sR,sR,sO,trivial⟩ trivial)
 <| fun q1=>have p1:=decF q1;.r 1<|.f (aB (hasB U i)) [] (aB false) (by exact W2n (W1y aB (has_no (hH1.full (by omega))).symm))) a1 ha1)
end Go.Proofs.YtkhodpknpligpaaGreat
