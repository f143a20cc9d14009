import Derived.Test.YtkhodpknpligpaaGreatAl
import Derived.Test.YtkhodpknpligpaaGreatMrgN
import Derived.Test.YtkhodpknpligpaaGreatMrgO
set_option maxRecDepth 100000
set_option maxHeartbeats 8000000
set_option linter.unusedVariables false
set_option linter.unusedSimpArgs false
namespace Go.Proofs.YtkhodpknpligpaaGreat
open Go Go.RowKit Copyhold Go.Proofs.Tryz
theorem Zm9:Qaj [97]=0:=Qqw ⟨by decide,by decide,by decide,by decide,by decide,by decide⟩
theorem Zmz:dirE newF 1=0:=rfl
def Qk3:Nod:=⟨0,1,0,[],[]⟩
theorem Zim:OkN Qk3:=⟨⟨by decide,by decide⟩,⟨by decide,by decide⟩,⟨by decide,by decide⟩,by show (0:Nat)≤_;omega,by show (0:Nat)≤_;omega,fun e h=>by cases h⟩
theorem Qzv:nodP (addN newF Qk3):=⟨by decide,by decide,by decide,.inr ⟨.inl rfl,by decide,rfl⟩⟩
theorem Qkg:Qbq newF 1 [97] Qk3=0:=by
 unfold Qbq;rw [Zm9,Zmz,Qaf.2 Qzv];rfl
theorem Znk:((if Qbq newF 1 [97] Qk3=0 then addF newF 1 [97] (addN newF Qk3) else newF).l.length:Int)=2:=by
 rw [W1x Qkg];rfl
structure Dfi where
 f:Fsy
 i:Int
 s:Txt
 p:Txt
structure Dbk where
 f:Fsy
 i:Int
 s:Txt
 n:Nod
end Go.Proofs.YtkhodpknpligpaaGreat

namespace Go.Proofs.YtkhodpknpligpaaGreat
open Go Go.RowKit Copyhold Go.Proofs.Tryz
open Copyhold.Name (Srt insE delE getE isAt)
structure GivesP (f:Fsy) (dir:Int) (s:Txt) (i:Int) (d n:Nod):Prop where
 dir:atF f dir=some d
 kind:d.kind=2
 node:atF f i=some n
 file:¬ n.kind=2
 check:Qaj s=0
 away:isB d.l s=false
 fewd:d.l.length<256
 links:n.links<64
theorem Zib {f:Fsy} {dir:Int} {s:Txt} {i:Int} (h:Qdy f dir s i=0):∃ d n,GivesP f dir s i d n:=by
 unfold Qdy at h;rw [first6] at h
 split at h
 ·rename_i h1
  split at h
  ·rename_i h2
   split at h
   ·rename_i h3
    split at h
    ·rename_i h4
     split at h
     ·rename_i h5;obtain ⟨d,g1,g2,g3,_,_⟩:=Qx6 h1;rw [g3] at h h5;rw [Qts (by decide)] at h h2 h3 h5;simp only [Bool.or_eq_false_iff,decide_eq_false_iff_not,Bool.not_eq_false'] at h h2;have hn:=Qf7 h2;refine ⟨d,Qab f i,g1,g2,hn,by simpa using h3,h4,h5,by omega,by omega⟩
     ·exact absurd h (by assumption)
    ·exact absurd h (by assumption)
   ·exact absurd h (by assumption)
  ·exact absurd h (by assumption)
 ·exact absurd h (by assumption)
structure Dgv where
 f:Fsy
 i:Int
 s:Txt
 n:Int
end Go.Proofs.YtkhodpknpligpaaGreat

namespace Go.Proofs.YtkhodpknpligpaaGreat
open Go Go.RowKit Copyhold Go.Proofs.Tryz
theorem Zct {f:Fsy} (hp:Qat f) (z:Int):Qop f z=nam f z:=by
 unfold Qop nam;congr 1;refine List.map_congr_left fun n hn=>?_;unfold namK
 split
 ·rfl
 ·rename_i hk;rw [show cntE z n=0 from ?_];unfold cntE;rw [Qnd ((Qbe.1 hp).2.2.1 n hn).1 hk];rfl
theorem Qnb {f:Fsy} (hp:Qat f) (i:Int):(Qab f i).l.map Ent.ino=Qa4 f i:=by
 unfold Qa4
 split
 ·rfl
 ·rename_i hk;by_cases hb:Qav f i=true
  ·rw [Qnd ((Qbe.1 hp).2.2.1 _ (Qe8 hb)).1 hk];rfl
  ·rw [(Qvu (Qg4 (by simpa using hb))).2];rfl
theorem Qya {l:List Ent}:∀ {U:List Int} {z:Int},hasB (addE U l) z=true↔hasB U z=true∨z∈l.map Ent.ino:=by
 induction l with
 | nil=>intro U z;simp [addE]
 | cons e r ih=>
  intro U z;show hasB (addE (if hasB U e.ino then U else U++[e.ino]) r) z=true↔_;rw [ih];simp only [W1t,W0y]
  split
  ·rename_i h;constructor
   ·rintro (g | g)
    ·exact .inl g
    ·exact .inr (.inr g)
   ·rintro (g | g | g)
    ·exact .inl g
    ·rw [g];exact .inl h
    ·exact .inr g
  ·rw [Qd2];constructor
   ·rintro (g | g)
    ·rcases W15 _ _ ▸ g with g | g
     ·exact .inl g
     ·exact .inr (.inl (by simpa using (beq_iff_eq.1 g).symm))
    ·exact .inr (.inr g)
   ·rintro (g | g | g)
    ·exact .inl (by rw [g];rfl)
    ·exact .inl (by rw [g];simp)
    ·exact .inr g
theorem Qsj {f:Fsy} {i:Int} (hp:Qat f):∀ (n:Nat) {U:List Int} (p:Nat),(∀ z,hasB U z=true→Reach f i z)→∀ z,hasB (goU f n U p) z=true→Reach f i z
 | 0,U,p,h=>h
 | n+1,U,p,h=>by
  simp only [goU]
  split
  ·rename_i y hy;refine Qsj hp n (p+1) fun z hz=>?_;rcases Qya.1 hz with hz | hz
   ·exact h z hz
   ·rw [Qnb hp] at hz;exact (h y (Qln.2 (W0h hy))).snoc hz
  ·exact h
theorem Qx8 {l:List Ent}:∀ {U:List Int} {k:Nat} {z:Int},U[k]?=some z→(addE U l)[k]?=some z:=by
 induction l with
 | nil=>intro U k z h;exact h
 | cons e r ih=>
  intro U k z h;show (addE (if hasB U e.ino then U else U++[e.ino]) r)[k]?=some z;refine ih ?_
  split
  ·exact h
  ·rw [W0o (Qan h)];exact h
def Qca (f:Fsy) (i:Int) (n:Nod):Bool:=n.kind==2&&(i==n.ino||hasB (Qeh f n.ino) i)
def Qgm (n m:Nod):Int:=Qar [Qae (((n.kind==2) != (m.kind==2))&&(n.kind==2)) 8,Qae (((n.kind==2) != (m.kind==2))&&!(n.kind==2)) 9,Qae (Qdi m) 11]
theorem Qtr (f:Fsy) (i:Int) (n:Nod) (okf:OkF f) (hl:f.l.length≤100000) (hr:Qbm f.l):Qag prog 305 [.agg (fsyA f),aI i,.agg (nodA n)] (aB (Qca f i n)):=by
 exact Qac func305 (
 .new fun b1=>.new fun b2=>.r 1<|.u 4 [b2]<|
 .be 10 n.kind 2 (fun p1=>.u 5 [b2]<|
 .be 15 i n.ino (fun p2=>.r 8<|.f (aB (Qca f i n)) [] (aB true) (by exact W2n (W1y aB (by unfold Qca;simp [*]))))
 <| fun p2=>.u 4 [b1,b2]<|
 .call (Zab f i n.ino okf hl hr)<|
 .r 3<|.f (aB (Qca f i n)) [] (aB (hasB (Qeh f n.ino) i)) (by exact W2n (W1y aB (by unfold Qca;simp [*]))))
 <| fun p1=>.r 13<|.f (aB (Qca f i n)) [] (aB false) (by exact W2n (W1y aB (by unfold Qca;simp [*]))))
theorem Zb7 (n m:Nod) (hm:m.l.length≤8796093022207):Qag prog 306 [.agg (nodA n),.agg (nodA m)] (aI (Qgm n m)):=by
 exact Qac func306 (
 .new fun b1=>.new fun b2=>.r 1<|.ord [0,1,2,3,4,5,6,7,8,9,10,11]<|.u 12 [b1,b1,b2]<|
 .ord [0,1,2,3,5,11,4,6,7,8,9,10,12,13,14,15,16]<|.r 2<|.br 18 (!((n.kind==2)==(m.kind==2))) (fun q1=>have q1:=notT q1;have p1:=beqF q1;.u 4 [b2]<|
 .call (Qbc (n.kind==2) 8)<|
 .r 1<|.is 23 (show (!((n.kind==2)==(m.kind==2)))=true from by rw [q1];rfl)<|.r 3<|.call (Qbc (!(n.kind==2)) 9)<|
 .call (Qm4 m hm)<|
 .call (Qbc (Qdi m) 11)<|
 .r 1<|.cs (args0:=[.sl 1 true ([[aI (Qae (n.kind==2) 8)],[aI (Qae (!(n.kind==2)) 9)],[aI (Qae (Qdi m) 11)]])]) (Qcg [(Qae (n.kind==2) 8),(Qae (!(n.kind==2)) 9),(Qae (Qdi m) 11)] (by simp)) ⟨Qm9 (Qae (n.kind==2) 8) (Qae (!(n.kind==2)) 9) (Qae (Qdi m) 11),trivial⟩<|
 .r 1<|.f (aI (Qgm n m)) [] (aI (Qar [(Qae (n.kind==2) 8),(Qae (!(n.kind==2)) 9),(Qae (Qdi m) 11)])) (by exact W2n (W1y aI (by unfold Qgm;simp only [bne,q1];rfl))))
 <| fun q1=>have q1:=notF q1;have p1:=beqT q1;.u 4 [b2]<|
 .call (Qbc false 8)<|
 .r 1<|.is 23 (show (!((n.kind==2)==(m.kind==2)))=false from by rw [q1];rfl)<|.r 3<|.call (Qbc false 9)<|
 .call (Qm4 m hm)<|
 .call (Qbc (Qdi m) 11)<|
 .r 1<|.cs (args0:=[.sl 1 true ([[aI (Qae false 8)],[aI (Qae false 9)],[aI (Qae (Qdi m) 11)]])]) (Qcg [(Qae false 8),(Qae false 9),(Qae (Qdi m) 11)] (by simp)) ⟨Qm9 (Qae false 8) (Qae false 9) (Qae (Qdi m) 11),trivial⟩<|
 .r 1<|.f (aI (Qgm n m)) [] (aI (Qar [(Qae false 8),(Qae false 9),(Qae (Qdi m) 11)])) (by exact W2n (W1y aI (by unfold Qgm;simp only [bne,q1];rfl))))
end Go.Proofs.YtkhodpknpligpaaGreat

namespace Go.Proofs.YtkhodpknpligpaaGreat
open Go Go.RowKit Copyhold Go.Proofs.Tryz
open Copyhold.Name (Srt insE delE getE isAt)
theorem Quu {l:List NEnt} (h:Srt l) {x:NEnt}:x∈l↔getE l x.1=some x.2:=by
 unfold getE;constructor
 ·intro hx;have key:∀ l:List NEnt,Srt l→x∈l→l.find? (fun y=>y.1==x.1)=some x:=by
   intro l
   induction l with
   | nil=>intro _ h;cases h
   | cons a r ih=>
    intro hs hm;rw [W1e];rcases W0y.1 hm with e | hm
    ·rw [← e];simp
    ·have hlt:=Name.Srt.head hs x hm;have hne:(a.1==x.1)=false:=by
      cases hc:a.1==x.1 with
      | false=>rfl
      | true=>rw [beq_iff_eq.1 hc] at hlt;exact absurd hlt (fun h=>Name.ltI h)
     rw [hne];exact ih (Name.Srt.tail hs) hm
  rw [key l h hx];rfl
 ·intro hx;cases hf:l.find? (fun y=>y.1==x.1) with
  | none=>rw [hf] at hx;cases hx
  | some y=>
   rw [hf] at hx;have h1:y.1=x.1:=by simpa using List.find?_some hf
   have h2:y.2=x.2:=W0c hx;have:y=x:=Prod.ext h1 h2;exact this ▸ W1n hf
theorem Za9:∀ {a b:List NEnt},Srt a→Srt b→(∀ x,x∈a↔x∈b)→a=b
 | [],[],_,_,_=>rfl
 | [],y :: s,_,_,h=>absurd ((h y).2 (by simp)) (by simp)
 | x :: r,[],_,_,h=>absurd ((h x).1 (by simp)) (by simp)
 | x :: r,y :: s,ha,hb,h=>by
  have e:x=y:=by
   rcases W0y.1 ((h x).1 (by simp)) with e | e
   ·exact e
   ·rcases W0y.1 ((h y).2 (by simp)) with e2 | e2
    ·exact e2.symm
    ·exact absurd (Name.ltT (Name.Srt.head hb x e) (Name.Srt.head ha y e2)) (fun h=>Name.ltI h)
  subst e;rw [Za9 (Name.Srt.tail ha) (Name.Srt.tail hb) fun z=>⟨fun hz=>?_,fun hz=>?_⟩]
  ·rcases W0y.1 ((h z).1 (by simp [hz])) with e | e
   ·have:=Name.Srt.head ha z hz;rw [e] at this;exact absurd this (fun h=>Name.ltI h)
   ·exact e
  ·rcases W0y.1 ((h z).2 (by simp [hz])) with e | e
   ·have:=Name.Srt.head hb z hz;rw [e] at this;exact absurd this (fun h=>Name.ltI h)
   ·exact e
theorem Zlm {a b:List Ent} (ha:Srt (lI a)) (hb:Srt (lI b)) (h:∀ t,getE (lI a) t=getE (lI b) t):a=b:=
 Zke (Za9 ha hb fun x=>by rw [Quu ha,Quu hb,h])
theorem Qlq {l:List Ent} {s:Txt} {j:Int} (h:Srt (lI l)) (hj:getE (lI l) s=some j):(delL l s).length+1=l.length:=by
 have hi:isB l s=true:=by rw [Qgp,hj];rfl
 have:=Qpt h hi;unfold delL;rw [W1x hi];simp only [W0e,W0g,W0p];omega
theorem Qu7 {l:List Ent} {s:Txt} (h:Srt (lI l)):isB (delL l s) s=false:=by rw [Qgp,get_del h,W1x rfl];rfl
theorem Zmj {l:List Ent} {s:Txt} {j:Int} (h:rowP l) (hc:Qaj s=0) (hn:1≤j) (hj:getE (lI l) s=some j):entL (delL l s) s j=l:=by
 have hs:=Qc4 h;have hd:=Qc4 (Zer (s:=s) h);have hl:=Qlq hs hj;have hlen:=h.1;have he:=Qdg (l:=delL l s) (n:=j) hc hn (Qu7 hs) (by omega);refine Zlm ?_ hs fun t=>?_
 ·rw [Qsb hd he];exact Name.srt_ins hd (Qu7 hs)
 ·rw [Qqf hd he (Qu7 hs),get_del hs]
  split
  ·rename_i e;rw [e,hj]
  ·rfl
theorem Qks {l:List Ent} {s:Txt} {j:Int} (h:Srt (lI l)) (hj:getE (lI l) s=some j):∃ e∈l,e.name=s∧e.ino=j:=by
 have:=(Quu h (x:=((s,j):NEnt))).2 hj;unfold lI at this;obtain ⟨e,he,h2⟩:=W1i.1 this;exact ⟨e,he,W1y Prod.fst h2,W1y Prod.snd h2⟩
theorem Zbg {f:Fsy} {i:Int} {d:Nod} {l:List Ent} (okf:OkF f) (hp:Qat f) (hd:atF f i=some d) (hl:l.length≤1000000) (he:∀ e∈l,OkE e):OkF (setL f d l):=by
 have okd:=okf.2.2 d (Qdh hd);have h2:=(Qbf hp hd).2.1;obtain ⟨hf,hf2⟩:=okf.1;have h256:f.l.length≤256:=hp.1;exact Qoi okf ⟨okd.1,okd.2.1,okd.2.2.1,okd.2.2.2.1,by show l.length≤_;omega,he⟩ (by show d.ino<_;omega) (by omega)
theorem Qqq {l:List Ent} {s:Txt}:∀ e∈delL l s,e∈l:=fun e he=>by
 unfold delL at he
 split at he
 ·rcases W04.1 he with h | h
  ·exact W13 h
  ·exact W2d h
 ·exact he
theorem Zed {l:List Ent} {s:Txt} {n:Int}:∀ e∈entL l s n,e=⟨s,n⟩∨e∈l:=fun e he=>by
 unfold entL at he
 split at he
 ·rcases W04.1 he with h | h
  ·exact .inr (W13 h)
  ·rcases W0y.1 h with h | h
   ·exact .inl h
   ·exact .inr (W2d h)
 ·exact .inr he
theorem Qfm {f:Fsy} {dir:Int} {s:Txt} {d:Nod} (okf:OkF f) (hp:Qat f) (hd:atF f dir=some d) (hk:d.kind=2) :
  OkF (leaveF f dir s)∧Qat (leaveF f dir s)∧(leaveF f dir s).l.length=f.l.length∧(leaveF f dir s).next=f.next∧∀ j,atF (leaveF f dir s) j=if j=dir then some (Qbj d (delL d.l s)) else atF f j:=by
 have hrow:=(Qdr (Qbf hp hd).1 hk).2;have okd:=okf.2.2 d (Qdh hd);have hlen:=hrow.1;have:=Qu6 (l:=d.l) (s:=s);rw [Qjc hd];obtain ⟨s1,s2,s3,s4⟩:=Qew hp hd hk (Zer (s:=s) hrow);exact ⟨Zbg okf hp hd (by omega) (fun e he=>okd.2.2.2.2.2 e (Qqq e he)),s1,s2,s3,s4⟩
theorem Qsu {f:Fsy} {dir:Int} {s:Txt} {i:Int} {d:Nod} (okf:OkF f) (hp:Qat f) (hd:atF f dir=some d) (hk:d.kind=2) (hc:Qaj s=0) (hs:s.length≤1000000) (hi:1≤i) (hi2:I64 i) (hb:isB d.l s=false) (hl:d.l.length<256) :
  OkF (enterF f dir s i)∧Qat (enterF f dir s i)∧(enterF f dir s i).l.length=f.l.length∧(enterF f dir s i).next=f.next∧∀ j,atF (enterF f dir s i) j=if j=dir then some (Qbj d (entL d.l s i)) else atF f j:=by
 have hrow:=(Qdr (Qbf hp hd).1 hk).2;have okd:=okf.2.2 d (Qdh hd);have:=Qne (l:=d.l) (s:=s) (n:=i);rw [Qdq hd];obtain ⟨s1,s2,s3,s4⟩:=Qew hp hd hk (Qqo hrow hc hi hb hl);exact ⟨Zbg okf hp hd (by omega) (fun e he=>by
  rcases Zed e he with rfl | he
  ·exact ⟨by show s.length≤_;omega,hi2⟩
  ·exact okd.2.2.2.2.2 e he),s1,s2,s3,s4⟩
theorem Qqy {f:Fsy} {dir:Int} {s:Txt} {d n:Nod} (okf:OkF f) (hp:Qat f) (hd:atF f dir=some d) (hk:d.kind=2) (hn:atF f n.ino=some n∨n=nod0) :
  OkF (Qb6 f dir s n)∧Qat (Qb6 f dir s n)∧(Qb6 f dir s n).l.length≤f.l.length∧(Qb6 f dir s n).next=f.next∧∀ j,atF (Qb6 f dir s n) j=if j=n.ino then (if n.links-1<1 then none else some (Qkd n)) else if j=dir then some (Qbj d (delL d.l s)) else atF f j:=by
 obtain ⟨l1,l2,l3,l4,l5⟩:=Qfm (s:=s) okf hp hd hk;unfold Qb6;by_cases hl:n.links-1<1
 ·simp only [hl,if_true];refine ⟨out_ok l1 (Qah l2),Qwp l2,by have:=Qug (leaveF f dir s).l n.ino;show (outN (leaveF f dir s).l n.ino).length≤_;omega,l4,fun j=>?_⟩;rw [Qx5 (Qah l2),l5]
 ·simp only [hl,if_false];have hnn:atF f n.ino=some n:=hn.resolve_right (fun e=>by rw [e] at hl;exact hl (by decide));obtain ⟨n1,n2,n3⟩:=Qbf hp hnn;have hthere:∃ m,atF (leaveF f dir s) n.ino=some m:=by
   rw [l5]
   split
   ·exact ⟨_,rfl⟩
   ·exact ⟨_,hnn⟩
  obtain ⟨m,hm⟩:=hthere;have hN:nodP (Qkd n):=⟨n1.1,by show 0≤n.links-1;omega,by have:=n1.2.2.1;show n.links-1≤64;omega,n1.2.2.2⟩
  obtain ⟨p1,p2,p3,p4⟩:=Qiz (n:=Qkd n) l2 hm rfl hN;have okn:=okf.2.2 n (Qdh hnn);obtain ⟨hf,hf2⟩:=okf.1;have h256:(leaveF f dir s).l.length≤256:=l2.1;refine ⟨Qoi l1 ⟨okn.1,okn.2.1,⟨by show _≤n.links-1;omega,by have:=n1.2.2.1;show n.links-1≤_;omega⟩,okn.2.2.2⟩ (by show n.ino<_;omega) (by omega),p1,by rw [p2,l3];exact W0m _,by rw [p3,l4],fun j=>?_⟩;rw [p4,l5]
end Go.Proofs.YtkhodpknpligpaaGreat

namespace Go.Proofs.YtkhodpknpligpaaGreat
open Go Go.RowKit Copyhold Go.Proofs.Tryz
open Copyhold.Name (Srt insE delE getE isAt)
noncomputable def mov0 (f:Fsy) (dir:Int) (s:Txt) (to:Int) (t:Txt) (n:Nod) (th:Bool) (m:Nod):Fsy:=enterF (leaveF (if th=true then Qb6 f to t m else f) dir s) to t n.ino
noncomputable def mov1 (f:Fsy) (dir:Int) (s:Txt) (to:Int) (t:Txt):Int:=Qar [Qb8 f dir s,dirE f to,Qaj t,Qae (Qca f to (lookN f dir s)) 13]
def movI (f:Fsy) (to:Int) (t:Txt):Int:=getI (dirN f to).l t
def movB (f:Fsy) (to:Int) (t:Txt):Bool:=isB (dirN f to).l t
noncomputable def mov2 (f:Fsy) (dir:Int) (s:Txt) (to:Int) (t:Txt):Int:=if movB f to t=false then Qae ((to != dir)&&decide (((dirN f to).l.length:Int)≥256)) 12 else if movI f to t=(lookN f dir s).ino then 0 else Qgm (lookN f dir s) (Qab f (movI f to t))
noncomputable def Qdt (f:Fsy) (dir:Int) (s:Txt) (to:Int) (t:Txt):Int:=if mov1 f dir s to t=0 then mov2 f dir s to t else mov1 f dir s to t
noncomputable def movF (f:Fsy) (dir:Int) (s:Txt) (to:Int) (t:Txt):Fsy:=if mov1 f dir s to t=0 then (if movB f to t=true∧movI f to t=(lookN f dir s).ino then f else if mov2 f dir s to t=0 then mov0 f dir s to t (lookN f dir s) (movB f to t) (Qab f (movI f to t)) else f) else f
def MovH (f:Fsy) (dir:Int) (s:Txt) (to:Int) (t:Txt) (th:Bool) (m:Nod):Prop:=
 (th=true→OkF (Qb6 f to t m)∧Qat (Qb6 f to t m)∧OkF (leaveF (Qb6 f to t m) dir s)∧Qat (leaveF (Qb6 f to t m) dir s))∧(th=false→OkF (leaveF f dir s)∧Qat (leaveF f dir s))
structure MovP (f:Fsy) (a:Int) (s:Txt) (b:Int) (t:Txt) (d dt n:Nod) (j:Int):Prop where
 dir:atF f a=some d
 kind:d.kind=2
 chk:Qaj s=0
 ent:getE (lI d.l) s=some j
 node:atF f j=some n
 look:lookN f a s=n
 to:atF f b=some dt
 kindt:dt.kind=2
 chkt:Qaj t=0
 apart:Qca f b n=false
theorem Zkj {a b c d:Int}:Qar [a,b,c,d]=if a=0 then (if b=0 then (if c=0 then d else c) else b) else a:=by
 unfold Qar;by_cases h:a=0<;>by_cases h2:b=0<;>by_cases h3:c=0<;>by_cases h4:d=0<;>simp [h,h2,h3,h4]
theorem Zj7 {f:Fsy} {dir:Int} {s:Txt} {to:Int} {t:Txt} (hp:Qat f) (h:mov1 f dir s to t=0):∃ d dt n j,MovP f dir s to t d dt n j:=by
 unfold mov1 at h;rw [Zkj] at h
 split at h
 ·rename_i h1
  split at h
  ·rename_i h2
   split at h
   ·rename_i h3;obtain ⟨d,j,n,a1,a2,a3,a4,a5⟩:=(Qw1 hp).1 h1;obtain ⟨dt,b1,b2,_⟩:=Qx6 h2;have hn:=(Qj3 a1 a2 a3 a4 a5).2;rw [Qts (by decide),hn] at h;exact ⟨d,dt,n,j,a1,a2,a3,a4,a5,hn,b1,b2,h3,h⟩
   ·exact absurd h (by assumption)
  ·exact absurd h (by assumption)
 ·exact absurd h (by assumption)
theorem MovP.nino {f:Fsy} {dir:Int} {s:Txt} {to:Int} {t:Txt} {d dt n:Nod} {j:Int} (A:MovP f dir s to t d dt n j):n.ino=j:=Qei A.node
theorem MovP.mB {f:Fsy} {dir:Int} {s:Txt} {to:Int} {t:Txt} {d dt n:Nod} {j:Int} (A:MovP f dir s to t d dt n j):movB f to t=isB dt.l t∧movI f to t=getI dt.l t∧dirN f to=dt:=by
 have e:=(Qsv A.to A.kindt).2;unfold movB movI;rw [e];exact ⟨rfl,rfl,rfl⟩
theorem Qr4 {n m:Nod} (h:Qgm n m=0):Qdi m=false∧(m.kind=2↔n.kind=2):=by
 unfold Qgm at h;rw [Qss] at h
 split at h
 ·rename_i h1
  split at h
  ·rename_i h2;rw [Qts (by decide)] at h h1 h2;refine ⟨h,?_⟩;by_cases hn:n.kind=2<;>by_cases hm:m.kind=2<;>simp_all
  ·exact absurd h (by assumption)
 ·exact absurd h (by assumption)
theorem Qm5 {m:Nod} (h:Qdi m=false) (hk:m.kind=2):m.l=[]:=by
 unfold Qdi at h;simp only [hk,beq_self_eq_true,Bool.true_and,decide_eq_false_iff_not] at h;exact W0l (by omega)
theorem Qr8 {f:Fsy} {dir:Int} {s:Txt} {to:Int} {t:Txt} {d dt n:Nod} {j:Int} (hp:Qat f) (A:MovP f dir s to t d dt n j) (hb:isB dt.l t=true) (ho:Qgm n (Qab f (getI dt.l t))=0) :
  (atF f (Qab f (getI dt.l t)).ino=some (Qab f (getI dt.l t))∨Qab f (getI dt.l t)=nod0)∧¬ (Qab f (getI dt.l t)).ino=dir∧¬ (Qab f (getI dt.l t)).ino=to:=by
 obtain ⟨h1,h2⟩:=Qr4 ho;have hx:atF f (Qab f (getI dt.l t)).ino=some (Qab f (getI dt.l t))∨Qab f (getI dt.l t)=nod0:=by
  by_cases hf:Qav f (getI dt.l t)=true
  ·left;have:=Qf7 hf;rw [Qei this];exact this
  ·right;exact (Qvu (Qg4 (by simpa using hf))).2
 refine ⟨hx,fun e=>?_,fun e=>?_⟩
 ·rcases hx with hx | hx
  ·rw [e,A.dir] at hx;have hd:=W0c hx;rw [← hd] at h1;have:=Qm5 h1 A.kind;have g:=A.ent;rw [this] at g;cases g
  ·have:=(Qbf hp A.dir).1.1;have h3:=(Qbf hp A.dir).2.2;rw [hx] at e;have:nod0.ino=0:=rfl;omega
 ·rcases hx with hx | hx
  ·rw [e,A.to] at hx;have hd:=W0c hx;rw [← hd] at h1;have:=Qm5 h1 A.kindt;rw [this] at hb;cases hb
  ·have:=(Qbf hp A.to).1.1;have h3:=(Qbf hp A.to).2.2;rw [hx] at e;have:nod0.ino=0:=rfl;omega
theorem Zl6 {f:Fsy} {dir:Int} {s:Txt} {to:Int} {t:Txt} (okf:OkF f) (hp:Qat f) (h1:mov1 f dir s to t=0) (h2:movB f to t=true→Qgm (lookN f dir s) (Qab f (movI f to t))=0):MovH f dir s to t (movB f to t) (Qab f (movI f to t)):=by
 obtain ⟨d,dt,n,j,A⟩:=Zj7 hp h1;obtain ⟨e1,e2,e3⟩:=A.mB;refine ⟨fun hb=>?_,fun _=>?_⟩
 ·have ho:=h2 hb;rw [e1] at hb;rw [A.look,e2] at ho;rw [e2];obtain ⟨hx,hd,ht⟩:=Qr8 hp A hb ho;obtain ⟨w1,w2,w3,w4,w5⟩:=Qqy (s:=t) okf hp A.to A.kindt hx;have hdir:∃ d',atF (Qb6 f to t (Qab f (getI dt.l t))) dir=some d'∧d'.kind=2:=by
   rw [w5,W1w (fun e=>hd e.symm)]
   split
   ·exact ⟨_,rfl,A.kindt⟩
   ·exact ⟨d,A.dir,A.kind⟩
  obtain ⟨d',g1,g2⟩:=hdir;obtain ⟨l1,l2,_⟩:=Qfm (s:=s) w1 w2 g1 g2;exact ⟨w1,w2,l1,l2⟩
 ·obtain ⟨l1,l2,_⟩:=Qfm (s:=s) okf hp A.dir A.kind;exact ⟨l1,l2⟩
theorem Qzf (f:Fsy) (dir:Int) (s:Txt) (to:Int) (t:Txt) (n:Nod) (th:Bool) (m:Nod) (okf:OkF f) (hp:Qat f) (hs:s.length≤1000000) (ht:t.length≤1000000) (hn:I64 n.ino) (hm:I64 m.ino∧m.ino<9223372036854775807) (hk:0≤m.links∧m.links≤1000) (H:MovH f dir s to t th m):Qag prog 307 [.dptr (fsyA f),.dptr [aB th],.dptr [aI to],.dptr [aS t],.dptr (nodA m),.dptr [aI dir],.dptr [aS s],.dptr (nodA n)] (.agg (fsyA (mov0 f dir s to t n th m))):=by
 exact Qac func307 (
 .new fun b1=>.r 1<|.new fun b2=>.u 1 [b2]<|
 .r 1<|.br 11 (th) (fun q1=>have p1:=booT q1;.u 4 [b2]<|
 .call (Qtf f to t m okf hp ht hm hk)<|
 .u 1 [b2]<|
 .ord [0,1,2,4,5,6,7,3,8,9]<|.u 7 [b2]<|
 .call (Qie (Qb6 f to t m) dir s (H.1 q1).1 (H.1 q1).2.1 hs)<|
 .call (Qf2 (leaveF (Qb6 f to t m) dir s) to t n.ino (H.1 q1).2.2.1 (H.1 q1).2.2.2 ht hn)<|
 .u 1 [b1]<|
 .f (.agg (fsyA (mov0 f dir s to t n th m))) [b1] (.agg [.sl 5 false ((enterF (leaveF (Qb6 f to t m) dir s) to t n.ino).l.map nodA),aI ((enterF (leaveF (Qb6 f to t m) dir s) to t n.ino).next)]) (by
  have e:mov0 f dir s to t n th m=enterF (leaveF (Qb6 f to t m) dir s) to t n.ino:=by unfold mov0;rw [W1x q1]
  rw [e];exact sR))
 <| fun q1=>have p1:=booF q1;.ord [0,1,2,4,5,6,7,3,8,9]<|.u 7 [b2]<|
 .call (Qie f dir s okf hp hs)<|
 .call (Qf2 (leaveF f dir s) to t n.ino (H.2 q1).1 (H.2 q1).2 ht hn)<|
 .u 1 [b1]<|
 .f (.agg (fsyA (mov0 f dir s to t n th m))) [b1] (.agg [.sl 5 false ((enterF (leaveF f dir s) to t n.ino).l.map nodA),aI ((enterF (leaveF f dir s) to t n.ino).next)]) (by
  have e:mov0 f dir s to t n th m=enterF (leaveF f dir s) to t n.ino:=by unfold mov0;rw [W1w (by rw [q1];decide)]
  rw [e];exact sR))
theorem Qgf (e:Int) (f:Fsy) (dir:Int) (s:Txt) (to:Int) (t:Txt) (n:Nod) (th:Bool) (m:Nod) (okf:OkF f) (hp:Qat f) (hs:s.length≤1000000) (ht:t.length≤1000000) (hn:I64 n.ino) (hm:I64 m.ino∧m.ino<9223372036854775807) (hk:0≤m.links∧m.links≤1000) (H:e=0→MovH f dir s to t th m):Qag prog 302 [.agg (fsyA f),aI e,.clo 307 [.dptr (fsyA f),.dptr [aB th],.dptr [aI to],.dptr [aS t],.dptr (nodA m),.dptr [aI dir],.dptr [aS s],.dptr (nodA n)]] (.tup [.agg (fsyA (if e=0 then mov0 f dir s to t n th m else f)),aI e]):=by
 exact Qac func302 (
 .new fun b1=>.new fun b2=>.r 1<|.r 2<|.br 9 (e != 0) (fun q1=>have p1:=bneT q1;.u 4 [b1,b2]<|
 .f (.tup [.agg (fsyA (if e=0 then mov0 f dir s to t n th m else f)),aI e]) [b2] (.tup [.agg (fsyA f),aI e]) (by
  rw [W1w (show ¬ e=0 from by omega)];exact sR))
 <| fun q1=>have p1:=bneF q1;.r 1<|.call (Qzf f dir s to t n th m okf hp hs ht hn hm hk (H (by simpa using q1)))<|
 .u 2 [b2]<|
 .f (.tup [.agg (fsyA (if e=0 then mov0 f dir s to t n th m else f)),aI e]) [b2] (.tup [.agg [.sl 5 false ((mov0 f dir s to t n th m).l.map nodA),aI ((mov0 f dir s to t n th m).next)],aI 0]) (by
  rw [W1x (show e=0 from by omega),show e=0 from by omega];exact sR))
end Go.Proofs.YtkhodpknpligpaaGreat

namespace Go.Proofs.YtkhodpknpligpaaGreat
open Go Go.RowKit Copyhold Go.Proofs.Tryz
theorem Zcw (f:Fsy) (dir:Int) (s:Txt) (to:Int) (t:Txt) (okf:OkF f) (hp:Qat f) (hs:s.length≤1000000) (ht:t.length≤1000000):Qag prog 274 [.agg (fsyA f),aI dir,aS s,aI to,aS t] (.tup [.agg (fsyA (movF f dir s to t)),aI (Qdt f dir s to t)]):=by
 have hl:=hp.1;have hr:=Qah hp;exact Qac func274 (
 .new fun b1=>.new fun b2=>.new fun b3=>.new fun b4=>.new fun b5=>.new fun b6=>.r 1<|.u 3 [b1,b2,b3]<|
 .call (Qjb f dir s hp hs)<|
 .r 3<|.new fun b7=>.u 2 [b7]<|
 .u 2 [b1,b4]<|
 .call (Qhr f to hp)<|
 .r 3<|.new fun b8=>.u 2 [b8]<|
 .ord [0,1,2,4,5,6,3,7,8,9,10,11]<|.u 6 [b5,b1,b4,b7]<|
 .call (Qer t (by omega))<|
 .call (Qtr f to (lookN f dir s) okf (by omega) hr)<|
 .call (Qbc (Qca f to (lookN f dir s)) 13)<|
 .r 1<|.cs (args0:=[.sl 1 true ([[aI (Qb8 f dir s)],[aI (dirE f to)],[aI (Qaj t)],[aI (Qae (Qca f to (lookN f dir s)) 13)]])]) (Qcg [(Qb8 f dir s),(dirE f to),(Qaj t),(Qae (Qca f to (lookN f dir s)) 13)] (by simp)) ⟨Qzu (Qb8 f dir s) (dirE f to) (Qaj t) (Qae (Qca f to (lookN f dir s)) 13),trivial⟩<|
 .r 1<|.r 2<|.br 45 ((Qar [(Qb8 f dir s),(dirE f to),(Qaj t),(Qae (Qca f to (lookN f dir s)) 13)]) != 0) (fun q1=>have p1:=bneT q1;.u 4 [b1,b6]<|
 .f (.tup [.agg (fsyA (movF f dir s to t)),aI (Qdt f dir s to t)]) [b6] (.tup [.agg (fsyA f),aI (Qar [(Qb8 f dir s),(dirE f to),(Qaj t),(Qae (Qca f to (lookN f dir s)) 13)])]) (by
  have h1:¬ mov1 f dir s to t=0:=(bneT q1)
  have e1:Qdt f dir s to t=mov1 f dir s to t:=W1w h1;have e2:movF f dir s to t=f:=W1w h1;rw [e1,e2];exact sR))
 <| fun q1=>have p1:=bneF q1;.u 3 [b8,b5]<|
 .call (Qfk ((dirN f to).l) t (by have:=(Qef hp to).2;omega) (Qef hp to).1)<|
 .r 3<|.new fun b9=>.u 2 [b9]<|
 .u 2 [b1]<|
 .call (Qce f (getI ((dirN f to).l) t) (by omega) hr)<|
 .r 3<|.new fun b10=>.u 2 [b10]<|
 .u 3 [b9]<|
 .br 64 (!(isB ((dirN f to).l) t)) (fun q2=>have q2:=notT q2;have p2:=booF q2;.u 4 [b4,b2]<|
 .br 70 (to != dir) (fun q3=>have p3:=bneT q3;.u 3 [b8]<|
 .lm 73 ((dirN f to).l) entA<|.r 2<|.call (Qbc (decide ((((dirN f to).l).length:Int)≥256)) 12)<|
 .r 1<|.frz 5 [5,6,7,8,9,10,11,12,13,17,18,45,64,70] [6,7,8,9,10,12,17,18] [b1=b1] rt1<|
 .frz 17 [5,6,7,8,9,10,11,12,13,17,18,45,64,70] [6,7,8,9,10,12,18] [b9=b9] rt1<|
 .frz 8 [5,6,7,8,9,10,11,12,13,17,18,45,64,70] [6,7,9,10,12,18] [b4=b4] rt1<|
 .frz 9 [5,6,7,8,9,10,11,12,13,17,18,45,64,70] [6,7,10,12,18] [b5=b5] rt1<|
 .frz 18 [5,6,7,8,9,10,11,12,13,17,18,45,64,70] [6,7,10,12] [b10=b10] rt1<|
 .frz 6 [5,6,7,8,9,10,11,12,13,17,18,45,64,70] [7,10,12] [b2=b2] rt1<|
 .frz 7 [5,6,7,8,9,10,11,12,13,17,18,45,64,70] [10,12] [b3=b3] rt1<|
 .frz 12 [5,6,7,8,9,10,11,12,13,17,18,45,64,70] [10] [b7=b7] rt1<|
 .r 3<|.cs (args0:=[.agg (fsyA f),aI (Qae (decide ((((dirN f to).l).length:Int)≥256)) 12),.clo 307 [.dptr (fsyA f),.dptr [aB (isB ((dirN f to).l) t)],.dptr [aI to],.dptr [aS t],.dptr [aI ((Qab f (getI ((dirN f to).l) t)).ino),aI ((Qab f (getI ((dirN f to).l) t)).kind),aI ((Qab f (getI ((dirN f to).l) t)).links),aS ((Qab f (getI ((dirN f to).l) t)).text),.sl 2 false ((Qab f (getI ((dirN f to).l) t)).l.map entA)],.dptr [aI dir],.dptr [aS s],.dptr [aI ((lookN f dir s).ino),aI ((lookN f dir s).kind),aI ((lookN f dir s).links),aS ((lookN f dir s).text),.sl 2 false ((lookN f dir s).l.map entA)]]]) (Qgf (Qae (decide ((((dirN f to).l).length:Int)≥256)) 12) f dir s to t (lookN f dir s) (isB ((dirN f to).l) t) (Qab f (getI (dirN f to).l t)) okf hp hs ht (Qd7 okf hp).1.1 (Qdp okf hp _) (by have:=Qfn hp (getI (dirN f to).l t);omega) (fun he=>Zl6 okf hp (show mov1 f dir s to t=0 from bneF q1) (fun hb=>absurd hb (by show ¬ isB (dirN f to).l t=true;rw [q2];decide)))) sr3<|
 .u 4 [b6]<|
 .f (.tup [.agg (fsyA (movF f dir s to t)),aI (Qdt f dir s to t)]) [b6] (.tup [.agg [.sl 5 false ((if Qae (decide ((((dirN f to).l).length:Int)≥256)) 12=0 then mov0 f dir s to t (lookN f dir s) (isB ((dirN f to).l) t) (Qab f (getI (dirN f to).l t)) else f).l.map nodA),aI ((if Qae (decide ((((dirN f to).l).length:Int)≥256)) 12=0 then mov0 f dir s to t (lookN f dir s) (isB ((dirN f to).l) t) (Qab f (getI (dirN f to).l t)) else f).next)],aI (Qae (decide ((((dirN f to).l).length:Int)≥256)) 12)]) (by
  have h1:mov1 f dir s to t=0:=(bneF q1)
  have e1:Qdt f dir s to t=mov2 f dir s to t:=W1x h1;rw [e1];have hb:movB f to t=false:=q2;have e3:mov2 f dir s to t=Qae (decide ((((dirN f to).l).length:Int)≥256)) 12:=by unfold mov2;rw [W1x hb];simp only [q3];rfl
  have e2:movF f dir s to t=if mov2 f dir s to t=0 then mov0 f dir s to t (lookN f dir s) (movB f to t) (Qab f (movI f to t)) else f:=by unfold movF;rw [W1x h1,W1w (fun h=>by rw [hb] at h;cases h.1)]
  rw [e2,e3];exact sR))
 <| fun q3=>have p3:=bneF q3;.r 5<|.call (Qbc false 12)<|
 .r 1<|.frz 5 [5,6,7,8,9,10,11,12,13,17,18,45,64,70,75] [6,7,8,9,10,12,17,18] [b1=b1] rt1<|
 .frz 17 [5,6,7,8,9,10,11,12,13,17,18,45,64,70,75] [6,7,8,9,10,12,18] [b9=b9] rt1<|
 .frz 8 [5,6,7,8,9,10,11,12,13,17,18,45,64,70,75] [6,7,9,10,12,18] [b4=b4] rt1<|
 .frz 9 [5,6,7,8,9,10,11,12,13,17,18,45,64,70,75] [6,7,10,12,18] [b5=b5] rt1<|
 .frz 18 [5,6,7,8,9,10,11,12,13,17,18,45,64,70,75] [6,7,10,12] [b10=b10] rt1<|
 .frz 6 [5,6,7,8,9,10,11,12,13,17,18,45,64,70,75] [7,10,12] [b2=b2] rt1<|
 .frz 7 [5,6,7,8,9,10,11,12,13,17,18,45,64,70,75] [10,12] [b3=b3] rt1<|
 .frz 12 [5,6,7,8,9,10,11,12,13,17,18,45,64,70,75] [10] [b7=b7] rt1<|
 .r 3<|.cs (args0:=[.agg (fsyA f),aI (Qae false 12),.clo 307 [.dptr (fsyA f),.dptr [aB (isB ((dirN f to).l) t)],.dptr [aI to],.dptr [aS t],.dptr [aI ((Qab f (getI ((dirN f to).l) t)).ino),aI ((Qab f (getI ((dirN f to).l) t)).kind),aI ((Qab f (getI ((dirN f to).l) t)).links),aS ((Qab f (getI ((dirN f to).l) t)).text),.sl 2 false ((Qab f (getI ((dirN f to).l) t)).l.map entA)],.dptr [aI dir],.dptr [aS s],.dptr [aI ((lookN f dir s).ino),aI ((lookN f dir s).kind),aI ((lookN f dir s).links),aS ((lookN f dir s).text),.sl 2 false ((lookN f dir s).l.map entA)]]]) (Qgf (Qae false 12) f dir s to t (lookN f dir s) (isB ((dirN f to).l) t) (Qab f (getI (dirN f to).l t)) okf hp hs ht (Qd7 okf hp).1.1 (Qdp okf hp _) (by have:=Qfn hp (getI (dirN f to).l t);omega) (fun he=>Zl6 okf hp (show mov1 f dir s to t=0 from bneF q1) (fun hb=>absurd hb (by show ¬ isB (dirN f to).l t=true;rw [q2];decide)))) sr3<|
 .u 4 [b6]<|
 .f (.tup [.agg (fsyA (movF f dir s to t)),aI (Qdt f dir s to t)]) [b6] (.tup [.agg [.sl 5 false ((if Qae false 12=0 then mov0 f dir s to t (lookN f dir s) (isB ((dirN f to).l) t) (Qab f (getI (dirN f to).l t)) else f).l.map nodA),aI ((if Qae false 12=0 then mov0 f dir s to t (lookN f dir s) (isB ((dirN f to).l) t) (Qab f (getI (dirN f to).l t)) else f).next)],aI (Qae false 12)]) (by
  have h1:mov1 f dir s to t=0:=(bneF q1)
  have e1:Qdt f dir s to t=mov2 f dir s to t:=W1x h1;rw [e1];have hb:movB f to t=false:=q2;have e3:mov2 f dir s to t=Qae false 12:=by unfold mov2;rw [W1x hb];simp only [q3];rfl
  have e2:movF f dir s to t=if mov2 f dir s to t=0 then mov0 f dir s to t (lookN f dir s) (movB f to t) (Qab f (movI f to t)) else f:=by unfold movF;rw [W1x h1,W1w (fun h=>by rw [hb] at h;cases h.1)]
  rw [e2,e3];exact sR))
 <| fun q2=>have q2:=notF q2;have p2:=booT q2;.u 5 [b7]<|
 .br 77 ((getI ((dirN f to).l) t)==((lookN f dir s).ino)) (fun q4=>have p4:=beqT q4;.u 3 [b1,b6]<|
 .f (.tup [.agg (fsyA (movF f dir s to t)),aI (Qdt f dir s to t)]) [b6] (.tup [.agg (fsyA f),aI 0]) (by
  have h1:mov1 f dir s to t=0:=(bneF q1)
  have e1:Qdt f dir s to t=mov2 f dir s to t:=W1x h1;rw [e1];have hb:movB f to t=true:=q2;have hi:movI f to t=(lookN f dir s).ino:=(beqT q4)
  have e3:mov2 f dir s to t=0:=by unfold mov2;rw [W1w (by rw [hb];decide),W1x hi]
  have e2:movF f dir s to t=f:=by unfold movF;rw [W1x h1,W1x ⟨hb,hi⟩]
  rw [e2,e3];exact sR))
 <| fun q4=>have p4:=beqF q4;.u 2 [b7,b10]<|
 .call (Zb7 (lookN f dir s) (Qab f (getI (dirN f to).l t)) (Qf0 okf _).2.2.2.2.1)<|
 .r 1<|.frz 5 [5,6,7,8,9,10,11,12,13,17,18,45,64,77] [6,7,8,9,10,12,17,18] [b1=b1] rt1<|
 .frz 17 [5,6,7,8,9,10,11,12,13,17,18,45,64,77] [6,7,8,9,10,12,18] [b9=b9] rt1<|
 .frz 8 [5,6,7,8,9,10,11,12,13,17,18,45,64,77] [6,7,9,10,12,18] [b4=b4] rt1<|
 .frz 9 [5,6,7,8,9,10,11,12,13,17,18,45,64,77] [6,7,10,12,18] [b5=b5] rt1<|
 .frz 18 [5,6,7,8,9,10,11,12,13,17,18,45,64,77] [6,7,10,12] [b10=b10] rt1<|
 .frz 6 [5,6,7,8,9,10,11,12,13,17,18,45,64,77] [7,10,12] [b2=b2] rt1<|
 .frz 7 [5,6,7,8,9,10,11,12,13,17,18,45,64,77] [10,12] [b3=b3] rt1<|
 .frz 12 [5,6,7,8,9,10,11,12,13,17,18,45,64,77] [10] [b7=b7] rt1<|
 .r 3<|.cs (args0:=[.agg (fsyA f),aI (Qgm (lookN f dir s) (Qab f (getI (dirN f to).l t))),.clo 307 [.dptr (fsyA f),.dptr [aB (isB ((dirN f to).l) t)],.dptr [aI to],.dptr [aS t],.dptr [aI ((Qab f (getI ((dirN f to).l) t)).ino),aI ((Qab f (getI ((dirN f to).l) t)).kind),aI ((Qab f (getI ((dirN f to).l) t)).links),aS ((Qab f (getI ((dirN f to).l) t)).text),.sl 2 false ((Qab f (getI ((dirN f to).l) t)).l.map entA)],.dptr [aI dir],.dptr [aS s],.dptr [aI ((lookN f dir s).ino),aI ((lookN f dir s).kind),aI ((lookN f dir s).links),aS ((lookN f dir s).text),.sl 2 false ((lookN f dir s).l.map entA)]]]) (Qgf (Qgm (lookN f dir s) (Qab f (getI (dirN f to).l t))) f dir s to t (lookN f dir s) (isB ((dirN f to).l) t) (Qab f (getI (dirN f to).l t)) okf hp hs ht (Qd7 okf hp).1.1 (Qdp okf hp _) (by have:=Qfn hp (getI (dirN f to).l t);omega) (fun he=>Zl6 okf hp (show mov1 f dir s to t=0 from bneF q1) (fun hb=>he))) sr3<|
 .u 4 [b6]<|
 .f (.tup [.agg (fsyA (movF f dir s to t)),aI (Qdt f dir s to t)]) [b6] (.tup [.agg [.sl 5 false ((if Qgm (lookN f dir s) (Qab f (getI (dirN f to).l t))=0 then mov0 f dir s to t (lookN f dir s) (isB ((dirN f to).l) t) (Qab f (getI (dirN f to).l t)) else f).l.map nodA),aI ((if Qgm (lookN f dir s) (Qab f (getI (dirN f to).l t))=0 then mov0 f dir s to t (lookN f dir s) (isB ((dirN f to).l) t) (Qab f (getI (dirN f to).l t)) else f).next)],aI (Qgm (lookN f dir s) (Qab f (getI (dirN f to).l t)))]) (by
  have h1:mov1 f dir s to t=0:=(bneF q1)
  have e1:Qdt f dir s to t=mov2 f dir s to t:=W1x h1;rw [e1];have hb:movB f to t=true:=q2;have hi:¬ movI f to t=(lookN f dir s).ino:=(beqF q4)
  have e3:mov2 f dir s to t=Qgm (lookN f dir s) (Qab f (movI f to t)):=by unfold mov2;rw [W1w (by rw [hb];decide),W1w hi]
  have e2:movF f dir s to t=if mov2 f dir s to t=0 then mov0 f dir s to t (lookN f dir s) (movB f to t) (Qab f (movI f to t)) else f:=by unfold movF;rw [W1x h1,W1w (fun h=>hi h.2)]
  rw [e2,e3];exact sR))
end Go.Proofs.YtkhodpknpligpaaGreat
