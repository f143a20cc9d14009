import Derived.Test.YtahlldgocpabjaaGreatMrgP
import Derived.Test.YtahlldgocpabjaaGreatMrgR
set_option maxRecDepth 100000
set_option maxHeartbeats 8000000
set_option linter.unusedVariables false
set_option linter.unusedSimpArgs false
namespace Go.Proofs.YtahlldgocpabjaaGreat
open Go Go.RowKit Copyhold Go.Proofs.Tryz
def namK (z:Int) (n:Nod):Nat:=if n.kind=2 then cntE z n else 0
def nam (f:Fsy) (z:Int):Nat:=(f.l.map (namK z)).sum
theorem Zen (z:Int):∀ (l:List Ent) (L:List (Int × Nat)),cntG (Qdq L l) z=cntG L z+l.countP (isE z)
 | [],L=>rfl
 | e :: r,L=>by
  show cntG (Qdq (cntI L e.ino) r) z=_;rw [Zen z r,Zj5,List.countP_cons];unfold isE;by_cases h:e.ino=z<;>simp [h]<;>omega
theorem Zek (z:Int):∀ (l:List Nod) (L:List (Int × Nat)),cntG (Qcg L l) z=cntG L z+(l.map (namK z)).sum
 | [],L=>rfl
 | n :: r,L=>by
  show cntG (Qcg (if n.kind=2 then Qdq L n.l else L) r) z=_;rw [Zek z r];simp only [List.map_cons,List.sum_cons,namK]
  split
  ·rw [Zen];unfold cntE;omega
  ·omega
theorem Qnf (f:Fsy) (z:Int):cntG (Qbs f) z=nam f z:=by
 unfold Qbs nam;rw [Zek];simp [cntG]
theorem Qxk:∀ {L:List (Int × Nat)} {z:Int},1≤cntG L z→∃ p∈L,p.1=z
 | p :: r,z,h=>by
  unfold cntG at h
  split at h
  ·rename_i e;exact ⟨p,by simp,e⟩
  ·obtain ⟨q,hq,e⟩:=Qxk h;exact ⟨q,by simp [hq],e⟩
theorem Zel:∀ {L:List (Int × Nat)} (y:Int),(∀ p∈L,1≤p.2)→∀ p∈cntI L y,1≤p.2
 | [],y,_,p,hp=>by obtain rfl:=List.mem_singleton.1 hp;exact Nat.le_refl _
 | q :: r,y,h,p,hp=>by
  unfold cntI at hp
  split at hp
  ·rcases List.mem_cons.1 hp with rfl | hp
   ·show 1≤q.2+1;omega
   ·exact h p (by simp [hp])
  ·rcases List.mem_cons.1 hp with rfl | hp
   ·exact h p (by simp)
   ·exact Zel y (fun p hp=>h p (by simp [hp])) p hp
theorem Qxj:∀ {L:List (Int × Nat)} (y:Int),(L.map (·.1)).Nodup→((cntI L y).map (·.1)).Nodup∧∀ z,z∈(cntI L y).map (·.1)→z=y∨z∈L.map (·.1)
 | [],y,_=>⟨by simp [cntI],fun z hz=>.inl (by simpa [cntI] using hz)⟩
 | q :: r,y,h=>by
  unfold cntI
  split
  ·exact ⟨h,fun z hz=>.inr hz⟩
  ·rename_i hne;obtain ⟨h1,h2⟩:=List.nodup_cons.1 h;obtain ⟨g1,g2⟩:=Qxj y h2;refine ⟨List.nodup_cons.2 ⟨fun hm=>?_,g1⟩,fun z hz=>?_⟩
   ·rcases g2 _ hm with e | e
    ·exact hne e
    ·exact h1 e
   ·rcases List.mem_cons.1 hz with e | hz
    ·exact .inr (by simp [e])
    ·rcases g2 z hz with e | e
     ·exact .inl e
     ·exact .inr (by simp only [List.map_cons];exact List.mem_cons_of_mem _ e)
def Qj3 (L:List (Int × Nat)):Prop:=(∀ p∈L,1≤p.2)∧(L.map (·.1)).Nodup
theorem Qj3.step {L:List (Int × Nat)} (h:Qj3 L) (y:Int):Qj3 (cntI L y):=⟨Zel y h.1,(Qxj y h.2).1⟩
theorem Qj3.ents:∀ {l:List Ent} {L:List (Int × Nat)},Qj3 L→Qj3 (Qdq L l)
 | [],_,h=>h
 | e :: r,_,h=>Qj3.ents (l:=r) (h.step e.ino)
theorem Qj3.nodes:∀ {l:List Nod} {L:List (Int × Nat)},Qj3 L→Qj3 (Qcg L l)
 | [],_,h=>h
 | n :: r,L,h=>by
  show Qj3 (Qcg (if n.kind=2 then Qdq L n.l else L) r);refine Qj3.nodes ?_
  split
  ·exact h.ents
  ·exact h
theorem Qxf (f:Fsy):Qj3 (Qbs f):=Qj3.nodes ⟨fun p h=>(by cases h),List.nodup_nil⟩
theorem Zem:∀ {L:List (Int × Nat)} {p:Int × Nat},(L.map (·.1)).Nodup→p∈L→cntG L p.1=p.2
 | q :: r,p,h,hp=>by
  obtain ⟨h1,h2⟩:=List.nodup_cons.1 h;unfold cntG;rcases List.mem_cons.1 hp with rfl | hp
  ·simp
  ·rw [if_neg (fun e:q.1=p.1=>h1 (by show q.1∈r.map (·.1);rw [e];exact List.mem_map_of_mem hp))];exact Zem h2 hp
theorem Qsy {f:Fsy} {z:Int}:(∃ p∈Qbs f,p.1=z)↔1≤nam f z:=by
 rw [← Qnf];refine ⟨fun ⟨p,hp,e⟩=>?_,Qxk⟩;rw [← e,Zem (Qxf f).2 hp];exact (Qxf f).1 p hp
theorem Qj8 {α:Type} {g:α→Nat}:∀ {l:List α} {x:α},x∈l→g x≤(l.map g).sum
 | y :: r,x,h=>by
  have hs:((y :: r).map g).sum=g y+(r.map g).sum:=by simp
  rw [hs];rcases List.mem_cons.1 h with e | h
  ·rw [e];omega
  ·have:=Qj8 (g:=g) h;omega
theorem Zaa {α:Type} {g:α→Nat}:∀ {l:List α} {x y:α},x∈l→y∈l→x ≠ y→g x+g y≤(l.map g).sum
 | z :: r,x,y,hx,hy,hne=>by
  have hs:((z :: r).map g).sum=g z+(r.map g).sum:=by simp
  rw [hs];rcases List.mem_cons.1 hx with ex | hx<;>rcases List.mem_cons.1 hy with ey | hy
  ·exact absurd (ex.trans ey.symm) hne
  ·have:=Qj8 (g:=g) hy;rw [ex];omega
  ·have:=Qj8 (g:=g) hx;rw [ey];omega
  ·have:=Zaa (g:=g) hx hy hne;omega
theorem Qvz {α:Type} {g:α→Nat}:∀ {l:List α},1≤(l.map g).sum→∃ x∈l,1≤g x
 | z :: r,h=>by
  have hs:((z :: r).map g).sum=g z+(r.map g).sum:=by simp
  rw [hs] at h;by_cases hz:1≤g z
  ·exact ⟨z,by simp,hz⟩
  ·obtain ⟨x,hx,hg⟩:=Qvz (g:=g) (l:=r) (by omega);exact ⟨x,by simp [hx],hg⟩
theorem Qby {f:Fsy} {i:Int} {d:Nod} (h:atF f i=some d) (hk:d.kind=2):Qa4 f i=d.l.map Ent.ino:=by
 have:=(Qfl h).2;unfold Qa4;rw [this,if_pos hk]
theorem Qeb {f:Fsy} {i z:Int} (h:z∈Qa4 f i):∃ d,atF f i=some d∧d.kind=2∧∃ e∈d.l,e.ino=z:=by
 have h0:=h;unfold Qa4 at h
 split at h
 ·rename_i hk;have hb:Qau f i=true:=by
   cases hb:Qau f i with
   | true=>rfl
   | false=>exact absurd hk (Qsp hb)
  obtain ⟨e,he,hz⟩:=List.mem_map.1 h;exact ⟨_,Qfk hb,hk,e,he,hz⟩
 ·cases h
theorem Qf4 {f:Fsy} {i z:Int} {d:Nod} {e:Ent} (h:atF f i=some d) (hk:d.kind=2) (he:e∈d.l) (hz:e.ino=z):z∈Qa4 f i:=by
 rw [Qby h hk];exact List.mem_map.2 ⟨e,he,hz⟩
theorem Qjd {z:Int} {d:Nod}:1≤namK z d↔d.kind=2∧∃ e∈d.l,e.ino=z:=by
 unfold namK cntE
 split
 ·rename_i hk;rw [show (1≤d.l.countP (isE z))=(0<d.l.countP (isE z)) from rfl,List.countP_pos_iff];simp [isE,hk]
 ·rename_i hk;simp [hk]
theorem Qkg {f:Fsy} {z:Int} (hr:Qbq f.l):1≤nam f z↔∃ i,z∈Qa4 f i:=by
 constructor
 ·intro h;obtain ⟨d,hd,hg⟩:=Qvz h;obtain ⟨hk,e,he,hz⟩:=Qjd.1 hg;exact ⟨d.ino,Qf4 (Qvq hr hd) hk he hz⟩
 ·rintro ⟨i,h⟩;obtain ⟨d,hd,hk,e,he,hz⟩:=Qeb h;exact Nat.le_trans (Qjd.2 ⟨hk,e,he,hz⟩) (Qj8 (Qdi hd))
theorem Zch {f:Fsy} {z i j:Int} (hi:z∈Qa4 f i) (hj:z∈Qa4 f j) (h1:nam f z=1):i=j:=by
 obtain ⟨d,hd,hk,e,he,hz⟩:=Qeb hi;obtain ⟨d',hd',hk',e',he',hz'⟩:=Qeb hj;by_cases hne:d=d'
 ·rw [← Qc1 hd,← Qc1 hd',hne]
 ·have:=Zaa (g:=namK z) (Qdi hd) (Qdi hd') hne;have:=Qjd.2 ⟨hk,e,he,hz⟩;have:=Qjd.2 ⟨hk',e',he',hz'⟩;unfold nam at h1;omega
structure TreeP (f:Fsy):Prop where
 rows:Qam f
 root:∃ n,atF f 1=some n∧n.kind=2∧n.links=0
 cnt:∀ i n,atF f i=some n→n.links=(nam f i:Int)
 kid:∀ i z,z∈Qa4 f i→(∃ n,atF f z=some n)∧¬ z=1
 pos:∀ i n,atF f i=some n→¬ i=1→1≤n.links
 dir:∀ i n,atF f i=some n→n.kind=2→¬ i=1→n.links=1∧Reach f 1 i
theorem Qhl {f:Fsy} {a b:Int} (h:Reach f a b):∃ q,(q=a∨Reach f a q)∧b∈Qa4 f q:=by
 induction h with
 | one h=>exact ⟨_,.inl rfl,h⟩
 | @more i y z h _ ih=>
  obtain ⟨q,hq,hk⟩:=ih;refine ⟨q,.inr ?_,hk⟩;rcases hq with rfl | hq
  ·exact .one h
  ·exact .more h hq
theorem Qf2 {f:Fsy} {a b:Int} (h:Reach f a b):∃ y,y∈Qa4 f a:=by
 cases h with
 | one h=>exact ⟨_,h⟩
 | more h _=>exact ⟨_,h⟩
inductive RT (f:Fsy):Int→Prop where
 | base {z:Int}:z∈Qa4 f 1→RT f z
 | step {p z:Int}:RT f p→z∈Qa4 f p→RT f z
theorem rt_of {f:Fsy} {a b:Int} (h:Reach f a b):(a=1∨RT f a)→RT f b:=by
 induction h with
 | one h=>
  rintro (rfl | hr)
  ·exact .base h
  ·exact .step hr h
 | more h _ ih=>
  rintro (rfl | hr)
  ·exact ih (.inr (.base h))
  ·exact ih (.inr (.step hr h))
theorem TreeP.no1 {f:Fsy} (h:TreeP f) {i:Int}:¬ Reach f i 1:=fun hr=>by
 obtain ⟨q,_,hk⟩:=Qhl hr;exact (h.kid q 1 hk).2 rfl
theorem TreeP.reach {f:Fsy} (h:TreeP f) {i:Int} {n:Nod} (hn:atF f i=some n) (hi:¬ i=1):Reach f 1 i:=by
 by_cases hk:n.kind=2
 ·exact (h.dir i n hn hk hi).2
 ·have hp:=h.pos i n hn hi;rw [h.cnt i n hn] at hp;obtain ⟨q,hq⟩:=(Qkg (Qad h.rows)).1 (show 1≤nam f i by omega);by_cases h1:q=1
  ·subst h1;exact .one hq
  ·obtain ⟨d,hd,hdk,_⟩:=Qeb hq;exact (h.dir q d hd hdk h1).2.snoc hq
theorem TreeP.one {f:Fsy} (h:TreeP f) {i:Int} {n:Nod} (hn:atF f i=some n) (hk:n.kind=2) (hi:¬ i=1):nam f i=1:=by
 have h1:=(h.dir i n hn hk hi).1;rw [h.cnt i n hn] at h1;omega
theorem TreeP.acyc {f:Fsy} (h:TreeP f) {w:Int}:¬ Reach f w w:=by
 have key:∀ w,RT f w→¬ Reach f w w:=by
  intro w hw
  induction hw with
  | @base z hz=>
   intro hr;obtain ⟨q,hq,hk⟩:=Qhl hr;obtain ⟨y,hy⟩:=Qf2 hr;obtain ⟨d,hd,hdk,_⟩:=Qeb hy;have hz1:=(h.kid 1 z hz).2;have e:=Zch hk hz (h.one hd hdk hz1);subst e;rcases hq with e | hq
   ·exact hz1 e.symm
   ·exact h.no1 hq
  | @step p z hp hz ih=>
   intro hr;obtain ⟨q,hq,hk⟩:=Qhl hr;obtain ⟨y,hy⟩:=Qf2 hr;obtain ⟨d,hd,hdk,_⟩:=Qeb hy;have hz1:=(h.kid p z hz).2;have e:=Zch hk hz (h.one hd hdk hz1);subst e;rcases hq with e | hq
   ·rw [← e] at hr;exact ih hr
   ·exact ih (.more hz hq)
 intro hr;obtain ⟨q,_,hk⟩:=Qhl hr;obtain ⟨⟨n,hn⟩,h1⟩:=h.kid q w hk;exact key w (rt_of (h.reach hn h1) (.inl rfl)) hr
theorem Qjq {f:Fsy} {n:Nod} (h:f.l[0]?=some n) (hn:n.ino=1) (hr:Qbq f.l):atF f 1=some n:=by
 have:=Qvq hr (List.mem_of_getElem? h)
 rwa [hn] at this
theorem Zl1 {f:Fsy} {n0 n:Nod} {i:Int} (h0:f.l[0]?=some n0) (h1:n0.ino=1) (hn:atF f i=some n) (hi:¬ i=1):n∈f.l.drop 1:=by
 obtain ⟨j,hj⟩:=List.getElem?_of_mem (Qdi hn);cases j with
 | zero=>
  rw [h0] at hj;obtain rfl:=Option.some.inj hj;exact absurd ((Qc1 hn).symm.trans h1) hi
 | succ j=>exact List.mem_of_getElem? (i:=j) (by rw [List.getElem?_drop,Nat.add_comm];exact hj)
theorem Ze1 {f:Fsy} {n0 n:Nod} {i:Int} (hr:Qbq f.l) (h0:f.l[0]?=some n0) (h1:n0.ino=1) (hn:n∈f.l.drop 1):atF f n.ino=some n∧¬ n.ino=1:=by
 obtain ⟨j,hj⟩:=List.getElem?_of_mem hn;rw [List.getElem?_drop] at hj;refine ⟨Qvq hr (List.mem_of_getElem? hj),fun e=>?_⟩;have h:=List.pairwise_iff_getElem.1 hr;have l0:=Qan h0;have lj:=Qan hj;have g:=h 0 (1+j) l0 lj (by omega);have e0:f.l[0]=n0:=Option.some.inj ((List.getElem?_eq_getElem l0).symm.trans h0);have ej:f.l[1+j]=n:=Option.some.inj ((List.getElem?_eq_getElem lj).symm.trans hj);rw [e0,ej] at g;omega
theorem Qei {f:Fsy}:Qgp f↔TreeP f:=by
 constructor
 ·rintro ⟨h1,⟨n0,h2,h3,h4,h5⟩,h6,h7⟩;have hr:=Qad h1;have key:∀ i n,atF f i=some n→¬ i=1→Qur f 0 n:=fun i n hn hi=>by
   obtain ⟨j,hj⟩:=List.getElem?_of_mem (Zl1 h2 h3 hn hi);exact h7 j n hj
  have h1k:∀ z,1≤nam f z→keyT f z:=fun z hz=>by
   obtain ⟨p,hp,e⟩:=Qsy.2 hz;exact e ▸ h6 p hp
  refine ⟨h1,⟨n0,Qjq h2 h3 hr,h4,h5⟩,fun i n hn=>?_,fun i z hz=>?_,fun i n hn hi=>(key i n hn hi).1,fun i n hn hk hi=>?_⟩
  ·by_cases hi:i=1
   ·subst hi;rw [Qjq h2 h3 hr] at hn;obtain rfl:=Option.some.inj hn;have:¬ 1≤nam f 1:=fun h=>(h1k 1 h).2 rfl;omega
   ·have:=(key i n hn hi).2.1;rw [Qnf,Qc1 hn] at this;exact this
  ·have:=h1k z ((Qkg hr).2 ⟨i,hz⟩);exact ⟨⟨_,Qfk this.1⟩,this.2⟩
  ·have:=(key i n hn hi).2.2 hk;rw [Qc1 hn] at this;exact ⟨this.1,Qgq.1 this.2⟩
 ·intro h;have hr:=Qad h.rows;obtain ⟨n0,g1,g2,g3⟩:=h.root;obtain ⟨m0,hm0⟩:∃ m,f.l[0]?=some m:=by
   cases hl:f.l with
   | nil=>have:=Qdi g1;rw [hl] at this;cases this
   | cons x r=>exact ⟨x,rfl⟩
  have hm1:m0=n0:=by
   obtain ⟨j,hj⟩:=List.getElem?_of_mem (Qdi g1);cases j with
   | zero=>rw [hm0] at hj;exact Option.some.inj hj
   | succ j=>
    have hp:=List.pairwise_iff_getElem.1 hr;have l0:=Qan hm0;have lj:=Qan hj;have g:=hp 0 (j+1) l0 lj (by omega);have e0:f.l[0]=m0:=Option.some.inj ((List.getElem?_eq_getElem l0).symm.trans hm0);have ej:f.l[j+1]=n0:=Option.some.inj ((List.getElem?_eq_getElem lj).symm.trans hj);rw [e0,ej] at g;have:=Qc1 g1;have:=((Qbg.1 h.rows).2.2.1 m0 (List.mem_of_getElem? hm0)).1.1;have g':m0.ino<n0.ino:=g;omega
  subst hm1;have hi0:m0.ino=1:=Qc1 g1;refine ⟨h.rows,⟨m0,hm0,hi0,g2,g3⟩,fun p hp=>?_,fun j n hj=>?_⟩
  ·obtain ⟨i,hi⟩:=(Qkg hr).1 (Qsy.1 ⟨p,hp,rfl⟩);obtain ⟨⟨n,hn⟩,h2⟩:=h.kid i p.1 hi;exact ⟨(Qfl hn).1,h2⟩
  ·obtain ⟨a1,a2⟩:=Ze1 (i:=0) hr hm0 hi0 (List.mem_of_getElem? hj);exact ⟨h.pos _ n a1 a2,by rw [Qnf];exact h.cnt _ n a1,fun hk=>⟨(h.dir _ n a1 hk a2).1,Qgq.2 (h.dir _ n a1 hk a2).2⟩⟩
end Go.Proofs.YtahlldgocpabjaaGreat

namespace Go.Proofs.YtahlldgocpabjaaGreat
open Go Go.RowKit Copyhold Go.Proofs.Tryz
open Copyhold.Name (Srt insE delE getE isAt)
theorem Qpv {l:List Ent} {s:Txt} (h:Srt (lI l)) (hi:isB l s=true):posI l s<l.length:=by
 obtain ⟨x,hx,_⟩:=Name.get_pos h hi;have:=Qan hx;rw [Zc0] at this;exact this
theorem Zdk {l:List Ent} {s:Txt} {x:Ent} (h:Srt (lI l)) (hi:isB l s=true) (hx:l[posI l s]?=some x):getI l s=x.ino:=by
 obtain ⟨y,hy,_,hg⟩:=Name.get_pos h hi;rw [Qe9,hg];have:(lI l)[Name.pos (lI l) s]?=some ((x.name,x.ino):NEnt):=by
  unfold lI at hy ⊢;rw [List.getElem?_map];have hx':l[Name.pos (lI l) s]?=some x:=hx;unfold lI at hx';rw [hx'];rfl
 rw [this] at hy;obtain rfl:=Option.some.inj hy;rfl
theorem Qy3 (l:List Ent) (s:Txt) (hl:l.length≤256) (hr:Name.Srt (lI l)):Qaf prog 224 [.sl 2 false (l.map entA),aS s] (.tup [.sl 2 false ((delL l s).map entA),aI (getI l s),aI (Qgd l s)]):=by
 exact Qac func224 (
 .r 3<|.r 2<|.call (Qmk l s (by omega) hr)<|
 .r 5<|.r 2<|.br 17 (!(isB l s)) (fun q1=>have q1:=notT q1;have p1:=booF q1;.r 4<|.f (.tup [.sl 2 false ((delL l s).map entA),aI (getI l s),aI (Qgd l s)]) [] (.tup [.sl 2 false (l.map entA),aI 0,aI 6]) (by
  have e:delL l s=l:=if_neg (by rw [q1];decide);have e2:Qgd l s=6:=if_neg (by rw [q1];decide);rw [e,e2,Qqe q1];exact Sub.tups ⟨by first | exact sR | exact Sub.loose _ _ _,sR,sR,trivial⟩))
 <| fun q1=>have q1:=notF q1;have p1:=booT q1;have hlt:=Qpv hr q1;.r 2<|.lm 20 l entA<|.mk0 24 l.length (show (l.length:Int)=((l.length:Nat):Int) from by omega) (by have hq:=Qbi l s;simp<;>omega) (by have hq:=Qbi l s;simp<;>omega) fun V1=>
 .r 1<|.r 3<|.slc 2 false (l.map entA) none (some (posI l s:Int)) none 0 (posI l s) false (.inl ⟨rfl,rfl⟩) (.inr rfl) (.inl ⟨rfl,fun h=>by cases h⟩) (by have hq:=Qbi l s;first | omega | (rw [List.length_map];omega) | (simp<;>omega)) (by have hq:=Qbi l s;first | omega | (rw [List.length_map];omega) | (simp<;>omega))<|
 .app 24 V1 ([]:List (List AV)) (((l.map entA).take (posI l s)).drop 0) (by have hq:=Qbi l s;simp<;>omega) (by have hq:=Qbi l s;simp<;>omega) fun V2=>
 .r 1<|.pick [0,1,2,3,4,6,7,8,9]<|.run 4 [rng .i64 ((posI l s:Int)+1)] ⟨Qaj (by omega) (by omega),trivial⟩<|
 .slc 2 false (l.map entA) (some ((posI l s:Int)+1)) none none (posI l s+1) ((l.map entA).length) false (.inr (congrArg some (by omega))) (.inl ⟨rfl,rfl⟩) (.inl ⟨rfl,fun h=>by cases h⟩) (by have hq:=Qbi l s;first | omega | (rw [List.length_map];omega) | (simp<;>omega)) (by have hq:=Qbi l s;first | omega | (rw [List.length_map];omega) | (simp<;>omega))<|
 .r 2<|.idxM l entA (posI l s) (m:=(posI l s:Int)) rfl (Qpv hr (by assumption)) fun x1 hx1=>
 .r 1<|.fork<|.alt (.app 24 V2 (([]:List (List AV))++(((l.map entA).take (posI l s)).drop 0)) (((l.map entA).take ((l.map entA).length)).drop (posI l s+1)) (by have hq:=Qbi l s;simp<;>omega) (by have hq:=Qbi l s;simp<;>omega) fun V3=>
 .pick [10,11,12,13]<|.r 4<|.frz 21 [4,5,6] [] [V3=V3,(([]:List (List AV))++(((l.map entA).take (posI l s)).drop 0)).length+(((l.map entA).take ((l.map entA).length)).drop (posI l s+1)).length=((([]:List (List AV))++(((l.map entA).take (posI l s)).drop 0))++(((l.map entA).take ((l.map entA).length)).drop (posI l s+1))).length] ⟨rfl,(by first | rfl | (simp;done) | (simp;omega)),trivial⟩<|
 .f (.tup [.sl 2 false ((delL l s).map entA),aI (getI l s),aI (Qgd l s)]) [] (.tup [.sl 2 false ((([]:List (List AV))++(((l.map entA).take (posI l s)).drop 0))++(((l.map entA).take ((l.map entA).length)).drop (posI l s+1))),aI x1.ino,aI 0]) (by
  have e:delL l s=l.take (posI l s)++l.drop (posI l s+1):=if_pos q1;have e2:Qgd l s=0:=if_pos q1;rw [e,e2,Zdk hr q1 hx1];exact Sub.tups ⟨Sub.of_eq (congrArg (AV.sl 2 false) (by simp [entA,List.map_take,List.map_drop,Qav])),sR,sR,trivial⟩))
 <| .r 1<|.pick [5,11,12,13]<|.app 24 V2 (([]:List (List AV))++(((l.map entA).take (posI l s)).drop 0)) (((l.map entA).take ((l.map entA).length)).drop (posI l s+1)) (by have hq:=Qbi l s;simp<;>omega) (by have hq:=Qbi l s;simp<;>omega) fun V4=>
 .r 3<|.frz 21 [4,5,6] [] [V4=V4,(([]:List (List AV))++(((l.map entA).take (posI l s)).drop 0)).length+(((l.map entA).take ((l.map entA).length)).drop (posI l s+1)).length=((([]:List (List AV))++(((l.map entA).take (posI l s)).drop 0))++(((l.map entA).take ((l.map entA).length)).drop (posI l s+1))).length] ⟨rfl,(by first | rfl | (simp;done) | (simp;omega)),trivial⟩<|
 .f (.tup [.sl 2 false ((delL l s).map entA),aI (getI l s),aI (Qgd l s)]) [] (.tup [.sl 2 false ((([]:List (List AV))++(((l.map entA).take (posI l s)).drop 0))++(((l.map entA).take ((l.map entA).length)).drop (posI l s+1))),aI x1.ino,aI 0]) (by
  have e:delL l s=l.take (posI l s)++l.drop (posI l s+1):=if_pos q1;have e2:Qgd l s=0:=if_pos q1;rw [e,e2,Zdk hr q1 hx1];exact Sub.tups ⟨Sub.of_eq (congrArg (AV.sl 2 false) (by simp [entA,List.map_take,List.map_drop,Qav])),sR,sR,trivial⟩))
noncomputable def leaveF (f:Fsy) (d:Int) (s:Txt):Fsy:=putF f (Qbk (Qaa f d) (delL (Qaa f d).l s))
noncomputable def Qg7 (n:Nod):Nod:=⟨n.ino,n.kind,n.links-1,n.text,n.l⟩
noncomputable def Qbd (f:Fsy) (d:Int) (s:Txt) (n:Nod):Fsy:=if n.links-1<1 then outF (leaveF f d s) n.ino else putF (leaveF f d s) (Qg7 n)
theorem Qim (f:Fsy) (dir:Int) (s:Txt) (okf:OkF f) (hp:Qam f) (hs:s.length≤1000000):Qaf prog 191 [.agg (fsyA f),aI dir,aS s] (.agg (fsyA (leaveF f dir s))):=by
 have hl:=hp.1;have hr:=Qad hp;exact Qac func191 (let R:AV:=.agg (fsyA (leaveF f dir s));
 .new fun b1=>.new fun b2=>.u 2 [b1]<|
 .call (Qb4 f dir (by omega) hr)<|
 .r 3<|.new fun b3=>.u 2 [b3]<|
 .u 3 [b3]<|
 .call (Qy3 ((Qaa f dir).l) s (Qeg hp dir).2 (Qeg hp dir).1)<|
 .u 6 [b3]<|
 .u 2 [b1,b3]<|
 .cs (args0:=[.agg (fsyA f),.agg [aI ((Qaa f dir).ino),aI ((Qaa f dir).kind),aI ((Qaa f dir).links),aS ((Qaa f dir).text),.sl 2 false ((delL ((Qaa f dir).l) s).map entA)]]) (Qe5 f (Qbk (Qaa f dir) (delL (Qaa f dir).l s)) (Qb0 okf hp dir) (by omega) hr) sr2<|
 .u 1 [b2]<|
 .fi R [b2])
theorem Qwt (f:Fsy) (d:Int) (s:Txt):(leaveF f d s).l.length≤f.l.length+1:=Qmf _ _
theorem Qow {f:Fsy} (h:Qam f) (d:Int) (s:Txt):Qbq (leaveF f d s).l:=Qhm (Qad h)
theorem Qte (f:Fsy) (dir:Int) (s:Txt) (n:Nod) (okf:OkF f) (hp:Qam f) (hs:s.length≤1000000) (hn:I64 n.ino∧n.ino<9223372036854775807) (hk:0≤n.links∧n.links≤1000):Qaf prog 190 [.agg (fsyA f),aI dir,aS s,.agg (nodA n)] (.agg (fsyA (Qbd f dir s n))):=by
 have hl:=hp.1;have hr:=Qad hp;exact Qac func190 (
 .new fun b1=>.new fun b2=>.new fun b3=>.u 3 [b1]<|
 .call (Qim f dir s okf hp (by omega))<|
 .u 1 [b1]<|
 .run 5 [b2=b2,rng .i64 (n.links-1),b2=b2] ⟨rfl,Qaj (by omega) (by omega),rfl,trivial⟩<|
 .u 3 [b2]<|
 .bd 19 ((n.links-1)<1) (fun p1=>.u 3 [b1,b2]<|
 .call (Zgo (leaveF f dir s) n.ino (by have:=Qwt f dir s;omega) (Qow hp dir s))<|
 .u 1 [b3]<|
 .f (.agg (fsyA (Qbd f dir s n))) [b3] (.agg [.sl 5 false ((outF (leaveF f dir s) n.ino).l.map nodA),aI ((outF (leaveF f dir s) n.ino).next)]) (by
  have e:Qbd f dir s n=_:=if_pos (by omega);rw [e];exact sR))
 <| fun p1=>.u 2 [b1,b2]<|
 .cs (args0:=[.agg [.sl 5 false ((leaveF f dir s).l.map nodA),aI ((leaveF f dir s).next)],.agg [aI n.ino,aI n.kind,aI (n.links-1),aS n.text,.sl 2 false (n.l.map entA)]]) (Qe5 (leaveF f dir s) (Qg7 n) hn (by have:=Qwt f dir s;omega) (Qow hp dir s)) sr2<|
 .u 1 [b3]<|
 .f (.agg (fsyA (Qbd f dir s n))) [b3] (.agg [.sl 5 false ((putF (leaveF f dir s) (Qg7 n)).l.map nodA),aI ((putF (leaveF f dir s) (Qg7 n)).next)]) (by
  have e:Qbd f dir s n=_:=if_neg (by omega);rw [e];exact sR))
end Go.Proofs.YtahlldgocpabjaaGreat

namespace Go.Proofs.YtahlldgocpabjaaGreat
open Go Go.RowKit Copyhold Go.Proofs.Tryz
noncomputable def Qbf (f:Fsy) (d:Int) (s:Txt):Int:=Qat [Qa3 f d s,Qae (Qcw (lookN f d s)) 11]
noncomputable def Qd6 (f:Fsy) (d:Int) (s:Txt):Fsy:=if Qbf f d s=0 then Qbd f d s (lookN f d s) else f
theorem Qea {f:Fsy} {d:Int} {s:Txt} (okf:OkF f) (hp:Qam f):OkN (lookN f d s)∧(lookN f d s).ino<9223372036854775807∧0≤(lookN f d s).links∧(lookN f d s).links≤1000∧(lookN f d s).l.length≤8796093022207:=by
 unfold lookN
 split
 ·have hb:=Qb0 okf hp (Qfh f d s);have hk:=Qf6 okf (Qfh f d s);refine ⟨hk,hb.2,?_,?_,hk.2.2.2.2.1⟩
  ·by_cases h:Qau f (Qfh f d s)=true
   ·exact ((Qbg.1 hp).2.2.1 _ (Qfa h)).1.2.1
   ·rw [(Qtf (Qg8 (by simpa using h))).2];decide
  ·by_cases h:Qau f (Qfh f d s)=true
   ·have:=((Qbg.1 hp).2.2.1 _ (Qfa h)).1.2.2.1;omega
   ·rw [(Qtf (Qg8 (by simpa using h))).2];decide
 ·exact ⟨Qke,by decide,by decide,by decide,by decide⟩
theorem Qxw (f:Fsy) (dir:Int) (s:Txt) (n:Nod) (okf:OkF f) (hp:Qam f) (hs:s.length≤1000000) (hn:I64 n.ino∧n.ino<9223372036854775807) (hk:0≤n.links∧n.links≤1000):Qaf prog 219 [.dptr (fsyA f),.dptr [aI dir],.dptr [aS s],.dptr (nodA n)] (.agg (fsyA (Qbd f dir s n))):=by
 exact Qac func219 (let R:AV:=.agg (fsyA (Qbd f dir s n));
 .new fun b1=>.r 4<|.call (Qte f dir s n okf hp hs hn hk)<|
 .u 1 [b1]<|
 .fi R [b1])
theorem Qrd (e:Int) (f:Fsy) (dir:Int) (s:Txt) (n:Nod) (okf:OkF f) (hp:Qam f) (hs:s.length≤1000000) (hn:I64 n.ino∧n.ino<9223372036854775807) (hk:0≤n.links∧n.links≤1000):Qaf prog 184 [.agg (fsyA f),aI e,.clo 219 [.dptr (fsyA f),.dptr [aI dir],.dptr [aS s],.dptr (nodA n)]] (.tup [.agg (fsyA (if e=0 then Qbd f dir s n else f)),aI e]):=by
 exact Qac func184 (
 .new fun b1=>.new fun b2=>.r 1<|.r 2<|.bn 9 e 0 (fun p1=>.u 4 [b1,b2]<|
 .f (.tup [.agg (fsyA (if e=0 then Qbd f dir s n else f)),aI e]) [b2] (.tup [.agg (fsyA f),aI e]) (by
  rw [if_neg (show ¬ e=0 from by omega)];exact sR))
 <| fun p1=>.r 1<|.call (Qxw f dir s n okf hp hs hn hk)<|
 .u 2 [b2]<|
 .f (.tup [.agg (fsyA (if e=0 then Qbd f dir s n else f)),aI e]) [b2] (.tup [.agg [.sl 5 false ((Qbd f dir s n).l.map nodA),aI ((Qbd f dir s n).next)],aI 0]) (by
  rw [if_pos (show e=0 from by omega),show e=0 from by omega];exact sR))
theorem Qz5 (f:Fsy) (dir:Int) (s:Txt) (okf:OkF f) (hp:Qam f) (hs:s.length≤1000000):Qaf prog 180 [.agg (fsyA f),aI dir,aS s] (.tup [.agg (fsyA (Qd6 f dir s)),aI (Qbf f dir s)]):=by
 have hl:=hp.1;have hr:=Qad hp;exact Qac func180 (let R:AV:=.tup [.agg (fsyA (Qd6 f dir s)),aI (Qbf f dir s)];
 .new fun b1=>.new fun b2=>.new fun b3=>.new fun b4=>.r 1<|.u 3 [b1,b2,b3]<|
 .call (Qji f dir s hp hs)<|
 .r 3<|.new fun b5=>.u 2 [b5]<|
 .u 2 [b5]<|
 .call (Qm6 (lookN f dir s) (Qea okf hp).2.2.2.2)<|
 .call (Qbl (Qcw (lookN f dir s)) 11)<|
 .r 1<|.cs (args0:=[.sl 1 true ([[aI (Qa3 f dir s)],[aI (Qae (Qcw (lookN f dir s)) 11)]])]) (Qcc [(Qa3 f dir s),(Qae (Qcw (lookN f dir s)) 11)] (by simp)) ⟨Qo1 (Qa3 f dir s) (Qae (Qcw (lookN f dir s)) 11),trivial⟩<|
 .r 1<|.frz 3 [3,4,5,6,7,8,9] [4,5,6,8] [b1=b1] rt1<|
 .frz 4 [3,4,5,6,7,8,9] [5,6,8] [b2=b2] rt1<|
 .frz 5 [3,4,5,6,7,8,9] [6,8] [b3=b3] rt1<|
 .frz 8 [3,4,5,6,7,8,9] [6] [b5=b5] rt1<|
 .r 3<|.cs (args0:=[.agg (fsyA f),aI (Qat [(Qa3 f dir s),(Qae (Qcw (lookN f dir s)) 11)]),.clo 219 [.dptr (fsyA f),.dptr [aI dir],.dptr [aS s],.dptr [aI ((lookN f dir s).ino),aI ((lookN f dir s).kind),aI ((lookN f dir s).links),aS ((lookN f dir s).text),.sl 2 false ((lookN f dir s).l.map entA)]]]) (Qrd (Qat [(Qa3 f dir s),(Qae (Qcw (lookN f dir s)) 11)]) f dir s (lookN f dir s) okf hp hs ⟨(Qea okf hp).1.1,(Qea okf hp).2.1⟩ ⟨(Qea okf hp).2.2.1,(Qea okf hp).2.2.2.1⟩) sr3<|
 .u 4 [b4]<|
 .fi R [b4])
theorem Qo0 {t:Bool} (a b c d e g:Int):Sub (.sl 1 t [[aI a],[aI b],[aI c],[aI d],[aI e],[aI g]]) (.sl 1 false ([a,b,c,d,e,g].map intA)):=Sub.loose _ _ _
theorem Qza {t:Bool} (a b c d:Int):Sub (.sl 1 t [[aI a],[aI b],[aI c],[aI d]]) (.sl 1 false ([a,b,c,d].map intA)):=Sub.loose _ _ _
noncomputable def Qla (n:Nod):Nod:=⟨n.ino,n.kind,n.links+1,n.text,n.l⟩
noncomputable def Qdn (f:Fsy) (d:Int) (s:Txt) (i:Int) (n:Nod):Fsy:=putF (enterF f d s i) (Qla n)
noncomputable def Qa6 (f:Fsy) (d:Int) (s:Txt) (i:Int):Int:=Qat [dirE f d,Qae (!(Qau f i)) 6,Qae ((Qaa f i).kind==2) 9,Qah s,Qae (isB (dirN f d).l s) 7,Qae (decide (((dirN f d).l.length:Int)≥256)||decide ((Qaa f i).links≥64)) 12]
noncomputable def Qc4 (f:Fsy) (d:Int) (s:Txt) (i:Int):Fsy:=if Qa6 f d s i=0 then Qdn f d s i (Qaa f i) else f
theorem Qdx {f:Fsy} (hp:Qam f) (i:Int):0≤(Qaa f i).links∧(Qaa f i).links≤64:=by
 by_cases h:Qau f i=true
 ·have:=((Qbg.1 hp).2.2.1 _ (Qfa h)).1;exact ⟨this.2.1,this.2.2.1⟩
 ·rw [(Qtf (Qg8 (by simpa using h))).2];decide
theorem Qy8 (f:Fsy) (dir:Int) (s:Txt) (i:Int) (n:Nod) (b:Nat) (okf:OkF f) (hp:Qam f) (hs:s.length≤1000000) (hi:I64 i) (hn:I64 n.ino∧n.ino<9223372036854775807) (hk:0≤n.links∧n.links≤1000):Qq4 prog 185 [.ptr 12 b 0,.dptr (fsyA f),.dptr [aI dir],.dptr [aS s],.dptr [aI i]] (.box b 84 (nodA n)) (.agg (fsyA (Qdn f dir s i n))):=by
 have hl:=hp.1;have hr:=Qad hp;exact Qjg (q:=12) func185 (let R:AV:=.agg (fsyA (Qdn f dir s i n));
 .new fun b1=>.run 5 [b=b,rng .i64 (n.links+1),b=b] ⟨rfl,Qaj (by omega) (by omega),rfl,trivial⟩<|
 .ord [0,1,2,3,5,4,6,7]<|.run 5 [b=b] rt1<|
 .call (Qf8 f dir s i okf hp (by omega) hi)<|
 .cs (args0:=[.agg [.sl 5 false ((enterF f dir s i).l.map nodA),aI ((enterF f dir s i).next)],.agg [aI n.ino,aI n.kind,aI (n.links+1),aS n.text,.sl 2 false (n.l.map entA)]]) (Qe5 (enterF f dir s i) (Qla n) hn (by have:=Qls f dir s i;omega) (Qhv hp dir s i)) sr2<|
 .u 1 [b1]<|
 .fi R [b1])
theorem Qky (e:Int) (f:Fsy) (dir:Int) (s:Txt) (i:Int) (n:Nod) (b:Nat) (okf:OkF f) (hp:Qam f) (hs:s.length≤1000000) (hi:I64 i) (hn:I64 n.ino∧n.ino<9223372036854775807) (hk:0≤n.links∧n.links≤1000):Qq4 prog 184 [.agg (fsyA f),aI e,.clo 185 [.ptr 12 b 0,.dptr (fsyA f),.dptr [aI dir],.dptr [aS s],.dptr [aI i]]] (.box b 84 (nodA n)) (.tup [.agg (fsyA (if e=0 then Qdn f dir s i n else f)),aI e]):=by
 exact Qjg (q:=12) func184 (
 .new fun b1=>.new fun b2=>.r 1<|.r 2<|.bn 9 e 0 (fun p1=>.u 4 [b1,b2]<|
 .f (.tup [.agg (fsyA (if e=0 then Qdn f dir s i n else f)),aI e]) [b2] (.tup [.agg (fsyA f),aI e]) (by
  rw [if_neg (show ¬ e=0 from by omega)];exact sR))
 <| fun p1=>.lent 1<|.r 1<|.lop (lcR prog 12) ((185,[.ptr 12 b 0,.dptr (fsyA f),.dptr [aI dir],.dptr [aS s],.dptr [aI i]],some 13),.box b 84 (nodA n)) (fun (_:Unit) σ=>(σ.put (some 13) (.agg [.sl 5 false ((Qdn f dir s i n).l.map nodA),aI ((Qdn f dir s i n).next)])).setB 12 gone) (Qci (args':=[.ptr 12 b 0,.dptr (fsyA f),.dptr [aI dir],.dptr [aS s],.dptr [aI i]]) sr5 (Qy8 f dir s i n b okf hp hs hi hn hk)) fun _=>
 .u 2 [b2]<|
 .f (.tup [.agg (fsyA (if e=0 then Qdn f dir s i n else f)),aI e]) [b2] (.tup [.agg [.sl 5 false ((Qdn f dir s i n).l.map nodA),aI ((Qdn f dir s i n).next)],aI 0]) (by
  rw [if_pos (show e=0 from by omega),show e=0 from by omega];exact sR))
theorem Zdj (f:Fsy) (dir:Int) (s:Txt) (i:Int) (okf:OkF f) (hp:Qam f) (hs:s.length≤1000000) (hi:I64 i):Qaf prog 143 [.agg (fsyA f),aI dir,aS s,aI i] (.tup [.agg (fsyA (Qc4 f dir s i)),aI (Qa6 f dir s i)]):=by
 have hl:=hp.1;have hr:=Qad hp;exact Qac func143 (
 .new fun b1=>.new fun b2=>.new fun b3=>.new fun b4=>.new fun b5=>.r 1<|.u 2 [b1,b2]<|
 .call (Qhx f dir hp)<|
 .r 3<|.new fun b6=>.u 2 [b6]<|
 .u 2 [b1,b4]<|
 .call (Qb4 f i (by omega) hr)<|
 .r 3<|.new fun b7=>.u 2 [b7]<|
 .u 3 [b6,b3]<|
 .call (Qfv ((dirN f dir).l) s (by have:=(Qc5 hp dir).2;omega) (Qc5 hp dir).1)<|
 .r 5<|.ord [0,1,2,4,5,6,8,10,12,13,14,15,3,7,9,11,16,17,18,19,20,21,22,23,24]<|.u 11 [b7,b3,b6]<|
 .lm 49 ((dirN f dir).l) entA<|.r 1<|.call (Qbl (!(Qau f i)) 6)<|
 .call (Qbl (((Qaa f i).kind)==2) 9)<|
 .call (Qen s (by omega))<|
 .call (Qbl (isB ((dirN f dir).l) s) 7)<|
 .r 1<|.br 51 (decide ((((dirN f dir).l).length:Int)≥256)) (fun q1=>have p1:=decT q1;.r 4<|.call (Qbl true 12)<|
 .r 1<|.cs (args0:=[.sl 1 true ([[aI (dirE f dir)],[aI (Qae (!(Qau f i)) 6)],[aI (Qae (((Qaa f i).kind)==2) 9)],[aI (Qah s)],[aI (Qae (isB ((dirN f dir).l) s) 7)],[aI (Qae true 12)]])]) (Qcc [(dirE f dir),(Qae (!(Qau f i)) 6),(Qae (((Qaa f i).kind)==2) 9),(Qah s),(Qae (isB ((dirN f dir).l) s) 7),(Qae true 12)] (by simp)) ⟨Qo0 (dirE f dir) (Qae (!(Qau f i)) 6) (Qae (((Qaa f i).kind)==2) 9) (Qah s) (Qae (isB ((dirN f dir).l) s) 7) (Qae true 12),trivial⟩<|
 .r 1<|.frz 4 [4,5,6,7,8,9,11,12,51,55] [5,6,7,8,12] [b1=b1] rt1<|
 .frz 5 [4,5,6,7,8,9,11,12,51,55] [6,7,8,12] [b2=b2] rt1<|
 .frz 6 [4,5,6,7,8,9,11,12,51,55] [7,8,12] [b3=b3] rt1<|
 .frz 7 [4,5,6,7,8,9,11,12,51,55] [8,12] [b4=b4] rt1<|
 .lent 3<|.r 3<|.lop (lcR prog 12) ((184,[.agg (fsyA f),aI (Qat [(dirE f dir),(Qae (!(Qau f i)) 6),(Qae (((Qaa f i).kind)==2) 9),(Qah s),(Qae (isB ((dirN f dir).l) s) 7),(Qae true 12)]),.clo 185 [.ptr 12 b7 0,.dptr (fsyA f),.dptr [aI dir],.dptr [aS s],.dptr [aI i]]],some 62),.box b7 84 [aI ((Qaa f i).ino),aI ((Qaa f i).kind),aI ((Qaa f i).links),aS ((Qaa f i).text),.sl 2 false ((Qaa f i).l.map entA)]) (fun (_:Unit) σ=>(σ.put (some 62) (.tup [.agg [.sl 5 false ((if Qat [(dirE f dir),(Qae (!(Qau f i)) 6),(Qae (((Qaa f i).kind)==2) 9),(Qah s),(Qae (isB ((dirN f dir).l) s) 7),(Qae true 12)]=0 then Qdn f dir s i (Qaa f i) else f).l.map nodA),aI ((if Qat [(dirE f dir),(Qae (!(Qau f i)) 6),(Qae (((Qaa f i).kind)==2) 9),(Qah s),(Qae (isB ((dirN f dir).l) s) 7),(Qae true 12)]=0 then Qdn f dir s i (Qaa f i) else f).next)],aI (Qat [(dirE f dir),(Qae (!(Qau f i)) 6),(Qae (((Qaa f i).kind)==2) 9),(Qah s),(Qae (isB ((dirN f dir).l) s) 7),(Qae true 12)])])).setB 12 gone) (Qci (args':=[.agg (fsyA f),aI (Qat [(dirE f dir),(Qae (!(Qau f i)) 6),(Qae (((Qaa f i).kind)==2) 9),(Qah s),(Qae (isB ((dirN f dir).l) s) 7),(Qae true 12)]),.clo 185 [.ptr 12 b7 0,.dptr (fsyA f),.dptr [aI dir],.dptr [aS s],.dptr [aI i]]]) sr3 (Qky (Qat [(dirE f dir),(Qae (!(Qau f i)) 6),(Qae (((Qaa f i).kind)==2) 9),(Qah s),(Qae (isB ((dirN f dir).l) s) 7),(Qae true 12)]) f dir s i (Qaa f i) b7 okf hp hs hi (Qb0 okf hp i) (by have:=Qdx hp i;omega))) fun _=>
 .u 4 [b5]<|
 .f (.tup [.agg (fsyA (Qc4 f dir s i)),aI (Qa6 f dir s i)]) [b5] (.tup [.agg [.sl 5 false ((if Qat [(dirE f dir),(Qae (!(Qau f i)) 6),(Qae (((Qaa f i).kind)==2) 9),(Qah s),(Qae (isB ((dirN f dir).l) s) 7),(Qae true 12)]=0 then Qdn f dir s i (Qaa f i) else f).l.map nodA),aI ((if Qat [(dirE f dir),(Qae (!(Qau f i)) 6),(Qae (((Qaa f i).kind)==2) 9),(Qah s),(Qae (isB ((dirN f dir).l) s) 7),(Qae true 12)]=0 then Qdn f dir s i (Qaa f i) else f).next)],aI (Qat [(dirE f dir),(Qae (!(Qau f i)) 6),(Qae (((Qaa f i).kind)==2) 9),(Qah s),(Qae (isB ((dirN f dir).l) s) 7),(Qae true 12)])]) (by
  have e:Qa6 f dir s i=Qat [(dirE f dir),(Qae (!(Qau f i)) 6),(Qae (((Qaa f i).kind)==2) 9),(Qah s),(Qae (isB ((dirN f dir).l) s) 7),(Qae true 12)]:=by
   unfold Qa6;simp only [q1,Bool.true_or,Bool.false_or,Bool.not_true,Bool.not_false]
  unfold Qc4;rw [e];exact sR))
 <| fun q1=>have p1:=decF q1;.u 4 [b7]<|
 .call (Qbl (decide (((Qaa f i).links)≥64)) 12)<|
 .r 1<|.cs (args0:=[.sl 1 true ([[aI (dirE f dir)],[aI (Qae (!(Qau f i)) 6)],[aI (Qae (((Qaa f i).kind)==2) 9)],[aI (Qah s)],[aI (Qae (isB ((dirN f dir).l) s) 7)],[aI (Qae (decide (((Qaa f i).links)≥64)) 12)]])]) (Qcc [(dirE f dir),(Qae (!(Qau f i)) 6),(Qae (((Qaa f i).kind)==2) 9),(Qah s),(Qae (isB ((dirN f dir).l) s) 7),(Qae (decide (((Qaa f i).links)≥64)) 12)] (by simp)) ⟨Qo0 (dirE f dir) (Qae (!(Qau f i)) 6) (Qae (((Qaa f i).kind)==2) 9) (Qah s) (Qae (isB ((dirN f dir).l) s) 7) (Qae (decide (((Qaa f i).links)≥64)) 12),trivial⟩<|
 .r 1<|.frz 4 [4,5,6,7,8,9,11,12,51] [5,6,7,8,12] [b1=b1] rt1<|
 .frz 5 [4,5,6,7,8,9,11,12,51] [6,7,8,12] [b2=b2] rt1<|
 .frz 6 [4,5,6,7,8,9,11,12,51] [7,8,12] [b3=b3] rt1<|
 .frz 7 [4,5,6,7,8,9,11,12,51] [8,12] [b4=b4] rt1<|
 .lent 3<|.r 3<|.lop (lcR prog 12) ((184,[.agg (fsyA f),aI (Qat [(dirE f dir),(Qae (!(Qau f i)) 6),(Qae (((Qaa f i).kind)==2) 9),(Qah s),(Qae (isB ((dirN f dir).l) s) 7),(Qae (decide (((Qaa f i).links)≥64)) 12)]),.clo 185 [.ptr 12 b7 0,.dptr (fsyA f),.dptr [aI dir],.dptr [aS s],.dptr [aI i]]],some 62),.box b7 84 [aI ((Qaa f i).ino),aI ((Qaa f i).kind),aI ((Qaa f i).links),aS ((Qaa f i).text),.sl 2 false ((Qaa f i).l.map entA)]) (fun (_:Unit) σ=>(σ.put (some 62) (.tup [.agg [.sl 5 false ((if Qat [(dirE f dir),(Qae (!(Qau f i)) 6),(Qae (((Qaa f i).kind)==2) 9),(Qah s),(Qae (isB ((dirN f dir).l) s) 7),(Qae (decide (((Qaa f i).links)≥64)) 12)]=0 then Qdn f dir s i (Qaa f i) else f).l.map nodA),aI ((if Qat [(dirE f dir),(Qae (!(Qau f i)) 6),(Qae (((Qaa f i).kind)==2) 9),(Qah s),(Qae (isB ((dirN f dir).l) s) 7),(Qae (decide (((Qaa f i).links)≥64)) 12)]=0 then Qdn f dir s i (Qaa f i) else f).next)],aI (Qat [(dirE f dir),(Qae (!(Qau f i)) 6),(Qae (((Qaa f i).kind)==2) 9),(Qah s),(Qae (isB ((dirN f dir).l) s) 7),(Qae (decide (((Qaa f i).links)≥64)) 12)])])).setB 12 gone) (Qci (args':=[.agg (fsyA f),aI (Qat [(dirE f dir),(Qae (!(Qau f i)) 6),(Qae (((Qaa f i).kind)==2) 9),(Qah s),(Qae (isB ((dirN f dir).l) s) 7),(Qae (decide (((Qaa f i).links)≥64)) 12)]),.clo 185 [.ptr 12 b7 0,.dptr (fsyA f),.dptr [aI dir],.dptr [aS s],.dptr [aI i]]]) sr3 (Qky (Qat [(dirE f dir),(Qae (!(Qau f i)) 6),(Qae (((Qaa f i).kind)==2) 9),(Qah s),(Qae (isB ((dirN f dir).l) s) 7),(Qae (decide (((Qaa f i).links)≥64)) 12)]) f dir s i (Qaa f i) b7 okf hp hs hi (Qb0 okf hp i) (by have:=Qdx hp i;omega))) fun _=>
 .u 4 [b5]<|
 .f (.tup [.agg (fsyA (Qc4 f dir s i)),aI (Qa6 f dir s i)]) [b5] (.tup [.agg [.sl 5 false ((if Qat [(dirE f dir),(Qae (!(Qau f i)) 6),(Qae (((Qaa f i).kind)==2) 9),(Qah s),(Qae (isB ((dirN f dir).l) s) 7),(Qae (decide (((Qaa f i).links)≥64)) 12)]=0 then Qdn f dir s i (Qaa f i) else f).l.map nodA),aI ((if Qat [(dirE f dir),(Qae (!(Qau f i)) 6),(Qae (((Qaa f i).kind)==2) 9),(Qah s),(Qae (isB ((dirN f dir).l) s) 7),(Qae (decide (((Qaa f i).links)≥64)) 12)]=0 then Qdn f dir s i (Qaa f i) else f).next)],aI (Qat [(dirE f dir),(Qae (!(Qau f i)) 6),(Qae (((Qaa f i).kind)==2) 9),(Qah s),(Qae (isB ((dirN f dir).l) s) 7),(Qae (decide (((Qaa f i).links)≥64)) 12)])]) (by
  have e:Qa6 f dir s i=Qat [(dirE f dir),(Qae (!(Qau f i)) 6),(Qae (((Qaa f i).kind)==2) 9),(Qah s),(Qae (isB ((dirN f dir).l) s) 7),(Qae (decide (((Qaa f i).links)≥64)) 12)]:=by
   unfold Qa6;simp only [q1,Bool.true_or,Bool.false_or,Bool.not_true,Bool.not_false]
  unfold Qc4;rw [e];exact sR))
end Go.Proofs.YtahlldgocpabjaaGreat
