import Derived.Test.YtahlldgocpabjaaGreatMrgN
import Derived.Test.YtahlldgocpabjaaGreatMrgP
set_option maxRecDepth 100000
set_option maxHeartbeats 8000000
set_option linter.unusedVariables false
set_option linter.unusedSimpArgs false
namespace Go.Proofs.YtahlldgocpabjaaGreat
open Go Go.RowKit Copyhold
def namK (z:Int) (n:Nod):Nat:=if n.kind=2 then cntE z n else 0
def nam (f:Fsy) (z:Int):Nat:=(f.l.map (namK z)).sum
theorem Zca (z:Int):∀ (l:List Ent) (L:List (Int × Nat)),cntG (Qxd L l) z=cntG L z+l.countP (isE z)
 | [],L=>rfl
 | e :: r,L=>by
  show cntG (Qxd (cntI L e.ino) r) z=_
  rw [Zca z r,Zg7,List.countP_cons]
  unfold isE
  by_cases h:e.ino=z<;>simp [h]<;>omega
theorem Zb6 (z:Int):∀ (l:List Nod) (L:List (Int × Nat)),cntG (Zb7 L l) z=cntG L z+(l.map (namK z)).sum
 | [],L=>rfl
 | n :: r,L=>by
  show cntG (Zb7 (if n.kind=2 then Qxd L n.l else L) r) z=_
  rw [Zb6 z r]
  simp only [List.map_cons,List.sum_cons,namK]
  split
  ·rw [Zca];unfold cntE;omega
  ·omega
theorem Qmd (f:Fsy) (z:Int):cntG (Qga f) z=nam f z:=by
 unfold Qga nam
 rw [Zb6]
 simp [cntG]
theorem Qvj:∀ {L:List (Int × Nat)} {z:Int},1≤cntG L z→∃ p∈L,p.1=z
 | p :: r,z,h=>by
  unfold cntG at h
  split at h
  ·rename_i e;exact ⟨p,by simp,e⟩
  ·obtain ⟨q,hq,e⟩:=Qvj h;exact ⟨q,by simp [hq],e⟩
theorem Zb8:∀ {L:List (Int × Nat)} (y:Int),(∀ p∈L,1≤p.2)→∀ p∈cntI L y,1≤p.2
 | [],y,_,p,hp=>by obtain rfl:=List.mem_singleton.1 hp;exact Nat.le_refl _
 | q :: r,y,h,p,hp=>by
  unfold cntI at hp
  split at hp
  ·rcases List.mem_cons.1 hp with rfl | hp
   ·show 1≤q.2+1;omega
   ·exact h p (by simp [hp])
  ·rcases List.mem_cons.1 hp with rfl | hp
   ·exact h p (by simp)
   ·exact Zb8 y (fun p hp=>h p (by simp [hp])) p hp
theorem Qvi:∀ {L:List (Int × Nat)} (y:Int),(L.map (·.1)).Nodup→((cntI L y).map (·.1)).Nodup∧∀ z,z∈(cntI L y).map (·.1)→z=y∨z∈L.map (·.1)
 | [],y,_=>⟨by simp [cntI],fun z hz=>.inl (by simpa [cntI] using hz)⟩
 | q :: r,y,h=>by
  unfold cntI
  split
  ·exact ⟨h,fun z hz=>.inr hz⟩
  ·rename_i hne
   obtain ⟨h1,h2⟩:=List.nodup_cons.1 h
   obtain ⟨g1,g2⟩:=Qvi y h2
   refine ⟨List.nodup_cons.2 ⟨fun hm=>?_,g1⟩,fun z hz=>?_⟩
   ·rcases g2 _ hm with e | e
    ·exact hne e
    ·exact h1 e
   ·rcases List.mem_cons.1 hz with e | hz
    ·exact .inr (by simp [e])
    ·rcases g2 z hz with e | e
     ·exact .inl e
     ·exact .inr (by simp only [List.map_cons];exact List.mem_cons_of_mem _ e)
def Qi8 (L:List (Int × Nat)):Prop:=(∀ p∈L,1≤p.2)∧(L.map (·.1)).Nodup
theorem Qi8.step {L:List (Int × Nat)} (h:Qi8 L) (y:Int):Qi8 (cntI L y):=⟨Zb8 y h.1,(Qvi y h.2).1⟩
theorem Qi8.ents:∀ {l:List Ent} {L:List (Int × Nat)},Qi8 L→Qi8 (Qxd L l)
 | [],_,h=>h
 | e :: r,_,h=>Qi8.ents (l:=r) (h.step e.ino)
theorem Qi8.nodes:∀ {l:List Nod} {L:List (Int × Nat)},Qi8 L→Qi8 (Zb7 L l)
 | [],_,h=>h
 | n :: r,L,h=>by
  show Qi8 (Zb7 (if n.kind=2 then Qxd L n.l else L) r)
  refine Qi8.nodes ?_
  split
  ·exact h.ents
  ·exact h
theorem Qvf (f:Fsy):Qi8 (Qga f):=Qi8.nodes ⟨fun p h=>(by cases h),List.nodup_nil⟩
theorem Zb9:∀ {L:List (Int × Nat)} {p:Int × Nat},(L.map (·.1)).Nodup→p∈L→cntG L p.1=p.2
 | q :: r,p,h,hp=>by
  obtain ⟨h1,h2⟩:=List.nodup_cons.1 h
  unfold cntG
  rcases List.mem_cons.1 hp with rfl | hp
  ·simp
  ·rw [if_neg (fun e:q.1=p.1=>h1 (by show q.1∈r.map (·.1);rw [e];exact List.mem_map_of_mem hp))]
   exact Zb9 h2 hp
theorem Qrb {f:Fsy} {z:Int}:(∃ p∈Qga f,p.1=z)↔1≤nam f z:=by
 rw [← Qmd]
 refine ⟨fun ⟨p,hp,e⟩=>?_,Qvj⟩
 rw [← e,Zb9 (Qvf f).2 hp]
 exact (Qvf f).1 p hp
theorem Qjb {α:Type} {g:α→Nat}:∀ {l:List α} {x:α},x∈l→g x≤(l.map g).sum
 | y :: r,x,h=>by
  have hs:((y :: r).map g).sum=g y+(r.map g).sum:=by simp
  rw [hs]
  rcases List.mem_cons.1 h with e | h
  ·rw [e];omega
  ·have:=Qjb (g:=g) h;omega
theorem Qx6 {α:Type} {g:α→Nat}:∀ {l:List α} {x y:α},x∈l→y∈l→x ≠ y→g x+g y≤(l.map g).sum
 | z :: r,x,y,hx,hy,hne=>by
  have hs:((z :: r).map g).sum=g z+(r.map g).sum:=by simp
  rw [hs]
  rcases List.mem_cons.1 hx with ex | hx<;>rcases List.mem_cons.1 hy with ey | hy
  ·exact absurd (ex.trans ey.symm) hne
  ·have:=Qjb (g:=g) hy;rw [ex];omega
  ·have:=Qjb (g:=g) hx;rw [ey];omega
  ·have:=Qx6 (g:=g) hx hy hne;omega
theorem Qt0 {α:Type} {g:α→Nat}:∀ {l:List α},1≤(l.map g).sum→∃ x∈l,1≤g x
 | z :: r,h=>by
  have hs:((z :: r).map g).sum=g z+(r.map g).sum:=by simp
  rw [hs] at h
  by_cases hz:1≤g z
  ·exact ⟨z,by simp,hz⟩
  ·obtain ⟨x,hx,hg⟩:=Qt0 (g:=g) (l:=r) (by omega)
   exact ⟨x,by simp [hx],hg⟩
theorem Qb0 {f:Fsy} {i:Int} {d:Nod} (h:atF f i=some d) (hk:d.kind=2):Qa3 f i=d.l.map Ent.ino:=by
 have:=(Qfo h).2
 unfold Qa3
 rw [this,if_pos hk]
theorem Qd4 {f:Fsy} {i z:Int} (h:z∈Qa3 f i):∃ d,atF f i=some d∧d.kind=2∧∃ e∈d.l,e.ino=z:=by
 have h0:=h
 unfold Qa3 at h
 split at h
 ·rename_i hk
  have hb:Qar f i=true:=by
   cases hb:Qar f i with
   | true=>rfl
   | false=>exact absurd hk (Qq7 hb)
  obtain ⟨e,he,hz⟩:=List.mem_map.1 h
  exact ⟨_,Qe8 hb,hk,e,he,hz⟩
 ·cases h
theorem Qfy {f:Fsy} {i z:Int} {d:Nod} {e:Ent} (h:atF f i=some d) (hk:d.kind=2) (he:e∈d.l) (hz:e.ino=z):z∈Qa3 f i:=by
 rw [Qb0 h hk]
 exact List.mem_map.2 ⟨e,he,hz⟩
theorem Qih {z:Int} {d:Nod}:1≤namK z d↔d.kind=2∧∃ e∈d.l,e.ino=z:=by
 unfold namK cntE
 split
 ·rename_i hk
  rw [show (1≤d.l.countP (isE z))=(0<d.l.countP (isE z)) from rfl,List.countP_pos_iff]
  simp [isE,hk]
 ·rename_i hk
  simp [hk]
theorem Qjh {f:Fsy} {z:Int} (hr:Qbs f.l):1≤nam f z↔∃ i,z∈Qa3 f i:=by
 constructor
 ·intro h
  obtain ⟨d,hd,hg⟩:=Qt0 h
  obtain ⟨hk,e,he,hz⟩:=Qih.1 hg
  exact ⟨d.ino,Qfy (Qtp hr hd) hk he hz⟩
 ·rintro ⟨i,h⟩
  obtain ⟨d,hd,hk,e,he,hz⟩:=Qd4 h
  exact Nat.le_trans (Qih.2 ⟨hk,e,he,hz⟩) (Qjb (Qdg hd))
theorem Qz4 {f:Fsy} {z i j:Int} (hi:z∈Qa3 f i) (hj:z∈Qa3 f j) (h1:nam f z=1):i=j:=by
 obtain ⟨d,hd,hk,e,he,hz⟩:=Qd4 hi
 obtain ⟨d',hd',hk',e',he',hz'⟩:=Qd4 hj
 by_cases hne:d=d'
 ·rw [← Qcy hd,← Qcy hd',hne]
 ·have:=Qx6 (g:=namK z) (Qdg hd) (Qdg hd') hne
  have:=Qih.2 ⟨hk,e,he,hz⟩
  have:=Qih.2 ⟨hk',e',he',hz'⟩
  unfold nam at h1
  omega
structure TreeP (f:Fsy):Prop where
 rows:Qal f
 root:∃ n,atF f 1=some n∧n.kind=2∧n.links=0
 cnt:∀ i n,atF f i=some n→n.links=(nam f i:Int)
 kid:∀ i z,z∈Qa3 f i→(∃ n,atF f z=some n)∧¬ z=1
 pos:∀ i n,atF f i=some n→¬ i=1→1≤n.links
 dir:∀ i n,atF f i=some n→n.kind=2→¬ i=1→n.links=1∧Reach f 1 i
theorem Qg1 {f:Fsy} {a b:Int} (h:Reach f a b):∃ q,(q=a∨Reach f a q)∧b∈Qa3 f q:=by
 induction h with
 | one h=>exact ⟨_,.inl rfl,h⟩
 | @more i y z h _ ih=>
  obtain ⟨q,hq,hk⟩:=ih
  refine ⟨q,.inr ?_,hk⟩
  rcases hq with rfl | hq
  ·exact .one h
  ·exact .more h hq
theorem Qfw {f:Fsy} {a b:Int} (h:Reach f a b):∃ y,y∈Qa3 f a:=by
 cases h with
 | one h=>exact ⟨_,h⟩
 | more h _=>exact ⟨_,h⟩
inductive RT (f:Fsy):Int→Prop where
 | base {z:Int}:z∈Qa3 f 1→RT f z
 | step {p z:Int}:RT f p→z∈Qa3 f p→RT f z
theorem rt_of {f:Fsy} {a b:Int} (h:Reach f a b):(a=1∨RT f a)→RT f b:=by
 induction h with
 | one h=>
  rintro (rfl | hr)
  ·exact .base h
  ·exact .step hr h
 | more h _ ih=>
  rintro (rfl | hr)
  ·exact ih (.inr (.base h))
  ·exact ih (.inr (.step hr h))
theorem TreeP.no1 {f:Fsy} (h:TreeP f) {i:Int}:¬ Reach f i 1:=fun hr=>by
 obtain ⟨q,_,hk⟩:=Qg1 hr
 exact (h.kid q 1 hk).2 rfl
theorem TreeP.reach {f:Fsy} (h:TreeP f) {i:Int} {n:Nod} (hn:atF f i=some n) (hi:¬ i=1):Reach f 1 i:=by
 by_cases hk:n.kind=2
 ·exact (h.dir i n hn hk hi).2
 ·have hp:=h.pos i n hn hi
  rw [h.cnt i n hn] at hp
  obtain ⟨q,hq⟩:=(Qjh (Qad h.rows)).1 (show 1≤nam f i by omega)
  by_cases h1:q=1
  ·subst h1;exact .one hq
  ·obtain ⟨d,hd,hdk,_⟩:=Qd4 hq
   exact (h.dir q d hd hdk h1).2.snoc hq
theorem TreeP.one {f:Fsy} (h:TreeP f) {i:Int} {n:Nod} (hn:atF f i=some n) (hk:n.kind=2) (hi:¬ i=1):nam f i=1:=by
 have h1:=(h.dir i n hn hk hi).1
 rw [h.cnt i n hn] at h1
 omega
theorem TreeP.acyc {f:Fsy} (h:TreeP f) {w:Int}:¬ Reach f w w:=by
 have key:∀ w,RT f w→¬ Reach f w w:=by
  intro w hw
  induction hw with
  | @base z hz=>
   intro hr
   obtain ⟨q,hq,hk⟩:=Qg1 hr
   obtain ⟨y,hy⟩:=Qfw hr
   obtain ⟨d,hd,hdk,_⟩:=Qd4 hy
   have hz1:=(h.kid 1 z hz).2
   have e:=Qz4 hk hz (h.one hd hdk hz1)
   subst e
   rcases hq with e | hq
   ·exact hz1 e.symm
   ·exact h.no1 hq
  | @step p z hp hz ih=>
   intro hr
   obtain ⟨q,hq,hk⟩:=Qg1 hr
   obtain ⟨y,hy⟩:=Qfw hr
   obtain ⟨d,hd,hdk,_⟩:=Qd4 hy
   have hz1:=(h.kid p z hz).2
   have e:=Qz4 hk hz (h.one hd hdk hz1)
   subst e
   rcases hq with e | hq
   ·rw [← e] at hr;exact ih hr
   ·exact ih (.more hz hq)
 intro hr
 obtain ⟨q,_,hk⟩:=Qg1 hr
 obtain ⟨⟨n,hn⟩,h1⟩:=h.kid q w hk
 exact key w (rt_of (h.reach hn h1) (.inl rfl)) hr
theorem Qiu {f:Fsy} {n:Nod} (h:f.l[0]?=some n) (hn:n.ino=1) (hr:Qbs f.l):atF f 1=some n:=by
 have:=Qtp hr (List.mem_of_getElem? h)
 rwa [hn] at this
theorem Ziv {f:Fsy} {n0 n:Nod} {i:Int} (h0:f.l[0]?=some n0) (h1:n0.ino=1) (hn:atF f i=some n) (hi:¬ i=1):n∈f.l.drop 1:=by
 obtain ⟨j,hj⟩:=List.getElem?_of_mem (Qdg hn)
 cases j with
 | zero=>
  rw [h0] at hj
  obtain rfl:=Option.some.inj hj
  exact absurd ((Qcy hn).symm.trans h1) hi
 | succ j=>exact List.mem_of_getElem? (i:=j) (by rw [List.getElem?_drop,Nat.add_comm];exact hj)
theorem Zco {f:Fsy} {n0 n:Nod} {i:Int} (hr:Qbs f.l) (h0:f.l[0]?=some n0) (h1:n0.ino=1) (hn:n∈f.l.drop 1):atF f n.ino=some n∧¬ n.ino=1:=by
 obtain ⟨j,hj⟩:=List.getElem?_of_mem hn
 rw [List.getElem?_drop] at hj
 refine ⟨Qtp hr (List.mem_of_getElem? hj),fun e=>?_⟩
 have h:=List.pairwise_iff_getElem.1 hr
 have l0:=Qan h0
 have lj:=Qan hj
 have g:=h 0 (1+j) l0 lj (by omega)
 have e0:f.l[0]=n0:=Option.some.inj ((List.getElem?_eq_getElem l0).symm.trans h0)
 have ej:f.l[1+j]=n:=Option.some.inj ((List.getElem?_eq_getElem lj).symm.trans hj)
 rw [e0,ej] at g
 omega
theorem Qnc {f:Fsy}:rightT f↔TreeP f:=by
 constructor
 ·rintro ⟨h1,⟨n0,h2,h3,h4,h5⟩,h6,h7⟩
  have hr:=Qad h1
  have key:∀ i n,atF f i=some n→¬ i=1→nodeT f 0 n:=fun i n hn hi=>by
   obtain ⟨j,hj⟩:=List.getElem?_of_mem (Ziv h2 h3 hn hi)
   exact h7 j n hj
  have h1k:∀ z,1≤nam f z→keyT f z:=fun z hz=>by
   obtain ⟨p,hp,e⟩:=Qrb.2 hz
   exact e ▸ h6 p hp
  refine ⟨h1,⟨n0,Qiu h2 h3 hr,h4,h5⟩,fun i n hn=>?_,fun i z hz=>?_,fun i n hn hi=>(key i n hn hi).1,fun i n hn hk hi=>?_⟩
  ·by_cases hi:i=1
   ·subst hi
    rw [Qiu h2 h3 hr] at hn
    obtain rfl:=Option.some.inj hn
    have:¬ 1≤nam f 1:=fun h=>(h1k 1 h).2 rfl
    omega
   ·have:=(key i n hn hi).2.1
    rw [Qmd,Qcy hn] at this
    exact this
  ·have:=h1k z ((Qjh hr).2 ⟨i,hz⟩)
   exact ⟨⟨_,Qe8 this.1⟩,this.2⟩
  ·have:=(key i n hn hi).2.2 hk
   rw [Qcy hn] at this
   exact ⟨this.1,Qgf.1 this.2⟩
 ·intro h
  have hr:=Qad h.rows
  obtain ⟨n0,g1,g2,g3⟩:=h.root
  obtain ⟨m0,hm0⟩:∃ m,f.l[0]?=some m:=by
   cases hl:f.l with
   | nil=>have:=Qdg g1;rw [hl] at this;cases this
   | cons x r=>exact ⟨x,rfl⟩
  have hm1:m0=n0:=by
   obtain ⟨j,hj⟩:=List.getElem?_of_mem (Qdg g1)
   cases j with
   | zero=>rw [hm0] at hj;exact Option.some.inj hj
   | succ j=>
    have hp:=List.pairwise_iff_getElem.1 hr
    have l0:=Qan hm0
    have lj:=Qan hj
    have g:=hp 0 (j+1) l0 lj (by omega)
    have e0:f.l[0]=m0:=Option.some.inj ((List.getElem?_eq_getElem l0).symm.trans hm0)
    have ej:f.l[j+1]=n0:=Option.some.inj ((List.getElem?_eq_getElem lj).symm.trans hj)
    rw [e0,ej] at g
    have:=Qcy g1
    have:=((Qbj.1 h.rows).2.2.1 m0 (List.mem_of_getElem? hm0)).1.1
    have g':m0.ino<n0.ino:=g
    omega
  subst hm1
  have hi0:m0.ino=1:=Qcy g1
  refine ⟨h.rows,⟨m0,hm0,hi0,g2,g3⟩,fun p hp=>?_,fun j n hj=>?_⟩
  ·obtain ⟨i,hi⟩:=(Qjh hr).1 (Qrb.1 ⟨p,hp,rfl⟩)
   obtain ⟨⟨n,hn⟩,h2⟩:=h.kid i p.1 hi
   exact ⟨(Qfo hn).1,h2⟩
  ·obtain ⟨a1,a2⟩:=Zco (i:=0) hr hm0 hi0 (List.mem_of_getElem? hj)
   exact ⟨h.pos _ n a1 a2,by rw [Qmd];exact h.cnt _ n a1,fun hk=>⟨(h.dir _ n a1 hk a2).1,Qgf.2 (h.dir _ n a1 hk a2).2⟩⟩
end Go.Proofs.YtahlldgocpabjaaGreat

namespace Go.Proofs.YtahlldgocpabjaaGreat
open Go Go.RowKit Copyhold
open Copyhold.Name (Srt insE delE getE isAt)
theorem Qok {l:List Ent} {s:Txt} (h:Srt (lI l)) (hi:isB l s=true):posI l s<l.length:=by
 obtain ⟨x,hx,_⟩:=Name.get_pos h hi
 have:=Qan hx
 rw [Zak] at this
 exact this
theorem Za6 {l:List Ent} {s:Txt} {x:Ent} (h:Srt (lI l)) (hi:isB l s=true) (hx:l[posI l s]?=some x):getI l s=x.ino:=by
 obtain ⟨y,hy,_,hg⟩:=Name.get_pos h hi
 rw [Qew,hg]
 have:(lI l)[Name.pos (lI l) s]?=some ((x.name,x.ino):NEnt):=by
  unfold lI at hy ⊢
  rw [List.getElem?_map]
  have hx':l[Name.pos (lI l) s]?=some x:=hx
  unfold lI at hx'
  rw [hx']
  rfl
 rw [this] at hy
 obtain rfl:=Option.some.inj hy
 rfl
theorem Qwy (l:List Ent) (s:Txt) (hl:l.length≤256) (hr:Name.Srt (lI l)):Qaj Tryz.prog 224 [.sl 2 false (l.map entA),aS s] (.tup [.sl 2 false ((delL l s).map entA),aI (getI l s),aI (Qf8 l s)]):=by
 exact Qac (F:=Tryz.f224) 400 (
 .r 3<|.r 2<|.call (Qlk l s (by omega) hr)<|
 .r 5<|.r 2<|.br 17 (!(isB l s)) (fun q1=>have q1:=notT q1;have p1:=booF q1;.r 4<|.fin (x:=.tup [.sl 2 false (l.map entA),aI 0,aI 6]) (r:=.tup [.sl 2 false ((delL l s).map entA),aI (getI l s),aI (Qf8 l s)]) [] trivial (by
  have e:delL l s=l:=if_neg (by rw [q1];decide)
  have e2:Qf8 l s=6:=if_neg (by rw [q1];decide)
  rw [e,e2,Qo5 q1]
  exact Sub.tups ⟨by first | exact sR | exact Sub.loose _ _ _,sR,sR,trivial⟩))
 <| fun q1=>have q1:=notF q1;have p1:=booT q1;have hlt:=Qok hr q1;.r 2<|.val 20 (show (aI ((l.map entA).length:Int):AV)=aI (l.length:Int) from by rw [List.length_map])<|.mk0 24 l.length (show (l.length:Int)=((l.length:Nat):Int) from by omega) (by have hq:=Qbk l s;simp<;>omega) (by have hq:=Qbk l s;simp<;>omega) fun V1=>
 .r 1<|.r 3<|.slc 2 false (l.map entA) none (some (posI l s:Int)) none 0 (posI l s) false (.inl ⟨rfl,rfl⟩) (.inr rfl) (.inl ⟨rfl,fun h=>by cases h⟩) (by have hq:=Qbk l s;first | omega | (rw [List.length_map];omega) | (simp<;>omega)) (by have hq:=Qbk l s;first | omega | (rw [List.length_map];omega) | (simp<;>omega))<|
 .app 24 V1 ([]:List (List AV)) (((l.map entA).take (posI l s)).drop 0) (by have hq:=Qbk l s;simp<;>omega) (by have hq:=Qbk l s;simp<;>omega) fun V2=>
 .r 1<|.pick [0,1,2,3,4,6,7,8,9]<|.run 4 [rng .i64 ((posI l s:Int)+1)] ⟨Qas (by omega) (by omega),trivial⟩<|
 .slc 2 false (l.map entA) (some ((posI l s:Int)+1)) none none (posI l s+1) ((l.map entA).length) false (.inr (congrArg some (by omega))) (.inl ⟨rfl,rfl⟩) (.inl ⟨rfl,fun h=>by cases h⟩) (by have hq:=Qbk l s;first | omega | (rw [List.length_map];omega) | (simp<;>omega)) (by have hq:=Qbk l s;first | omega | (rw [List.length_map];omega) | (simp<;>omega))<|
 .r 2<|.idxM l entA (posI l s) (m:=(posI l s:Int)) rfl (Qok hr (by assumption)) fun x1 hx1=>
 .r 1<|.fork<|.alt (.app 24 V2 (([]:List (List AV))++(((l.map entA).take (posI l s)).drop 0)) (((l.map entA).take ((l.map entA).length)).drop (posI l s+1)) (by have hq:=Qbk l s;simp<;>omega) (by have hq:=Qbk l s;simp<;>omega) fun V3=>
 .pick [10,11,12,13]<|.r 4<|.frz 21 [4,5,6] [] [V3=V3,(([]:List (List AV))++(((l.map entA).take (posI l s)).drop 0)).length+(((l.map entA).take ((l.map entA).length)).drop (posI l s+1)).length=((([]:List (List AV))++(((l.map entA).take (posI l s)).drop 0))++(((l.map entA).take ((l.map entA).length)).drop (posI l s+1))).length] ⟨rfl,(by first | rfl | (simp;done) | (simp;omega)),trivial⟩<|
 .fin (x:=.tup [.sl 2 false ((([]:List (List AV))++(((l.map entA).take (posI l s)).drop 0))++(((l.map entA).take ((l.map entA).length)).drop (posI l s+1))),aI x1.ino,aI 0]) (r:=.tup [.sl 2 false ((delL l s).map entA),aI (getI l s),aI (Qf8 l s)]) [] trivial (by
  have e:delL l s=l.take (posI l s)++l.drop (posI l s+1):=if_pos q1
  have e2:Qf8 l s=0:=if_pos q1
  rw [e,e2,Za6 hr q1 hx1]
  exact Sub.tups ⟨Sub.of_eq (congrArg (AV.sl 2 false) (by simp [entA,List.map_take,List.map_drop,Qay])),sR,sR,trivial⟩))
 <| .r 1<|.pick [5,11,12,13]<|.app 24 V2 (([]:List (List AV))++(((l.map entA).take (posI l s)).drop 0)) (((l.map entA).take ((l.map entA).length)).drop (posI l s+1)) (by have hq:=Qbk l s;simp<;>omega) (by have hq:=Qbk l s;simp<;>omega) fun V4=>
 .r 3<|.frz 21 [4,5,6] [] [V4=V4,(([]:List (List AV))++(((l.map entA).take (posI l s)).drop 0)).length+(((l.map entA).take ((l.map entA).length)).drop (posI l s+1)).length=((([]:List (List AV))++(((l.map entA).take (posI l s)).drop 0))++(((l.map entA).take ((l.map entA).length)).drop (posI l s+1))).length] ⟨rfl,(by first | rfl | (simp;done) | (simp;omega)),trivial⟩<|
 .fin (x:=.tup [.sl 2 false ((([]:List (List AV))++(((l.map entA).take (posI l s)).drop 0))++(((l.map entA).take ((l.map entA).length)).drop (posI l s+1))),aI x1.ino,aI 0]) (r:=.tup [.sl 2 false ((delL l s).map entA),aI (getI l s),aI (Qf8 l s)]) [] trivial (by
  have e:delL l s=l.take (posI l s)++l.drop (posI l s+1):=if_pos q1
  have e2:Qf8 l s=0:=if_pos q1
  rw [e,e2,Za6 hr q1 hx1]
  exact Sub.tups ⟨Sub.of_eq (congrArg (AV.sl 2 false) (by simp [entA,List.map_take,List.map_drop,Qay])),sR,sR,trivial⟩)) Tryz.func224 rfl (by kernel_rfl) (by kernel_rfl)
noncomputable def leaveF (f:Fsy) (d:Int) (s:Txt):Fsy:=putF f (Qa0 (Qaa f d) (delL (Qaa f d).l s))
noncomputable def Qdv (n:Nod):Nod:=⟨n.ino,n.kind,n.links-1,n.text,n.l⟩
noncomputable def Qbc (f:Fsy) (d:Int) (s:Txt) (n:Nod):Fsy:=if n.links-1<1 then outF (leaveF f d s) n.ino else putF (leaveF f d s) (Qdv n)
theorem Qhr (f:Fsy) (dir:Int) (s:Txt) (okf:OkF f) (hp:Qal f) (hs:s.length≤1000000):Qaj Tryz.prog 191 [.agg (fsyA f),aI dir,aS s] (.agg (fsyA (leaveF f dir s))):=by
 have hl:=hp.1
 have hr:=Qad hp
 exact Qac (F:=Tryz.f191) 400 (
 .new fun b1=>.new fun b2=>.run 2 [b1=b1] rt1<|
 .call (Qce f dir (by omega) hr)<|
 .r 3<|.new fun b3=>.run 2 [b3=b3] rt1<|
 .run 3 [b3=b3] rt1<|
 .call (Qwy ((Qaa f dir).l) s (Qex hp dir).2 (Qex hp dir).1)<|
 .run 6 [b3=b3] rt1<|
 .run 2 [b1=b1,b3=b3] rt2<|
 .callS (args0:=[.agg (fsyA f),.agg [aI ((Qaa f dir).ino),aI ((Qaa f dir).kind),aI ((Qaa f dir).links),aS ((Qaa f dir).text),.sl 2 false ((delL ((Qaa f dir).l) s).map entA)]]) (args:=[.agg (fsyA f),.agg [aI ((Qa0 (Qaa f dir) (delL (Qaa f dir).l s)).ino),aI ((Qa0 (Qaa f dir) (delL (Qaa f dir).l s)).kind),aI ((Qa0 (Qaa f dir) (delL (Qaa f dir).l s)).links),aS ((Qa0 (Qaa f dir) (delL (Qaa f dir).l s)).text),.sl 2 false ((Qa0 (Qaa f dir) (delL (Qaa f dir).l s)).l.map entA)]]) sr2 (Qes f (Qa0 (Qaa f dir) (delL (Qaa f dir).l s)) (Qb4 okf hp dir) (by omega) hr)<|
 .run 1 [b2=b2] rt1<|
 .fin (x:=.agg [.sl 5 false ((putF f (Qa0 (Qaa f dir) (delL (Qaa f dir).l s))).l.map nodA),aI ((putF f (Qa0 (Qaa f dir) (delL (Qaa f dir).l s))).next)]) (r:=.agg (fsyA (leaveF f dir s))) [b2=b2] rt1 (by exact sR)) Tryz.func191 rfl (by kernel_rfl) (by kernel_rfl)
theorem Qus (f:Fsy) (d:Int) (s:Txt):(leaveF f d s).l.length≤f.l.length+1:=Qle _ _
theorem Qnp {f:Fsy} (h:Qal f) (d:Int) (s:Txt):Qbs (leaveF f d s).l:=Qg2 (Qad h)
theorem Qrp (f:Fsy) (dir:Int) (s:Txt) (n:Nod) (okf:OkF f) (hp:Qal f) (hs:s.length≤1000000) (hn:I64 n.ino∧n.ino<9223372036854775807) (hk:0≤n.links∧n.links≤1000):Qaj Tryz.prog 190 [.agg (fsyA f),aI dir,aS s,.agg (nodA n)] (.agg (fsyA (Qbc f dir s n))):=by
 have hl:=hp.1
 have hr:=Qad hp
 exact Qac (F:=Tryz.f190) 400 (
 .new fun b1=>.new fun b2=>.new fun b3=>.run 3 [b1=b1] rt1<|
 .call (Qhr f dir s okf hp (by omega))<|
 .run 1 [b1=b1] rt1<|
 .run 5 [b2=b2,rng .i64 (n.links-1),b2=b2] ⟨rfl,Qas (by omega) (by omega),rfl,trivial⟩<|
 .run 3 [b2=b2] rt1<|
 .br 19 (decide ((n.links-1)<1)) (fun q1=>have p1:=decT q1;.run 3 [b1=b1,b2=b2] rt2<|
 .call (Zd4 (leaveF f dir s) n.ino (by have:=Qus f dir s;omega) (Qnp hp dir s))<|
 .run 1 [b3=b3] rt1<|
 .fin (x:=.agg [.sl 5 false ((outF (leaveF f dir s) n.ino).l.map nodA),aI ((outF (leaveF f dir s) n.ino).next)]) (r:=.agg (fsyA (Qbc f dir s n))) [b3=b3] rt1 (by
  have e:Qbc f dir s n=_:=if_pos (by omega)
  rw [e]
  exact sR))
 <| fun q1=>have p1:=decF q1;.run 2 [b1=b1,b2=b2] rt2<|
 .callS (args0:=[.agg [.sl 5 false ((leaveF f dir s).l.map nodA),aI ((leaveF f dir s).next)],.agg [aI n.ino,aI n.kind,aI (n.links-1),aS n.text,.sl 2 false (n.l.map entA)]]) (args:=[.agg [.sl 5 false ((leaveF f dir s).l.map nodA),aI ((leaveF f dir s).next)],.agg [aI ((Qdv n).ino),aI ((Qdv n).kind),aI ((Qdv n).links),aS ((Qdv n).text),.sl 2 false ((Qdv n).l.map entA)]]) sr2 (Qes (leaveF f dir s) (Qdv n) hn (by have:=Qus f dir s;omega) (Qnp hp dir s))<|
 .run 1 [b3=b3] rt1<|
 .fin (x:=.agg [.sl 5 false ((putF (leaveF f dir s) (Qdv n)).l.map nodA),aI ((putF (leaveF f dir s) (Qdv n)).next)]) (r:=.agg (fsyA (Qbc f dir s n))) [b3=b3] rt1 (by
  have e:Qbc f dir s n=_:=if_neg (by omega)
  rw [e]
  exact sR)) Tryz.func190 rfl (by kernel_rfl) (by kernel_rfl)
end Go.Proofs.YtahlldgocpabjaaGreat

namespace Go.Proofs.YtahlldgocpabjaaGreat
open Go Go.RowKit Copyhold
noncomputable def Qbh (f:Fsy) (d:Int) (s:Txt):Int:=Qaq [Qaz f d s,Qab (Qcc (lookN f d s)) 11]
noncomputable def Qdx (f:Fsy) (d:Int) (s:Txt):Fsy:=if Qbh f d s=0 then Qbc f d s (lookN f d s) else f
theorem Qd2 {f:Fsy} {d:Int} {s:Txt} (okf:OkF f) (hp:Qal f):OkN (lookN f d s)∧(lookN f d s).ino<9223372036854775807∧0≤(lookN f d s).links∧(lookN f d s).links≤1000∧(lookN f d s).l.length≤8796093022207:=by
 unfold lookN
 split
 ·have hb:=Qb4 okf hp (Qe4 f d s)
  have hk:=Qf0 okf (Qe4 f d s)
  refine ⟨hk,hb.2,?_,?_,hk.2.2.2.2.1⟩
  ·by_cases h:Qar f (Qe4 f d s)=true
   ·exact ((Qbj.1 hp).2.2.1 _ (Qey h)).1.2.1
   ·rw [(Qtq (Qgr (by simpa using h))).2];decide
  ·by_cases h:Qar f (Qe4 f d s)=true
   ·have:=((Qbj.1 hp).2.2.1 _ (Qey h)).1.2.2.1;omega
   ·rw [(Qtq (Qgr (by simpa using h))).2];decide
 ·exact ⟨Qor,by decide,by decide,by decide,by decide⟩
theorem Qvw (f:Fsy) (dir:Int) (s:Txt) (n:Nod) (okf:OkF f) (hp:Qal f) (hs:s.length≤1000000) (hn:I64 n.ino∧n.ino<9223372036854775807) (hk:0≤n.links∧n.links≤1000):Qaj Tryz.prog 219 [.dptr (fsyA f),.dptr [aI dir],.dptr [aS s],.dptr (nodA n)] (.agg (fsyA (Qbc f dir s n))):=by
 exact Qac (F:=Tryz.f219) 400 (
 .new fun b1=>.r 4<|.call (Qrp f dir s n okf hp hs hn hk)<|
 .run 1 [b1=b1] rt1<|
 .fin (x:=.agg [.sl 5 false ((Qbc f dir s n).l.map nodA),aI ((Qbc f dir s n).next)]) (r:=.agg (fsyA (Qbc f dir s n))) [b1=b1] rt1 (by exact sR)) Tryz.func219 rfl (by kernel_rfl) (by kernel_rfl)
theorem Qpu (e:Int) (f:Fsy) (dir:Int) (s:Txt) (n:Nod) (okf:OkF f) (hp:Qal f) (hs:s.length≤1000000) (hn:I64 n.ino∧n.ino<9223372036854775807) (hk:0≤n.links∧n.links≤1000):Qaj Tryz.prog 184 [.agg (fsyA f),aI e,.clo 219 [.dptr (fsyA f),.dptr [aI dir],.dptr [aS s],.dptr (nodA n)]] (.tup [.agg (fsyA (if e=0 then Qbc f dir s n else f)),aI e]):=by
 exact Qac (F:=Tryz.f184) 400 (
 .new fun b1=>.new fun b2=>.r 1<|.r 2<|.br 9 (e != 0) (fun q1=>have p1:=bneT q1;.run 4 [b1=b1,b2=b2] rt2<|
 .fin (x:=.tup [.agg (fsyA f),aI e]) (r:=.tup [.agg (fsyA (if e=0 then Qbc f dir s n else f)),aI e]) [b2=b2] rt1 (by
  rw [if_neg (show ¬ e=0 from by omega)]
  exact sR))
 <| fun q1=>have p1:=bneF q1;.r 1<|.call (Qvw f dir s n okf hp hs hn hk)<|
 .run 2 [b2=b2] rt1<|
 .fin (x:=.tup [.agg [.sl 5 false ((Qbc f dir s n).l.map nodA),aI ((Qbc f dir s n).next)],aI 0]) (r:=.tup [.agg (fsyA (if e=0 then Qbc f dir s n else f)),aI e]) [b2=b2] rt1 (by
  rw [if_pos (show e=0 from by omega),show e=0 from by omega]
  exact sR)) Tryz.func184 rfl (by kernel_rfl) (by kernel_rfl)
theorem Qx1 (f:Fsy) (dir:Int) (s:Txt) (okf:OkF f) (hp:Qal f) (hs:s.length≤1000000):Qaj Tryz.prog 180 [.agg (fsyA f),aI dir,aS s] (.tup [.agg (fsyA (Qdx f dir s)),aI (Qbh f dir s)]):=by
 have hl:=hp.1
 have hr:=Qad hp
 exact Qac (F:=Tryz.f180) 400 (
 .new fun b1=>.new fun b2=>.new fun b3=>.new fun b4=>.r 1<|.run 3 [b1=b1,b2=b2,b3=b3] rt3<|
 .call (Qim f dir s hp hs)<|
 .r 3<|.new fun b5=>.run 2 [b5=b5] rt1<|
 .run 2 [b5=b5] rt1<|
 .call (Ql3 (lookN f dir s) (Qd2 okf hp).2.2.2.2)<|
 .call (Qbm (Qcc (lookN f dir s)) 11)<|
 .r 1<|.callS (args0:=[.sl 1 true ([[aI (Qaz f dir s)],[aI (Qab (Qcc (lookN f dir s)) 11)]])]) (args:=[.sl 1 false ([(Qaz f dir s),(Qab (Qcc (lookN f dir s)) 11)].map intA)]) ⟨Qnu (Qaz f dir s) (Qab (Qcc (lookN f dir s)) 11),trivial⟩ (Qci [(Qaz f dir s),(Qab (Qcc (lookN f dir s)) 11)] (by simp))<|
 .r 1<|.frz 3 [3,4,5,6,7,8,9] [4,5,6,8] [b1=b1] rt1<|
 .frz 4 [3,4,5,6,7,8,9] [5,6,8] [b2=b2] rt1<|
 .frz 5 [3,4,5,6,7,8,9] [6,8] [b3=b3] rt1<|
 .frz 8 [3,4,5,6,7,8,9] [6] [b5=b5] rt1<|
 .r 3<|.callS (args0:=[.agg (fsyA f),aI (Qaq [(Qaz f dir s),(Qab (Qcc (lookN f dir s)) 11)]),.clo 219 [.dptr (fsyA f),.dptr [aI dir],.dptr [aS s],.dptr [aI ((lookN f dir s).ino),aI ((lookN f dir s).kind),aI ((lookN f dir s).links),aS ((lookN f dir s).text),.sl 2 false ((lookN f dir s).l.map entA)]]]) (args:=[.agg (fsyA f),aI (Qaq [(Qaz f dir s),(Qab (Qcc (lookN f dir s)) 11)]),.clo 219 [.dptr (fsyA f),.dptr [aI dir],.dptr [aS s],.dptr [aI ((lookN f dir s).ino),aI ((lookN f dir s).kind),aI ((lookN f dir s).links),aS ((lookN f dir s).text),.sl 2 false ((lookN f dir s).l.map entA)]]]) sr3 (Qpu (Qaq [(Qaz f dir s),(Qab (Qcc (lookN f dir s)) 11)]) f dir s (lookN f dir s) okf hp hs ⟨(Qd2 okf hp).1.1,(Qd2 okf hp).2.1⟩ ⟨(Qd2 okf hp).2.2.1,(Qd2 okf hp).2.2.2.1⟩)<|
 .run 4 [b4=b4] rt1<|
 .fin (x:=.tup [.agg [.sl 5 false ((if Qaq [(Qaz f dir s),(Qab (Qcc (lookN f dir s)) 11)]=0 then Qbc f dir s (lookN f dir s) else f).l.map nodA),aI ((if Qaq [(Qaz f dir s),(Qab (Qcc (lookN f dir s)) 11)]=0 then Qbc f dir s (lookN f dir s) else f).next)],aI (Qaq [(Qaz f dir s),(Qab (Qcc (lookN f dir s)) 11)])]) (r:=.tup [.agg (fsyA (Qdx f dir s)),aI (Qbh f dir s)]) [b4=b4] rt1 (by exact sR)) Tryz.func180 rfl (by kernel_rfl) (by kernel_rfl)
end Go.Proofs.YtahlldgocpabjaaGreat
