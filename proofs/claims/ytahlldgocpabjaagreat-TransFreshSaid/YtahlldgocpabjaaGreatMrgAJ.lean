import Derived.Test.YtahlldgocpabjaaGreatMrgAI
import Derived.Test.YtahlldgocpabjaaGreatMrgAD
import Derived.Test.YtahlldgocpabjaaGreatMrgAE
set_option maxRecDepth 100000
set_option maxHeartbeats 8000000
set_option linter.unusedVariables false
set_option linter.unusedSimpArgs false
namespace Go.Proofs.YtahlldgocpabjaaGreat
open Go Go.RowKit Copyhold Go.Proofs.Tryz
theorem Zez {r:List Ver} {st:Int} (h:∀ v∈r,v.stamp<st):Qb3 r st=r:=by
 unfold Qb3
 split
 ·rename_i v hv;have:=h v (List.mem_of_getElem? hv);rw [if_neg (by omega)]
 ·rfl
def Qiq (l:List Chn):Prop:=l.Pairwise fun c d=>c.ino<d.ino
theorem Qpd {s:Sto} (hp:Qce s):Qiq s.l:=by
 have h:=hp.2.2.2;have key:∀ (i j:Nat) (c d:Chn),i<j→s.l[i]?=some c→s.l[j]?=some d→c.ino<d.ino:=by
  intro i j
  induction j with
  | zero=>intro c d h;omega
  | succ j ih=>
   intro c d hij hc hd;obtain ⟨e,he⟩:=Qes (l:=s.l) (k:=j) (by have:=Qao hd;omega);have h1:=(h.at hd).2 e (by omega) (by simpa using he);rcases Nat.lt_or_ge i j with hij' | hij'
   ·have:=ih c e hij' hc he;omega
   ·obtain rfl:i=j:=by omega
    rw [hc] at he;obtain rfl:=Option.some.inj he;exact h1
 unfold Qiq;rw [List.pairwise_iff_getElem];intro i j hi hj hij;exact key i j _ _ hij (List.getElem?_eq_getElem hi) (List.getElem?_eq_getElem hj)
theorem Quv {n:Int}:∀ {l:List Chn},Qiq l→Qcl l n=false→∀ c∈l,c.ino ≠ n
 | [],_,_,c,hc=>by cases hc
 | x :: r,hr,ht,c,hc=>by
  obtain ⟨h1,h2⟩:=List.pairwise_cons.1 hr;by_cases hx:x.ino<n
  ·have e:Qan (x :: r) n=Qan r n+1:=by unfold Qan;simp [hx]
   have ht':Qcl r n=false:=by
    unfold Qcl at ht ⊢;rw [e] at ht;simpa using ht
   rcases List.mem_cons.1 hc with rfl | hc
   ·omega
   ·exact Quv h2 ht' c hc
  ·have e:Qan (x :: r) n=0:=by unfold Qan;simp [hx]
   have hne:x.ino ≠ n:=by
    unfold Qcl at ht;rw [e] at ht;simpa using ht
   rcases List.mem_cons.1 hc with rfl | hc
   ·exact hne
   ·have:=h1 c hc;omega
def Qbc (l:List Chn) (i:Int):Option Chn:=l.find? fun c=>c.ino==i
theorem Zeu {l:List Chn} {i:Int} {c:Chn} (h:Qbc l i=some c):c.ino=i:=by simpa using List.find?_some h
theorem Qhb {l:List Chn} {i:Int} {c:Chn} (h:Qbc l i=some c):c∈l:=List.mem_of_find?_eq_some h
theorem Qls:∀ {l:List Chn} {c:Chn},Qiq l→c∈l→Qbc l c.ino=some c
 | x :: r,c,hr,hc=>by
  obtain ⟨h1,h2⟩:=List.pairwise_cons.1 hr;unfold Qbc;rw [List.find?_cons];rcases List.mem_cons.1 hc with rfl | hc
  ·simp
  ·have:=h1 c hc;have e:(x.ino==c.ino)=false:=by simp;omega
   rw [e];exact Qls h2 hc
theorem Qzk {l:List Chn} {i:Int} (h:∀ c∈l,¬ c.ino=i):Qbc l i=none:=by
 unfold Qbc;rw [List.find?_eq_none];intro c hc;simpa using h c hc
theorem Qnh {a b:List Chn} {x:Chn} (hr:Qiq (a++x :: b)) (i:Int):Qbc (a++x :: b) i=if i=x.ino then some x else Qbc (a++b) i:=by
 by_cases hi:i=x.ino
 ·rw [if_pos hi,hi];exact Qls hr (by simp)
 ·rw [if_neg hi];have e:(x.ino==i)=false:=by simp;exact fun h=>hi h.symm
  unfold Qbc;rw [List.find?_append,List.find?_append,List.find?_cons,e]
theorem Qrl {l:List Chn} {st n:Int} {v:Ver} (hr:Qiq l):Qiq (putC l st n v):=by
 obtain ⟨c1,c2⟩:=Qta.cut (f:=Chn.ino) hr n;cases ht:Qcl l n with
 | false=>
  rw [Qlm ht];refine List.pairwise_append.2 ⟨List.Pairwise.sublist (List.take_sublist _ _) hr,List.pairwise_cons.2 ⟨fun d hd=>?_,List.Pairwise.sublist (List.drop_sublist _ _) hr⟩,fun a ha b hb=>?_⟩
  ·have h1:¬ d.ino<n:=c2 d hd;have h2:=Quv hr ht d (List.mem_of_mem_drop hd);show n<d.ino;omega
  ·have h1:a.ino<n:=c1 a ha;rcases List.mem_cons.1 hb with rfl | hb
   ·exact h1
   ·have h2:¬ b.ino<n:=c2 b hb;omega
 | true=>
  obtain ⟨c,hc,hn⟩:=Qhl ht;rw [Qhu ht hc];have e:(l.set (Qan l n) ⟨c.ino,Qb3 c.l st++[v]⟩).map Chn.ino=l.map Chn.ino:=by
   rw [List.map_set];have hlt:=Qao hc;have:(l.map Chn.ino)[Qan l n]?=some c.ino:=by rw [List.getElem?_map,hc];rfl
   apply List.ext_getElem?;intro j;rw [List.getElem?_set]
   split
   ·rename_i hj;subst hj;rw [this,if_pos (by rw [List.length_map];exact hlt)]
   ·rfl
  unfold Qiq at hr ⊢;have h1:((l.set (Qan l n) ⟨c.ino,Qb3 c.l st++[v]⟩).map Chn.ino).Pairwise (· < ·):=by rw [e,List.pairwise_map];exact hr
  rw [List.pairwise_map] at h1;exact h1
theorem Qss {l:List Chn} {st n:Int} {v:Ver} (hr:Qiq l) (i:Int) :
  Qbc (putC l st n v) i=if i=n then some ⟨n,Qb3 ((Qbc l n).elim [] Chn.l) st++[v]⟩ else Qbc l i:=by
 have hr2:=Qrl (st:=st) (n:=n) (v:=v) hr;cases ht:Qcl l n with
 | false=>
  rw [Qlm ht] at hr2 ⊢;rw [Qnh hr2,List.take_append_drop];have hnone:Qbc l n=none:=Qzk (Quv hr ht);rw [hnone];rfl
 | true=>
  obtain ⟨c,hc,hn⟩:=Qhl ht;have hlt:=Qao hc;have hcl:c=l[Qan l n]:=by
   rw [List.getElem?_eq_getElem hlt] at hc;exact (Option.some.inj hc).symm
  have hl:l=l.take (Qan l n)++c :: l.drop (Qan l n+1):=by
   rw [hcl,← List.drop_eq_getElem_cons hlt,List.take_append_drop]
  have hs:putC l st n v=l.take (Qan l n)++⟨c.ino,Qb3 c.l st++[v]⟩ :: l.drop (Qan l n+1):=by
   rw [Qhu ht hc,List.set_eq_take_append_cons_drop,if_pos hlt]
  rw [hs] at hr2 ⊢;rw [Qnh hr2];have hat:Qbc l n=some c:=by
   have:=Qls hr (List.mem_of_getElem? hc);rw [hn] at this;exact this
  rw [hat];show (if i=c.ino then _ else _)=_;rw [hn]
  split
  ·rfl
  ·rename_i hi;have h2:=Qnh (x:=c) (a:=l.take (Qan l n)) (b:=l.drop (Qan l n+1)) (by rw [← hl];exact hr) i;rw [← hl,if_neg (by rw [hn];exact hi)] at h2;exact h2.symm
def OneC (cs:List Chg):Prop:=cs.Pairwise fun a b=>¬ a.ino=b.ino
def Qio (cs:List Chg) (i:Int):Option Chg:=cs.find? fun c=>c.ino==i
theorem Qsq {cs:List Chg} {i:Int} {c:Chg} (h:Qio cs i=some c):c.ino=i∧c∈cs:=⟨by simpa using List.find?_some h,List.mem_of_find?_eq_some h⟩
theorem Qkn {st:Int}:∀ {cs:List Chg} {l:List Chn},Qiq l→OneC cs→Qiq (Qum l st cs)∧∀ i,Qbc (Qum l st cs) i=match Qio cs i with
  | some c=>some ⟨i,Qb3 ((Qbc l i).elim [] Chn.l) st++[Qak c st]⟩
  | none=>Qbc l i
 | [],l,hr,_=>⟨hr,fun i=>rfl⟩
 | c :: r,l,hr,h1=>by
  obtain ⟨a1,a2⟩:=List.pairwise_cons.1 h1;have hr2:=Qrl (st:=st) (n:=c.ino) (v:=Qak c st) hr;obtain ⟨b1,b2⟩:=Qkn (st:=st) (cs:=r) (l:=putC l st c.ino (Qak c st)) hr2 a2;refine ⟨b1,fun i=>?_⟩;show Qbc (Qum (putC l st c.ino (Qak c st)) st r) i=_;rw [b2 i];by_cases hi:c.ino=i
  ·have e1:Qio (c :: r) i=some c:=by unfold Qio;rw [List.find?_cons];simp [hi]
   have e2:Qio r i=none:=by
    unfold Qio;rw [List.find?_eq_none];intro d hd h;have h5:d.ino=i:=by simpa using h
    have:=a1 d hd;omega
   rw [e1,e2];show Qbc (putC l st c.ino (Qak c st)) i=_;rw [Qss hr,if_pos hi.symm,hi]
  ·have e1:Qio (c :: r) i=Qio r i:=by
    unfold Qio;rw [List.find?_cons,show (c.ino==i)=false from by simpa using hi]
   have e2:Qbc (putC l st c.ino (Qak c st)) i=Qbc l i:=by rw [Qss hr,if_neg (fun e=>hi e.symm)]
   rw [e1,e2]
theorem Qxk {st nx i:Int}:∀ {l:List Chn},Qiq l→(∀ c∈l,∀ n,Qb4 st c=some n→n.ino=c.ino)→atF ⟨l.filterMap (Qb4 st),nx⟩ i=(Qbc l i).bind (Qb4 st)
 | [],_,_=>rfl
 | x :: r,hr,hv=>by
  obtain ⟨h1,h2⟩:=List.pairwise_cons.1 hr;have ih:=Qxk (st:=st) (nx:=nx) (i:=i) (l:=r) h2 (fun c hc=>hv c (by simp [hc]));unfold atF at ih ⊢;unfold Qbc at ih ⊢;rw [List.find?_cons];rw [List.filterMap_cons];cases hx:(x.ino==i) with
  | true=>
   have hxi:x.ino=i:=by simpa using hx
   cases hc:Qb4 st x with
   | none=>
    show List.find? (isNo i) (r.filterMap (Qb4 st))=(some x).bind (Qb4 st);show List.find? (isNo i) (r.filterMap (Qb4 st))=Qb4 st x;rw [hc,List.find?_eq_none];intro n hn;obtain ⟨d,hd,he⟩:=List.mem_filterMap.1 hn;have:=hv d (by simp [hd]) n he;have:=h1 d hd;simp [isNo];omega
   | some n=>
    have:=hv x (by simp) n hc;show List.find? (isNo i) (n :: r.filterMap (Qb4 st))=Qb4 st x;rw [hc,List.find?_cons];have e:isNo i n=true:=by simp [isNo];omega
    rw [e]
  | false=>
   have hxi:¬ x.ino=i:=by simpa using hx
   cases hc:Qb4 st x with
   | none=>exact ih
   | some n=>
    have:=hv x (by simp) n hc;show List.find? (isNo i) (n :: r.filterMap (Qb4 st))=_;rw [List.find?_cons];have e:isNo i n=false:=by simp [isNo];omega
    rw [e];exact ih
theorem Ze4 {s:Sto} (hp:Qce s) (st i:Int):atF (Qcm s st) i=(Qbc s.l i).bind (Qb4 st):=Qxk (Qpd hp) (fun c hc n h=>Qqz hp hc h)
theorem Qz2 {s:Sto} (hp:Qce s) (st:Int):Qbs (Qcm s st).l:=by
 have hv:=fun c hc n h=>Qqz (st:=st) hp (c:=c) hc (n:=n) h;have hr:=Qpd hp;show Qta Nod.ino (s.l.filterMap (Qb4 st));have hr':s.l.Pairwise (fun c d:Chn=>(c∈s.l∧d∈s.l)∧c.ino<d.ino):=List.Pairwise.imp_of_mem (fun ha hb h=>⟨⟨ha,hb⟩,h⟩) (show s.l.Pairwise (fun c d:Chn=>c.ino<d.ino) from hr);refine List.Pairwise.filterMap _ (fun a b hab x hx y hy=>?_) hr';have:=hv a hab.1.1 x hx;have:=hv b hab.1.2 y hy;have:=hab.2;omega
theorem Qxg {s:Sto} (hp:Qce s) {c:Chn} (hc:c∈s.l):Qox s.stamp c:=by
 obtain ⟨k,hk⟩:=List.getElem?_of_mem hc;exact (hp.2.2.2.at hk).1
theorem Qvu {α:Type} {f:α→Int} {m most:Int} {b:List α} {x:α} (hb:b=[]∨Qnr f m b) (h1:m<f x) (h2:f x≤most) (h3:1≤f x):Qnr f most (b++[x]):=by
 refine ⟨by simp,fun i y hy=>?_⟩;by_cases hi:i<b.length
 ·rw [List.getElem?_append_left hi] at hy;rcases hb with rfl | hb
  ·simp at hi
  ·have g:=hb.2.at hy;exact ⟨g.1,by have:=g.2.1;omega,fun d h0 hd=>g.2.2 d h0 (by rwa [List.getElem?_append_left (by omega)] at hd)⟩
 ·have he:i=b.length:=by have:=Qao hy;simp at this;omega
  subst he;rw [List.getElem?_append_right (Nat.le_refl _),Nat.sub_self] at hy;obtain rfl:=Option.some.inj hy;refine ⟨h3,h2,fun d h0 hd=>?_⟩;rw [List.getElem?_append_left (by omega)] at hd;rcases hb with rfl | hb
  ·simp at h0
  ·have:=(hb.2.at hd).2.1;omega
theorem Qrh {α:Type} {f:α→Int} {m most:Int} {b:List α} (hb:Qnr f m b) (h:m≤most):Qnr f most b:=⟨hb.1,fun i x hx=>by
 have g:=hb.2.at hx;exact ⟨g.1,by have:=g.2.1;omega,g.2.2⟩⟩
theorem Zfr {s:Sto} (h1:1≤s.stamp) (h2:Qnr Cnt.stamp s.stamp s.nexts) (h3:AllQ (fun _ (c:Cnt)=>1≤c.next) s.nexts) (h4:Qiq s.l) (h5:∀ c∈s.l,Qox s.stamp c):Qce s:=
 ⟨h1,h2,h3,fun i c hc=>⟨h5 c (List.mem_of_getElem? hc),fun d h0 hd=>by
  have l1:=Qao hc;have l2:=Qao hd;have:=List.pairwise_iff_getElem.1 h4 (i-1) i l2 l1 (by omega);rw [List.getElem?_eq_getElem l1] at hc;rw [List.getElem?_eq_getElem l2] at hd;obtain rfl:=Option.some.inj hc;obtain rfl:=Option.some.inj hd;exact this⟩⟩
def mayC (cs:List Chg):Prop:=∀ c∈cs,1≤c.ino∧(c.gone=false→nodP (nodG c))
theorem Qxo {c:Chg} {st:Int} (h:c.gone=false→nodP (nodG c)):verP c.ino (Qak c st):=by
 unfold Qak;cases hg:c.gone with
 | true=>exact ⟨fun _=>rfl,fun h=>(by cases h)⟩
 | false=>exact ⟨fun h=>(by cases h),fun _=>⟨h hg,rfl⟩⟩
theorem Qrq {s:Sto} (hp:Qce s) (i:Int):((Qbc s.l i).elim [] Chn.l=[]∨(Qnr Ver.stamp s.stamp ((Qbc s.l i).elim [] Chn.l)∧AllQ (fun _ v=>verP i v) ((Qbc s.l i).elim [] Chn.l)))∧Qb3 ((Qbc s.l i).elim [] Chn.l) (s.stamp+1)=(Qbc s.l i).elim [] Chn.l:=by
 cases hc:Qbc s.l i with
 | none=>exact ⟨.inl rfl,rfl⟩
 | some c=>
  have h:=Qxg hp (Qhb hc);have hi:=Zeu hc;refine ⟨.inr ⟨h.2.1,hi ▸ h.2.2⟩,Zez fun v hv=>?_⟩;have:=Qq9 hp c (Qhb hc) v hv;omega
theorem Zc9 {s:Sto} {cs:List Chg} {next:Int} (hp:Qce s) (h1:OneC cs) (i:Int):Qbc (Qef s cs next).l i=match Qio cs i with
  | some c=>some ⟨i,(Qbc s.l i).elim [] Chn.l++[Qak c (s.stamp+1)]⟩
  | none=>Qbc s.l i:=by
 have h:=(Qkn (st:=s.stamp+1) (Qpd hp) h1).2 i;rw [(Qrq hp i).2] at h;show Qbc (Qar s.l (s.stamp+1) cs cs.length) i=_;rw [Qpw];exact h
theorem Qoh {s:Sto} (hp:Qce s):∃ c,s.nexts[s.nexts.length-1]?=some c∧Qja s s.stamp=c.next:=by
 have hl:=hp.2.1.1;obtain ⟨c,hc⟩:=Qes (l:=s.nexts) (k:=s.nexts.length-1) (by omega);refine ⟨c,hc,?_⟩;rw [Zb7 (Qv6 hp),hc]
theorem Qkm {s:Sto} {cs:List Chg} {next:Int} (hp:Qce s) (h1:OneC cs) (hm:mayC cs) (hn:1≤next):Qce (Qef s cs next):=by
 have hst:(Qef s cs next).stamp=s.stamp+1:=rfl;have hs1:=hp.1;have hr:Qiq (Qef s cs next).l:=by
  show Qiq (Qar s.l (s.stamp+1) cs cs.length);rw [Qpw];exact (Qkn (Qpd hp) h1).1
 obtain ⟨c0,hc0,_⟩:=Qoh hp;refine Zfr (by rw [hst];omega) ?_ ?_ hr ?_
 ·show Qnr Cnt.stamp (s.stamp+1) (Qcw s next);unfold Qcw;rw [hc0];show Qnr Cnt.stamp (s.stamp+1) (if next>c0.next then _ else _)
  split
  ·exact Qvu (m:=s.stamp) (.inr hp.2.1) (by show s.stamp<s.stamp+1;omega) (Int.le_refl _) (by show 1≤s.stamp+1;omega)
  ·exact Qrh hp.2.1 (by omega)
 ·show AllQ (fun _ (c:Cnt)=>1≤c.next) (Qcw s next);intro i c hc;have hmem:=List.mem_of_getElem? hc;unfold Qcw at hmem;rw [hc0] at hmem;have hmem:c∈(if next>c0.next then s.nexts++[⟨s.stamp+1,next⟩] else s.nexts):=hmem
  split at hmem
  ·rcases List.mem_append.1 hmem with h | h
   ·exact Qru hp c h
   ·obtain rfl:=List.mem_singleton.1 h;exact hn
  ·exact Qru hp c hmem
 ·intro c hc;have hat:=Qls hr hc;rw [Zc9 hp h1] at hat
  split at hat
  ·rename_i g hg;obtain ⟨g1,g2⟩:=Qsq hg;have he:=Option.some.inj hat;obtain ⟨o1,_⟩:=Qrq hp c.ino;have hver:=Qxo (st:=s.stamp+1) (hm g g2).2;rw [g1] at hver;have hcl:c.l=(Qbc s.l c.ino).elim [] Chn.l++[Qak g (s.stamp+1)]:=by rw [← he]
   refine ⟨by have:=(hm g g2).1;omega,?_,?_⟩
   ·rw [hcl,hst];exact Qvu (m:=s.stamp) (o1.imp id fun h=>h.1) (by rw [Qd5];omega) (by rw [Qd5];omega) (by rw [Qd5];omega)
   ·rw [hcl];intro j v hv;rcases List.mem_append.1 (List.mem_of_getElem? hv) with h | h
    ·rcases o1 with h0 | ⟨_,h0⟩
     ·rw [h0] at h;cases h
     ·obtain ⟨k,hk⟩:=List.getElem?_of_mem h;exact h0.at hk
    ·obtain rfl:=List.mem_singleton.1 h;exact hver
  ·have h:=Qxg hp (Qhb hat);exact ⟨h.1,Qrh h.2.1 (by rw [hst];omega),h.2.2⟩
def nodC (c:Chg):Option Nod:=if c.gone=true then none else some (nodG c)
theorem Zfi {n st b:Int} {r:List Ver} {v:Ver} (h:∀ u∈r++[v],u.stamp≤b):Qb4 b ⟨n,r++[v]⟩=if v.gone=true then none else some v.n:=by
 rw [Qej (v:=v)]
 ·rw [show cutV Ver.stamp b (r++[v])=(r++[v]).length from Qqf h (Int.le_refl b)];simp
 ·show (r++[v])[cutV Ver.stamp b (r++[v])-1]?=some v;rw [show cutV Ver.stamp b (r++[v])=(r++[v]).length from Qqf h (Int.le_refl b)];simp
theorem Qq0 (c:Chg) (st:Int):(if (Qak c st).gone=true then none else some (Qak c st).n)=nodC c:=by
 unfold Qak nodC nodG;cases c.gone<;>rfl
theorem old_le {s:Sto} (hp:Qce s) (i:Int):∀ v∈(Qbc s.l i).elim [] Chn.l,v.stamp≤s.stamp:=by
 cases hc:Qbc s.l i with
 | none=>intro v hv;cases hv
 | some c=>exact fun v hv=>Qq9 hp c (Qhb hc) v hv
theorem Qz3 {s:Sto} {cs:List Chg} {next:Int} (hp:Qce s) (h1:OneC cs) (hm:mayC cs) (hn:1≤next) (i:Int):atF (Qcm (Qef s cs next) (s.stamp+1)) i=match Qio cs i with
  | some c=>nodC c
  | none=>atF (Qcm s s.stamp) i:=by
 rw [Ze4 (Qkm hp h1 hm hn),Zc9 hp h1,Ze4 hp];have hle:=old_le hp i;cases hc:Qio cs i with
 | some c=>
  show Qb4 (s.stamp+1) ⟨i,_⟩=nodC c;rw [Zfi (st:=0) (fun u hu=>by
   rcases List.mem_append.1 hu with h | h
   ·have:=hle u h;omega
   ·obtain rfl:=List.mem_singleton.1 h;rw [Qd5];omega),Qq0]
 | none=>
  show (Qbc s.l i).bind (Qb4 (s.stamp+1))=(Qbc s.l i).bind (Qb4 s.stamp);cases hd:Qbc s.l i with
  | none=>rfl
  | some c=>exact (Qz1 (by omega) (Qy2 hp (Qhb hd))).symm
theorem Zb8 {s:Sto} {cs:List Chg} {next:Int} (hp:Qce s):Qja (Qef s cs next) (s.stamp+1)=maxD (Qja s s.stamp) next:=by
 obtain ⟨c0,hc0,he⟩:=Qoh hp;have hle:=Qv6 hp;rw [he];unfold maxD;have hn:(Qef s cs next).nexts=if next>c0.next then s.nexts++[⟨s.stamp+1,next⟩] else s.nexts:=by
  show Qcw s next=_
  unfold Qcw;rw [hc0]
 have hb:∀ c∈(Qef s cs next).nexts,c.stamp≤s.stamp+1:=by
  rw [hn];intro c hc
  split at hc
  ·rcases List.mem_append.1 hc with h | h
   ·have:=hle c h;omega
   ·obtain rfl:=List.mem_singleton.1 h;exact Int.le_refl _
  ·have:=hle c hc;omega
 rw [Zb7 hb,hn];by_cases h:next>c0.next
 ·rw [if_pos h,if_pos h];simp
 ·rw [if_neg h,if_neg h,hc0]
theorem Qnf (f g:Fsy):OneC (Qbr f g):=by
 refine List.Pairwise.filterMap _ (fun i j hij a ha b hb=>?_) (Qs6 f g);have:=(Qfz ha).1;have:=(Qfz hb).1;omega
theorem Qng {f g:Fsy} (hf:Qaq f) (hg:Qaq g):mayC (Qbr f g):=fun c hc=>by
 obtain ⟨i,hi,h⟩:=List.mem_filterMap.1 hc;obtain ⟨e,h1⟩:=Qfz h;have hi1:1≤i:=by
  rcases Qhf.1 hi with h | h
  ·obtain ⟨n,hn⟩:=Qom.1 h;have:=Qbg hf hn;have:=this.1.1;omega
  ·obtain ⟨n,hn⟩:=Qom.1 h;have:=Qbg hg hn;have:=this.1.1;omega
 refine ⟨by omega,fun hgo=>?_⟩;rcases h1 with h1 | h1
 ·rw [h1.1] at hgo;cases hgo
 ·obtain ⟨n1,n2,n3⟩:=Qbg hg h1.2;have:nodG c=c.n:=by unfold nodG;rw [e,← n3]
  rw [this];exact n1
theorem Qqi {f g:Fsy} (hg:Qaq g) (i:Int):(Qio (Qbr f g) i=none∧atF f i=atF g i)∨(∃ c,Qio (Qbr f g) i=some c∧nodC c=atF g i∧¬ atF f i=atF g i):=by
 cases hc:Qio (Qbr f g) i with
 | none=>
  left;refine ⟨rfl,Classical.byContradiction fun hne=>?_⟩;by_cases hi:i∈Qcp f g
  ·cases hd:chgD f g i with
   | none=>
    obtain ⟨n,h1,h2⟩:=Qxf.1 hd;exact hne (h2.trans h1.symm)
   | some c=>
    have hm:c∈Qbr f g:=List.mem_filterMap.2 ⟨i,hi,hd⟩;have:=List.find?_eq_none.1 hc c hm;simp [(Qfz hd).1] at this
  ·obtain ⟨h1,h2⟩:=no_mem hi;exact hne (h1.trans h2.symm)
 | some c=>
  right;obtain ⟨c1,c2⟩:=Qsq hc;have hne:=Qzi c2;rw [c1] at hne;obtain ⟨j,hj,hd⟩:=List.mem_filterMap.1 c2;obtain ⟨e,h1⟩:=Qfz hd;rw [c1] at e;subst e;refine ⟨c,rfl,?_,hne⟩;rcases h1 with h1 | h1
  ·unfold nodC;rw [if_pos h1.1,h1.2]
  ·obtain ⟨n1,n2,n3⟩:=Qbg hg h1.2;unfold nodC;rw [if_neg (by rw [h1.1];decide),h1.2];congr 1;unfold nodG;rw [c1,← n3]
theorem Zle:Elem prog 29 3 (.int .i64 0) 1 8:=⟨Tryz.underlying29,by kernel_rfl,by kernel_rfl,by decide⟩
theorem Zdf (n:Nat) (hn:n≤1000000) (w:World) :
  Calls prog 151 #[.slice none 0 0,.int .i64 (n:Int)] w (Zfd w 3 1 0 []):=by
 by_cases h0:0<n
 ·obtain ⟨G,w',hrun,hG1,hG2,hown,hb⟩:=Qqu Zle Tryz.underlying3 n h0 (by omega) (by omega) w;have HO:=Lib.hid (And.intro hown hb);have hi0:(0:Int)<(n:Int):=by omega
  clear hown hb
  go_enter func151,Tryz.ntmps151
  go_wp2_with (at_builtin;refine Qew rfl _ _ _ _ rfl _ _ _ _ rfl rfl (hrun _) ?_)
  go_ret
  exact ⟨_,rfl,HO.out.1,HO.out.2⟩
 ·obtain rfl:n=0:=by omega
  go_enter func151,Tryz.ntmps151
  go_wp2_with fail
  go_ret
  exact ⟨_,rfl,World.ownsRow_nil _ _ _ _,Below.refl _ _⟩
def pcI (p:List (List AV)):List AV:=[.sl 1 false p]
theorem Qso (ps:List (List (List AV))) (hl:ps.length≤100000) (ht:ps.flatten.length≤100000) (hx:∀ l∈ps.flatten,l.length=1):Qd7 prog 89 [.sl 1 false (ps.map pcI)] 3 1 (ps.flatten):=by
 exact Qel func89 (
 .r 1<|.r 1<|.r 2<|.lm 10 ps pcI<|.r 1<|let L1:Lp (Nat):=⟨fun a1=>⟨[(0,.sl 1 false (ps.map pcI)),(9,.sl 1 false (ps.map pcI)),(10,aI (ps.length:Int)),(3,aI ((ps.take a1).flatten.length:Int)),(11,aI (a1:Int))],[]⟩,fun a1=>ps.length-a1,fun a1=>a1≤ps.length⟩
 .lp L1 0 (show 0≤ps.length from Nat.zero_le _) [(3,aI 0),(11,aI 0)] [] ⟨sR,sR,sR,sO,sO,trivial⟩ trivial fun a1 ha1=>
 (fun (k:Nat) (hH1:k≤ps.length)=>.r 1<|.bd 12 ((k:Int)<(ps.length:Int)) (fun p1=>.idxM ps pcI k (m:=(k:Int)) rfl (by omega) fun x1 hx1=>
 have tx1:=Qde ps (k+1);have ux1:=congrArg List.length (Qc9 hx1);have vx1:=(@List.length_append _ (ps.take k).flatten x1);.r 2<|.run 5 [rng .i64 (((ps.take k).flatten.length:Int)+((x1).length:Int))] ⟨Qam (by omega) (by omega),trivial⟩<|
 .r 2<|.bd 20 ((((ps.take k).flatten.length:Int)+((x1).length:Int))<0) (fun p2=>.no (by omega))
 <| fun p2=>.run 2 [rng .i64 ((k:Int)+1)] ⟨Qam (by omega) (by omega),trivial⟩<|
 .bk L1 k (k+1) (show (k+1)≤ps.length from (by show _≤_;omega)) (show ps.length-(k+1)<ps.length-k from (by omega)) [(3,aI (((ps.take k).flatten.length:Int)+((x1).length:Int))),(11,aI ((k:Int)+1))] [] ⟨sR,sR,sR,Sub.of_eq (congrArg aI (by rw [Qc9 hx1,List.length_append];omega)),sO,trivial⟩ trivial)
 <| fun p1=>.r 1<|.cw (args0:=[aN,aI ((ps.take k).flatten.length:Int)]) (Qr8 (fun w=>Zdf ((ps.take k).flatten.length) (by have:=Qde ps k;omega) w)) sr2 fun V1=>
 .r 1<|.r 2<|.lm 26 ps pcI<|.r 1<|let L2:Lp (Nat × Value):=⟨fun a2=>⟨[(25,.sl 1 false (ps.map pcI)),(26,aI (ps.length:Int)),(27,aI (a2.1:Int)),(6,.rw 24 a2.2 ((ps.take a2.1).flatten.length))],[(24,.row a2.2 3 1 ((ps.take a2.1).flatten))]⟩,fun a2=>ps.length-a2.1,fun a2=>a2.1≤ps.length⟩
 .lp L2 (0,V1) (show 0≤ps.length from Nat.zero_le _) [(27,aI 0),(6,.rw 24 V1 0)] [(24,.row V1 3 1 ([]))] ⟨sR,sR,sO,Sub.of_eq (congrArg (AV.rw 24 V1) (by simp)),trivial⟩ ⟨⟨_,rfl,SubB.of_eq (by simp)⟩,trivial⟩ fun a2 ha2=>
 (fun (j:Nat) (V:Value) (hH2:j≤ps.length)=>.r 1<|.bd 28 ((j:Int)<(ps.length:Int)) (fun p3=>.idxM ps pcI j (m:=(j:Int)) rfl (by omega) fun x2 hx2=>
 have tx2:=Qde ps (j+1);have ux2:=congrArg List.length (Qc9 hx2);have vx2:=(@List.length_append _ (ps.take j).flatten x2);.r 2<|.r 2<|.app 8 V ((ps.take j).flatten) x2 (by omega) (by omega) fun V2=>
 .r 1<|.run 2 [rng .i64 ((j:Int)+1)] ⟨Qam (by omega) (by omega),trivial⟩<|
 .bk L2 (j,V) ((j+1),V2) (show (j+1)≤ps.length from (by show _≤_;omega)) (show ps.length-(j+1)<ps.length-j from (by omega)) [(27,aI ((j:Int)+1)),(6,.rw 24 V2 (((ps.take j).flatten).length+x2.length))] [(24,.row V2 3 1 (((ps.take j).flatten)++x2))] ⟨sR,sR,sO,Sub.of_eq (congrArg (AV.rw 24 V2) (by rw [Qc9 hx2,List.length_append])),trivial⟩ ⟨⟨_,rfl,SubB.of_eq (by rw [Qc9 hx2])⟩,trivial⟩)
 <| fun p3=>.r 2<|.finRow (x:=(ps.take j).flatten) (r:=ps.flatten) [] trivial 24 3 1 ((ps.take j).flatten.length) V (by rw [Qaw (by omega)])) a2.1 a2.2 ha2) a1 ha1)
theorem Qxb (a b:List Int) (h:a.length+b.length≤100000):Qd7 prog 89 [.sl 1 false ([a.map intA,b.map intA].map pcI)] 3 1 ((a++b).map intA):=by
 have hx:∀ l∈[a.map intA,b.map intA].flatten,l.length=1:=fun l hl=>by
  simp only [List.flatten_cons,List.flatten_nil,List.append_nil,List.mem_append,List.mem_map] at hl;rcases hl with ⟨x,_,rfl⟩ | ⟨x,_,rfl⟩<;>rfl
 have:=Qso [a.map intA,b.map intA] (by simp) (by simp;omega) hx;rw [List.map_append];simpa using this
theorem pcI2 {t t1 t2:Bool} (A B:List (List AV)):Sub (.sl 1 t [[.sl 1 t1 A],[.sl 1 t2 B]]) (.sl 1 false ([A,B].map pcI)):=
 (Sub.sl2 (xs:=[[.sl 1 t1 A],[.sl 1 t2 B]]) (ys:=[A,B].map pcI) rfl (fun i q p hq hp=>by
 match i,hq,hp with
 | 0,hq,hp=>simp at hq hp;subst hq hp;exact ⟨Sub.loose _ _ _,trivial⟩
 | 1,hq,hp=>simp at hq hp;subst hq hp;exact ⟨Sub.loose _ _ _,trivial⟩
 | i+2,hq,_=>simp at hq)).trans (Sub.loose _ _ _)
theorem Qy3 (a b:List Int) (h1:1≤(a++b).length) (hl:a.length+b.length≤100000):Qai prog 49 [.sl 1 false (a.map intA),.sl 1 false (b.map intA)] (.sl 1 false ((Qc5 (a++b)).map intA)):=by
 exact Qad func49 (let R:AV:=.sl 1 false ((Qc5 (a++b)).map intA);
 .r 1<|.r 3<|.op (crR prog 30) (89,[.sl 1 true ([[.sl 1 false (a.map intA)],[.sl 1 false (b.map intA)]])],9) (fun (V:Value) σ=>(σ.put (some 9) (.rw 30 V ((a++b).map intA).length)).setB 30 (.row V 3 1 ((a++b).map intA))) (Qgt (args':=[.sl 1 false ([a.map intA,b.map intA].map pcI)]) ⟨pcI2 _ _,trivial⟩ (Qxb a b (by omega))) fun V1=>
 .r 1<|.lent 1<|.r 1<|.lop (lcR prog 30) ((90,[.rw 30 V1 (((a++b).map intA).length)],some 11),.row V1 3 1 ((a++b).map intA)) (fun (_:Unit) σ=>(σ.put (some 11) (.tup [])).setB 30 (.row V1 3 1 (((a++b).mergeSort fun x y=>decide (x≤y)).map intA))) (Qdg (args':=[.rw 30 V1 ((a++b).length)]) ⟨Sub.of_eq (congrArg (AV.rw 30 V1) (by rw [List.length_map])),trivial⟩ (Qn4 (a++b) V1 h1 (by rw [List.length_append];omega))) fun _=>
 .lent 1<|.r 1<|.lop (lcR prog 30) ((91,[.rw 30 V1 (((a++b).map intA).length)],some 13),.row V1 3 1 (((a++b).mergeSort fun x y=>decide (x≤y)).map intA)) (fun (_:Unit) σ=>(σ.put (some 13) (.sl 1 false ((Qc5 (a++b)).map intA))).setB 30 gone) (Qcn (args':=[.rw 30 V1 (((a++b).mergeSort fun x y=>decide (x≤y)).length)]) ⟨Sub.of_eq (congrArg (AV.rw 30 V1) (by rw [List.length_map,List.length_mergeSort])),trivial⟩ (Qjv ((a++b).mergeSort fun x y=>decide (x≤y)) V1 (by rw [List.length_mergeSort];exact h1) (by rw [List.length_mergeSort,List.length_append];omega))) fun _=>
 .r 1<|.fi R [])
theorem Qy4 :Qai prog 49 [.sl 1 false (([]:List Int).map intA),.sl 1 false (([]:List Int).map intA)] (.sl 1 false []):=by
 exact Qad func49 (
 .r 1<|.r 3<|.op (crR prog 30) (89,[.sl 1 true ([[.sl 1 false (([]:List Int).map intA)],[.sl 1 false (([]:List Int).map intA)]])],9) (fun (V:Value) σ=>(σ.put (some 9) (.rw 30 V ([]:List (List AV)).length)).setB 30 (.row V 3 1 (([]:List (List AV))))) (Qgt (args':=[.sl 1 false ([([]:List Int).map intA,([]:List Int).map intA].map pcI)]) ⟨pcI2 _ _,trivial⟩ (Qxb [] [] (by simp))) fun V1=>
 .r 1<|.lent 1<|.r 1<|.lop (lcR prog 30) ((90,[.rw 30 V1 (([]:List (List AV)).length)],some 11),.row V1 3 1 ([]:List (List AV))) (fun (_:Unit) σ=>(σ.put (some 11) (.tup [])).setB 30 (.row V1 3 1 ([]))) (Qdg (args':=[.rw 30 V1 0]) ⟨Sub.of_eq rfl,trivial⟩ (Qn5 V1)) fun _=>
 .lent 1<|.r 1<|.lop (lcR prog 30) ((91,[.rw 30 V1 (([]:List (List AV)).length)],some 13),.row V1 3 1 ([])) (fun (_:Unit) σ=>(σ.put (some 13) (.sl 1 false ([]))).setB 30 gone) (Qcn (args':=[.rw 30 V1 0]) ⟨Sub.of_eq rfl,trivial⟩ (Qjw V1)) fun _=>
 .r 1<|.fi (.sl 1 false []) [])
theorem Qee (a b:List Int) (hl:a.length+b.length≤100000):Qai prog 49 [.sl 1 false (a.map intA),.sl 1 false (b.map intA)] (.sl 1 false ((Qc5 (a++b)).map intA)):=by
 by_cases h1:1≤(a++b).length
 ·exact Qy3 a b h1 hl
 ·rw [List.length_append] at h1;obtain rfl:a=[]:=List.eq_nil_of_length_eq_zero (by omega);obtain rfl:b=[]:=List.eq_nil_of_length_eq_zero (by omega);rw [show Qc5 ([]++[])=[] from List.eq_nil_of_length_eq_zero (Nat.le_zero.1 (Qiy []))];exact Qy4
end Go.Proofs.YtahlldgocpabjaaGreat
