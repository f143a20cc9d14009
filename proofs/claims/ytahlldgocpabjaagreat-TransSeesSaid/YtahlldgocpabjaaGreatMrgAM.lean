import Derived.Test.YtahlldgocpabjaaGreatMrgAL
import Derived.Test.YtahlldgocpabjaaGreatMrgAF
import Derived.Test.YtahlldgocpabjaaGreatMrgAG
set_option linter.unusedVariables false
set_option linter.unusedSimpArgs false
namespace Go.Proofs.YtahlldgocpabjaaGreat
open Go Go.RowKit Copyhold
theorem Quz {st n:Int} {r:List Ver} {v:Ver} (hv:v.stamp>st):Qb6 st ⟨n,r++[v]⟩=Qb6 st ⟨n,r⟩:=by
 have e:∀ r:List Ver,cutV Ver.stamp st (r++[v])=cutV Ver.stamp st r:=by
  intro r
  induction r with
  | nil=>show (if cutV Ver.stamp st []=0 then (if v.stamp≤st then 1 else 0) else _)=0;simp only [cutV,if_true];rw [if_neg (by omega)]
  | cons x r ih=>simp only [List.cons_append,cutV,ih]
 unfold Qb6 atD;rw [e];have h1:=Qgn Ver.stamp st r;by_cases h0:cutV Ver.stamp st r=0
 ·rw [if_pos h0,if_pos h0]
 ·rw [if_neg h0,if_neg h0,List.getElem?_append_left (by omega)]
theorem Zgp {r:List Ver} {st:Int} (h:∀ v∈r,v.stamp<st):Qb4 r st=r:=by
 unfold Qb4
 split
 ·rename_i v hv;have:=h v (List.mem_of_getElem? hv);rw [if_neg (by omega)]
 ·rfl
def Qhe (l:List Chn):Prop:=l.Pairwise fun c d=>c.ino<d.ino
theorem Qm3 {s:Sto} (hp:Qcf s):Qhe s.l:=by
 have h:=hp.2.2.2;have key:∀ (i j:Nat) (c d:Chn),i<j→s.l[i]?=some c→s.l[j]?=some d→c.ino<d.ino:=by
  intro i j
  induction j with
  | zero=>intro c d h;omega
  | succ j ih=>
   intro c d hij hc hd;obtain ⟨e,he⟩:=Qdo (l:=s.l) (k:=j) (by have:=Qan hd;omega);have h1:=(h.at hd).2 e (by omega) (by simpa using he);rcases Nat.lt_or_ge i j with hij' | hij'
   ·have:=ih c e hij' hc he;omega
   ·obtain rfl:i=j:=by omega
    rw [hc] at he;obtain rfl:=Option.some.inj he;exact h1
 unfold Qhe;rw [List.pairwise_iff_getElem];intro i j hi hj hij;exact key i j _ _ hij (List.getElem?_eq_getElem hi) (List.getElem?_eq_getElem hj)
theorem Qwm {n:Int}:∀ {l:List Chn},Qhe l→Qce l n=false→∀ c∈l,c.ino ≠ n
 | [],_,_,c,hc=>by cases hc
 | x :: r,hr,ht,c,hc=>by
  obtain ⟨h1,h2⟩:=List.pairwise_cons.1 hr;by_cases hx:x.ino<n
  ·have e:Qam (x :: r) n=Qam r n+1:=by unfold Qam;simp [hx]
   have ht':Qce r n=false:=by
    unfold Qce at ht ⊢;rw [e] at ht;simpa using ht
   rcases List.mem_cons.1 hc with rfl | hc
   ·omega
   ·exact Qwm h2 ht' c hc
  ·have e:Qam (x :: r) n=0:=by unfold Qam;simp [hx]
   have hne:x.ino ≠ n:=by
    unfold Qce at ht;rw [e] at ht;simpa using ht
   rcases List.mem_cons.1 hc with rfl | hc
   ·exact hne
   ·have:=h1 c hc;omega
def Qbd (l:List Chn) (i:Int):Option Chn:=l.find? fun c=>c.ino==i
theorem Qub {l:List Chn} {i:Int} {c:Chn} (h:Qbd l i=some c):c.ino=i:=by simpa using List.find?_some h
theorem Qh7 {l:List Chn} {i:Int} {c:Chn} (h:Qbd l i=some c):c∈l:=List.mem_of_find?_eq_some h
theorem Qmh:∀ {l:List Chn} {c:Chn},Qhe l→c∈l→Qbd l c.ino=some c
 | x :: r,c,hr,hc=>by
  obtain ⟨h1,h2⟩:=List.pairwise_cons.1 hr;unfold Qbd;rw [List.find?_cons];rcases List.mem_cons.1 hc with rfl | hc
  ·simp
  ·have:=h1 c hc;have e:(x.ino==c.ino)=false:=by simp;omega
   rw [e];exact Qmh h2 hc
theorem Zba {l:List Chn} {i:Int} (h:∀ c∈l,¬ c.ino=i):Qbd l i=none:=by
 unfold Qbd;rw [List.find?_eq_none];intro c hc;simpa using h c hc
theorem Qoe {a b:List Chn} {x:Chn} (hr:Qhe (a++x :: b)) (i:Int):Qbd (a++x :: b) i=if i=x.ino then some x else Qbd (a++b) i:=by
 by_cases hi:i=x.ino
 ·rw [if_pos hi,hi];exact Qmh hr (by simp)
 ·rw [if_neg hi];have e:(x.ino==i)=false:=by simp;exact fun h=>hi h.symm
  unfold Qbd;rw [List.find?_append,List.find?_append,List.find?_cons,e]
theorem Qm5 {l:List Chn} {st n:Int} {v:Ver} (hr:Qhe l):Qhe (putC l st n v):=by
 obtain ⟨c1,c2⟩:=Qus.cut (f:=Chn.ino) hr n;cases ht:Qce l n with
 | false=>
  rw [Qir ht];refine List.pairwise_append.2 ⟨List.Pairwise.sublist (List.take_sublist _ _) hr,List.pairwise_cons.2 ⟨fun d hd=>?_,List.Pairwise.sublist (List.drop_sublist _ _) hr⟩,fun a ha b hb=>?_⟩
  ·have h1:¬ d.ino<n:=c2 d hd;have h2:=Qwm hr ht d (List.mem_of_mem_drop hd);show n<d.ino;omega
  ·have h1:a.ino<n:=c1 a ha;rcases List.mem_cons.1 hb with rfl | hb
   ·exact h1
   ·have h2:¬ b.ino<n:=c2 b hb;omega
 | true=>
  obtain ⟨c,hc,hn⟩:=Qih ht;rw [Qgc ht hc];have e:(l.set (Qam l n) ⟨c.ino,Qb4 c.l st++[v]⟩).map Chn.ino=l.map Chn.ino:=by
   rw [List.map_set];have hlt:=Qan hc;have:(l.map Chn.ino)[Qam l n]?=some c.ino:=by rw [List.getElem?_map,hc];rfl
   apply List.ext_getElem?;intro j;rw [List.getElem?_set]
   split
   ·rename_i hj;subst hj;rw [this,if_pos (by rw [List.length_map];exact hlt)]
   ·rfl
  unfold Qhe at hr ⊢;have h1:((l.set (Qam l n) ⟨c.ino,Qb4 c.l st++[v]⟩).map Chn.ino).Pairwise (· < ·):=by rw [e,List.pairwise_map];exact hr
  rw [List.pairwise_map] at h1;exact h1
theorem Qua {l:List Chn} {st n:Int} {v:Ver} (hr:Qhe l) (i:Int) :
  Qbd (putC l st n v) i=if i=n then some ⟨n,Qb4 ((Qbd l n).elim [] Chn.l) st++[v]⟩ else Qbd l i:=by
 have hr2:=Qm5 (st:=st) (n:=n) (v:=v) hr;cases ht:Qce l n with
 | false=>
  rw [Qir ht] at hr2 ⊢;rw [Qoe hr2,List.take_append_drop];have hnone:Qbd l n=none:=Zba (Qwm hr ht);rw [hnone];rfl
 | true=>
  obtain ⟨c,hc,hn⟩:=Qih ht;have hlt:=Qan hc;have hcl:c=l[Qam l n]:=by
   rw [List.getElem?_eq_getElem hlt] at hc;exact (Option.some.inj hc).symm
  have hl:l=l.take (Qam l n)++c :: l.drop (Qam l n+1):=by
   rw [hcl,← List.drop_eq_getElem_cons hlt,List.take_append_drop]
  have hs:putC l st n v=l.take (Qam l n)++⟨c.ino,Qb4 c.l st++[v]⟩ :: l.drop (Qam l n+1):=by
   rw [Qgc ht hc,List.set_eq_take_append_cons_drop,if_pos hlt]
  rw [hs] at hr2 ⊢;rw [Qoe hr2];have hat:Qbd l n=some c:=by
   have:=Qmh hr (List.mem_of_getElem? hc);rw [hn] at this;exact this
  rw [hat];show (if i=c.ino then _ else _)=_;rw [hn]
  split
  ·rfl
  ·rename_i hi;have h2:=Qoe (x:=c) (a:=l.take (Qam l n)) (b:=l.drop (Qam l n+1)) (by rw [← hl];exact hr) i;rw [← hl,if_neg (by rw [hn];exact hi)] at h2;exact h2.symm
def OneC (cs:List Chg):Prop:=cs.Pairwise fun a b=>¬ a.ino=b.ino
def Qjb (cs:List Chg) (i:Int):Option Chg:=cs.find? fun c=>c.ino==i
theorem Qt9 {cs:List Chg} {i:Int} {c:Chg} (h:Qjb cs i=some c):c.ino=i∧c∈cs:=⟨by simpa using List.find?_some h,List.mem_of_find?_eq_some h⟩
theorem Qle {st:Int}:∀ {cs:List Chg} {l:List Chn},Qhe l→OneC cs→Qhe (Qov l st cs)∧∀ i,Qbd (Qov l st cs) i=match Qjb cs i with
  | some c=>some ⟨i,Qb4 ((Qbd l i).elim [] Chn.l) st++[Qak c st]⟩
  | none=>Qbd l i
 | [],l,hr,_=>⟨hr,fun i=>rfl⟩
 | c :: r,l,hr,h1=>by
  obtain ⟨a1,a2⟩:=List.pairwise_cons.1 h1;have hr2:=Qm5 (st:=st) (n:=c.ino) (v:=Qak c st) hr;obtain ⟨b1,b2⟩:=Qle (st:=st) (cs:=r) (l:=putC l st c.ino (Qak c st)) hr2 a2;refine ⟨b1,fun i=>?_⟩;show Qbd (Qov (putC l st c.ino (Qak c st)) st r) i=_;rw [b2 i];by_cases hi:c.ino=i
  ·have e1:Qjb (c :: r) i=some c:=by unfold Qjb;rw [List.find?_cons];simp [hi]
   have e2:Qjb r i=none:=by
    unfold Qjb;rw [List.find?_eq_none];intro d hd h;have h5:d.ino=i:=by simpa using h
    have:=a1 d hd;omega
   rw [e1,e2];show Qbd (putC l st c.ino (Qak c st)) i=_;rw [Qua hr,if_pos hi.symm,hi]
  ·have e1:Qjb (c :: r) i=Qjb r i:=by
    unfold Qjb;rw [List.find?_cons,show (c.ino==i)=false from by simpa using hi]
   have e2:Qbd (putC l st c.ino (Qak c st)) i=Qbd l i:=by rw [Qua hr,if_neg (fun e=>hi e.symm)]
   rw [e1,e2]
theorem Qy6 {st nx i:Int}:∀ {l:List Chn},Qhe l→(∀ c∈l,∀ n,Qb6 st c=some n→n.ino=c.ino)→atF ⟨l.filterMap (Qb6 st),nx⟩ i=(Qbd l i).bind (Qb6 st)
 | [],_,_=>rfl
 | x :: r,hr,hv=>by
  obtain ⟨h1,h2⟩:=List.pairwise_cons.1 hr;have ih:=Qy6 (st:=st) (nx:=nx) (i:=i) (l:=r) h2 (fun c hc=>hv c (by simp [hc]));unfold atF at ih ⊢;unfold Qbd at ih ⊢;rw [List.find?_cons];rw [List.filterMap_cons];cases hx:(x.ino==i) with
  | true=>
   have hxi:x.ino=i:=by simpa using hx
   cases hc:Qb6 st x with
   | none=>
    show List.find? (isNo i) (r.filterMap (Qb6 st))=(some x).bind (Qb6 st);show List.find? (isNo i) (r.filterMap (Qb6 st))=Qb6 st x;rw [hc,List.find?_eq_none];intro n hn;obtain ⟨d,hd,he⟩:=List.mem_filterMap.1 hn;have:=hv d (by simp [hd]) n he;have:=h1 d hd;simp [isNo];omega
   | some n=>
    have:=hv x (by simp) n hc;show List.find? (isNo i) (n :: r.filterMap (Qb6 st))=Qb6 st x;rw [hc,List.find?_cons];have e:isNo i n=true:=by simp [isNo];omega
    rw [e]
  | false=>
   have hxi:¬ x.ino=i:=by simpa using hx
   cases hc:Qb6 st x with
   | none=>exact ih
   | some n=>
    have:=hv x (by simp) n hc;show List.find? (isNo i) (n :: r.filterMap (Qb6 st))=_;rw [List.find?_cons];have e:isNo i n=false:=by simp [isNo];omega
    rw [e];exact ih
theorem Qrw {s:Sto} (hp:Qcf s) (st i:Int):atF (Qb5 s st) i=(Qbd s.l i).bind (Qb6 st):=Qy6 (Qm3 hp) (fun c hc n h=>Qse hp hc h)
theorem Qml {s:Sto} (hp:Qcf s) (st:Int):Qbw (Qb5 s st).l:=by
 have hv:=fun c hc n h=>Qse (st:=st) hp (c:=c) hc (n:=n) h;have hr:=Qm3 hp;show Qus Nod.ino (s.l.filterMap (Qb6 st));have hr':s.l.Pairwise (fun c d:Chn=>(c∈s.l∧d∈s.l)∧c.ino<d.ino):=List.Pairwise.imp_of_mem (fun ha hb h=>⟨⟨ha,hb⟩,h⟩) (show s.l.Pairwise (fun c d:Chn=>c.ino<d.ino) from hr);refine List.Pairwise.filterMap _ (fun a b hab x hx y hy=>?_) hr';have:=hv a hab.1.1 x hx;have:=hv b hab.1.2 y hy;have:=hab.2;omega
theorem Qrt {s:Sto} (hp:Qcf s) {c:Chn} (hc:c∈s.l):Qp0 s.stamp c:=by
 obtain ⟨k,hk⟩:=List.getElem?_of_mem hc;exact (hp.2.2.2.at hk).1
theorem Qxj {α:Type} {f:α→Int} {m most:Int} {b:List α} {x:α} (hb:b=[]∨Qor f m b) (h1:m<f x) (h2:f x≤most) (h3:1≤f x):Qor f most (b++[x]):=by
 refine ⟨by simp,fun i y hy=>?_⟩;by_cases hi:i<b.length
 ·rw [List.getElem?_append_left hi] at hy;rcases hb with rfl | hb
  ·simp at hi
  ·have g:=hb.2.at hy;exact ⟨g.1,by have:=g.2.1;omega,fun d h0 hd=>g.2.2 d h0 (by rwa [List.getElem?_append_left (by omega)] at hd)⟩
 ·have he:i=b.length:=by have:=Qan hy;simp at this;omega
  subst he;rw [List.getElem?_append_right (Nat.le_refl _),Nat.sub_self] at hy;obtain rfl:=Option.some.inj hy;refine ⟨h3,h2,fun d h0 hd=>?_⟩;rw [List.getElem?_append_left (by omega)] at hd;rcases hb with rfl | hb
  ·simp at h0
  ·have:=(hb.2.at hd).2.1;omega
theorem Qsw {α:Type} {f:α→Int} {m most:Int} {b:List α} (hb:Qor f m b) (h:m≤most):Qor f most b:=⟨hb.1,fun i x hx=>by
 have g:=hb.2.at hx;exact ⟨g.1,by have:=g.2.1;omega,g.2.2⟩⟩
theorem Zhf {s:Sto} (h1:1≤s.stamp) (h2:Qor Cnt.stamp s.stamp s.nexts) (h3:AllQ (fun _ (c:Cnt)=>1≤c.next) s.nexts) (h4:Qhe s.l) (h5:∀ c∈s.l,Qp0 s.stamp c):Qcf s:=
 ⟨h1,h2,h3,fun i c hc=>⟨h5 c (List.mem_of_getElem? hc),fun d h0 hd=>by
  have l1:=Qan hc;have l2:=Qan hd;have:=List.pairwise_iff_getElem.1 h4 (i-1) i l2 l1 (by omega);rw [List.getElem?_eq_getElem l1] at hc;rw [List.getElem?_eq_getElem l2] at hd;obtain rfl:=Option.some.inj hc;obtain rfl:=Option.some.inj hd;exact this⟩⟩
def mayC (cs:List Chg):Prop:=∀ c∈cs,1≤c.ino∧(c.gone=false→nodP (nodG c))
theorem Qza {c:Chg} {st:Int} (h:c.gone=false→nodP (nodG c)):verP c.ino (Qak c st):=by
 unfold Qak;cases hg:c.gone with
 | true=>exact ⟨fun _=>rfl,fun h=>(by cases h)⟩
 | false=>exact ⟨fun h=>(by cases h),fun _=>⟨h hg,rfl⟩⟩
theorem Qs5 {s:Sto} (hp:Qcf s) (i:Int):((Qbd s.l i).elim [] Chn.l=[]∨(Qor Ver.stamp s.stamp ((Qbd s.l i).elim [] Chn.l)∧AllQ (fun _ v=>verP i v) ((Qbd s.l i).elim [] Chn.l)))∧Qb4 ((Qbd s.l i).elim [] Chn.l) (s.stamp+1)=(Qbd s.l i).elim [] Chn.l:=by
 cases hc:Qbd s.l i with
 | none=>exact ⟨.inl rfl,rfl⟩
 | some c=>
  have h:=Qrt hp (Qh7 hc);have hi:=Qub hc;refine ⟨.inr ⟨h.2.1,hi ▸ h.2.2⟩,Zgp fun v hv=>?_⟩;have:=Qsn hp c (Qh7 hc) v hv;omega
theorem Qwe {s:Sto} {cs:List Chg} {next:Int} (hp:Qcf s) (h1:OneC cs) (i:Int):Qbd (Qc1 s cs next).l i=match Qjb cs i with
  | some c=>some ⟨i,(Qbd s.l i).elim [] Chn.l++[Qak c (s.stamp+1)]⟩
  | none=>Qbd s.l i:=by
 have h:=(Qle (st:=s.stamp+1) (Qm3 hp) h1).2 i;rw [(Qs5 hp i).2] at h;show Qbd (Qar s.l (s.stamp+1) cs cs.length) i=_;rw [Qq2];exact h
theorem Qk8 {s:Sto} (hp:Qcf s):∃ c,s.nexts[s.nexts.length-1]?=some c∧Qhx s s.stamp=c.next:=by
 have hl:=hp.2.1.1;obtain ⟨c,hc⟩:=Qdo (l:=s.nexts) (k:=s.nexts.length-1) (by omega);refine ⟨c,hc,?_⟩;rw [Zdz (Qxx hp),hc]
theorem Qix {s:Sto} {cs:List Chg} {next:Int} (hp:Qcf s) (h1:OneC cs) (hm:mayC cs) (hn:1≤next):Qcf (Qc1 s cs next):=by
 have hst:(Qc1 s cs next).stamp=s.stamp+1:=rfl;have hs1:=hp.1;have hr:Qhe (Qc1 s cs next).l:=by
  show Qhe (Qar s.l (s.stamp+1) cs cs.length);rw [Qq2];exact (Qle (Qm3 hp) h1).1
 obtain ⟨c0,hc0,_⟩:=Qk8 hp;refine Zhf (by rw [hst];omega) ?_ ?_ hr ?_
 ·show Qor Cnt.stamp (s.stamp+1) (Qcz s next);unfold Qcz;rw [hc0];show Qor Cnt.stamp (s.stamp+1) (if next>c0.next then _ else _)
  split
  ·exact Qxj (m:=s.stamp) (.inr hp.2.1) (by show s.stamp<s.stamp+1;omega) (Int.le_refl _) (by show 1≤s.stamp+1;omega)
  ·exact Qsw hp.2.1 (by omega)
 ·show AllQ (fun _ (c:Cnt)=>1≤c.next) (Qcz s next);intro i c hc;have hmem:=List.mem_of_getElem? hc;unfold Qcz at hmem;rw [hc0] at hmem;have hmem:c∈(if next>c0.next then s.nexts++[⟨s.stamp+1,next⟩] else s.nexts):=hmem
  split at hmem
  ·rcases List.mem_append.1 hmem with h | h
   ·exact Qs8 hp c h
   ·obtain rfl:=List.mem_singleton.1 h;exact hn
  ·exact Qs8 hp c hmem
 ·intro c hc;have hat:=Qmh hr hc;rw [Qwe hp h1] at hat
  split at hat
  ·rename_i g hg;obtain ⟨g1,g2⟩:=Qt9 hg;have he:=Option.some.inj hat;obtain ⟨o1,_⟩:=Qs5 hp c.ino;have hver:=Qza (st:=s.stamp+1) (hm g g2).2;rw [g1] at hver;have hcl:c.l=(Qbd s.l c.ino).elim [] Chn.l++[Qak g (s.stamp+1)]:=by rw [← he]
   refine ⟨by have:=(hm g g2).1;omega,?_,?_⟩
   ·rw [hcl,hst];exact Qxj (m:=s.stamp) (o1.imp id fun h=>h.1) (by rw [Qb7];omega) (by rw [Qb7];omega) (by rw [Qb7];omega)
   ·rw [hcl];intro j v hv;rcases List.mem_append.1 (List.mem_of_getElem? hv) with h | h
    ·rcases o1 with h0 | ⟨_,h0⟩
     ·rw [h0] at h;cases h
     ·obtain ⟨k,hk⟩:=List.getElem?_of_mem h;exact h0.at hk
    ·obtain rfl:=List.mem_singleton.1 h;exact hver
  ·have h:=Qrt hp (Qh7 hat);exact ⟨h.1,Qsw h.2.1 (by rw [hst];omega),h.2.2⟩
def nodC (c:Chg):Option Nod:=if c.gone=true then none else some (nodG c)
theorem Zg6 {n st b:Int} {r:List Ver} {v:Ver} (h:∀ u∈r++[v],u.stamp≤b):Qb6 b ⟨n,r++[v]⟩=if v.gone=true then none else some v.n:=by
 rw [Qex (v:=v)]
 ·rw [show cutV Ver.stamp b (r++[v])=(r++[v]).length from Qro h (Int.le_refl b)];simp
 ·show (r++[v])[cutV Ver.stamp b (r++[v])-1]?=some v;rw [show cutV Ver.stamp b (r++[v])=(r++[v]).length from Qro h (Int.le_refl b)];simp
theorem Qsf (c:Chg) (st:Int):(if (Qak c st).gone=true then none else some (Qak c st).n)=nodC c:=by
 unfold Qak nodC nodG;cases c.gone<;>rfl
theorem old_le {s:Sto} (hp:Qcf s) (i:Int):∀ v∈(Qbd s.l i).elim [] Chn.l,v.stamp≤s.stamp:=by
 cases hc:Qbd s.l i with
 | none=>intro v hv;cases hv
 | some c=>exact fun v hv=>Qsn hp c (Qh7 hc) v hv
theorem Zbu {s:Sto} {cs:List Chg} {next:Int} (hp:Qcf s) (h1:OneC cs) (hm:mayC cs) (hn:1≤next) (i:Int):atF (Qb5 (Qc1 s cs next) (s.stamp+1)) i=match Qjb cs i with
  | some c=>nodC c
  | none=>atF (Qb5 s s.stamp) i:=by
 rw [Qrw (Qix hp h1 hm hn),Qwe hp h1,Qrw hp];have hle:=old_le hp i;cases hc:Qjb cs i with
 | some c=>
  show Qb6 (s.stamp+1) ⟨i,_⟩=nodC c;rw [Zg6 (st:=0) (fun u hu=>by
   rcases List.mem_append.1 hu with h | h
   ·have:=hle u h;omega
   ·obtain rfl:=List.mem_singleton.1 h;rw [Qb7];omega),Qsf]
 | none=>
  show (Qbd s.l i).bind (Qb6 (s.stamp+1))=(Qbd s.l i).bind (Qb6 s.stamp);cases hd:Qbd s.l i with
  | none=>rfl
  | some c=>exact (Zbs (by omega) (Zas hp (Qh7 hd))).symm
theorem Zd0 {s:Sto} {cs:List Chg} {next:Int} (hp:Qcf s):Qhx (Qc1 s cs next) (s.stamp+1)=maxD (Qhx s s.stamp) next:=by
 obtain ⟨c0,hc0,he⟩:=Qk8 hp;have hle:=Qxx hp;rw [he];unfold maxD;have hn:(Qc1 s cs next).nexts=if next>c0.next then s.nexts++[⟨s.stamp+1,next⟩] else s.nexts:=by
  show Qcz s next=_
  unfold Qcz;rw [hc0]
 have hb:∀ c∈(Qc1 s cs next).nexts,c.stamp≤s.stamp+1:=by
  rw [hn];intro c hc
  split at hc
  ·rcases List.mem_append.1 hc with h | h
   ·have:=hle c h;omega
   ·obtain rfl:=List.mem_singleton.1 h;exact Int.le_refl _
  ·have:=hle c hc;omega
 rw [Zdz hb,hn];by_cases h:next>c0.next
 ·rw [if_pos h,if_pos h];simp
 ·rw [if_neg h,if_neg h,hc0]
theorem Zbt {s:Sto} {cs:List Chg} {next st:Int} (hp:Qcf s) (h1:OneC cs) (hm:mayC cs) (hn:1≤next) (hs:st≤s.stamp):Qb5 (Qc1 s cs next) st=Qb5 s st:=by
 have hp2:=Qix hp h1 hm hn;refine Qn1 (Qml hp2 st) (Qml hp st) (fun i=>?_) ?_
 ·rw [Qrw hp2,Qwe hp h1,Qrw hp];cases hc:Qjb cs i with
  | none=>rfl
  | some c=>
   show Qb6 st ⟨i,_++[_]⟩=(Qbd s.l i).bind (Qb6 st);rw [Quz (by rw [Qb7];omega)];cases hd:Qbd s.l i with
   | none=>rfl
   | some d=>
    have:=Qub hd;subst this;rfl
 ·show Qhx (Qc1 s cs next) st=Qhx s st;obtain ⟨c0,hc0,he⟩:=Qk8 hp;have hn:(Qc1 s cs next).nexts=if next>c0.next then s.nexts++[⟨s.stamp+1,next⟩] else s.nexts:=by
   show Qcz s next=_
   unfold Qcz;rw [hc0]
  unfold Qhx;rw [hn];by_cases hx:next>c0.next
  ·rw [if_pos hx];have e:atD Cnt.stamp st (s.nexts++[(⟨s.stamp+1,next⟩:Cnt)])=atD Cnt.stamp st s.nexts:=by
    have ec:∀ r:List Cnt,cutV Cnt.stamp st (r++[(⟨s.stamp+1,next⟩:Cnt)])=cutV Cnt.stamp st r:=by
     intro r
     induction r with
     | nil=>show (if cutV Cnt.stamp st []=0 then (if s.stamp+1≤st then 1 else 0) else _)=0;simp only [cutV,if_true];rw [if_neg (by omega)]
     | cons x r ih=>simp only [List.cons_append,cutV,ih]
    unfold atD;rw [ec];by_cases h0:cutV Cnt.stamp st s.nexts=0
    ·rw [if_pos h0,if_pos h0]
    ·have:=Qgn Cnt.stamp st s.nexts;rw [if_neg h0,if_neg h0,List.getElem?_append_left (by omega)]
   rw [e]
  ·rw [if_neg hx]
theorem Qjl (f g:Fsy):OneC (Qbj f g):=by
 refine List.Pairwise.filterMap _ (fun i j hij a ha b hb=>?_) (Quo f g);have:=(Qgp ha).1;have:=(Qgp hb).1;omega
theorem Qjm {f g:Fsy} (hf:Qaq f) (hg:Qaq g):mayC (Qbj f g):=fun c hc=>by
 obtain ⟨i,hi,h⟩:=List.mem_filterMap.1 hc;obtain ⟨e,h1⟩:=Qgp h;have hi1:1≤i:=by
  rcases Qib.1 hi with h | h
  ·obtain ⟨n,hn⟩:=Qpm.1 h;have:=Qbm hf hn;have:=this.1.1;omega
  ·obtain ⟨n,hn⟩:=Qpm.1 h;have:=Qbm hg hn;have:=this.1.1;omega
 refine ⟨by omega,fun hgo=>?_⟩;rcases h1 with h1 | h1
 ·rw [h1.1] at hgo;cases hgo
 ·obtain ⟨n1,n2,n3⟩:=Qbm hg h1.2;have:nodG c=c.n:=by unfold nodG;rw [e,← n3]
  rw [this];exact n1
theorem Qrr {f g:Fsy} (hg:Qaq g) (i:Int):(Qjb (Qbj f g) i=none∧atF f i=atF g i)∨(∃ c,Qjb (Qbj f g) i=some c∧nodC c=atF g i∧¬ atF f i=atF g i):=by
 cases hc:Qjb (Qbj f g) i with
 | none=>
  left;refine ⟨rfl,Classical.byContradiction fun hne=>?_⟩;by_cases hi:i∈Qba f g
  ·cases hd:chgD f g i with
   | none=>
    obtain ⟨n,h1,h2⟩:=Qy2.1 hd;exact hne (h2.trans h1.symm)
   | some c=>
    have hm:c∈Qbj f g:=List.mem_filterMap.2 ⟨i,hi,hd⟩;have:=List.find?_eq_none.1 hc c hm;simp [(Qgp hd).1] at this
  ·obtain ⟨h1,h2⟩:=no_mem hi;exact hne (h1.trans h2.symm)
 | some c=>
  right;obtain ⟨c1,c2⟩:=Qt9 hc;have hne:=Za8 c2;rw [c1] at hne;obtain ⟨j,hj,hd⟩:=List.mem_filterMap.1 c2;obtain ⟨e,h1⟩:=Qgp hd;rw [c1] at e;subst e;refine ⟨c,rfl,?_,hne⟩;rcases h1 with h1 | h1
  ·unfold nodC;rw [if_pos h1.1,h1.2]
  ·obtain ⟨n1,n2,n3⟩:=Qbm hg h1.2;unfold nodC;rw [if_neg (by rw [h1.1];decide),h1.2];congr 1;unfold nodG;rw [c1,← n3]
end Go.Proofs.YtahlldgocpabjaaGreat
