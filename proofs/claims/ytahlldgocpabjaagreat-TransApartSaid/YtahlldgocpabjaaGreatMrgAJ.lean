import Derived.Test.YtahlldgocpabjaaGreatMrgAI
import Derived.Test.YtahlldgocpabjaaGreatMrgAD
import Derived.Test.YtahlldgocpabjaaGreatMrgAE
set_option maxRecDepth 100000
set_option maxHeartbeats 8000000
set_option linter.unusedVariables false
set_option linter.unusedSimpArgs false
namespace Go.Proofs.YtahlldgocpabjaaGreat
open Go Go.RowKit Copyhold Go.Proofs.Tryz
theorem Qui {st n:Int} {r:List Ver} {v:Ver} (hv:v.stamp>st):Qbs st ⟨n,r++[v]⟩=Qbs st ⟨n,r⟩:=by
 have e:∀ r:List Ver,cutV Ver.stamp st (r++[v])=cutV Ver.stamp st r:=by
  intro r
  induction r with
  | nil=>show (if cutV Ver.stamp st []=0 then (if v.stamp≤st then 1 else 0) else _)=0;simp only [cutV,if_true];rw [if_neg (by omega)]
  | cons x r ih=>simp only [List.cons_append,cutV,ih]
 unfold Qbs atD;rw [e];have h1:=Qgc Ver.stamp st r;by_cases h0:cutV Ver.stamp st r=0
 ·rw [if_pos h0,if_pos h0]
 ·rw [if_neg h0,if_neg h0,List.getElem?_append_left (by omega)]
theorem Zf3 {r:List Ver} {st:Int} (h:∀ v∈r,v.stamp<st):Qb7 r st=r:=by
 unfold Qb7
 split
 ·rename_i v hv;have:=h v (List.mem_of_getElem? hv);rw [if_neg (by omega)]
 ·rfl
def Qjd (l:List Chn):Prop:=l.Pairwise fun c d=>c.ino<d.ino
theorem Qp8 {s:Sto} (hp:Qcc s):Qjd s.l:=by
 have h:=hp.2.2.2;have key:∀ (i j:Nat) (c d:Chn),i<j→s.l[i]?=some c→s.l[j]?=some d→c.ino<d.ino:=by
  intro i j
  induction j with
  | zero=>intro c d h;omega
  | succ j ih=>
   intro c d hij hc hd;obtain ⟨e,he⟩:=Qe4 (l:=s.l) (k:=j) (by have:=Qap hd;omega);have h1:=(h.at hd).2 e (by omega) (by simpa using he);rcases Nat.lt_or_ge i j with hij' | hij'
   ·have:=ih c e hij' hc he;omega
   ·obtain rfl:i=j:=by omega
    rw [hc] at he;obtain rfl:=Option.some.inj he;exact h1
 unfold Qjd;rw [List.pairwise_iff_getElem];intro i j hi hj hij;exact key i j _ _ hij (List.getElem?_eq_getElem hi) (List.getElem?_eq_getElem hj)
theorem Qv1 {n:Int}:∀ {l:List Chn},Qjd l→Qcp l n=false→∀ c∈l,c.ino ≠ n
 | [],_,_,c,hc=>by cases hc
 | x :: r,hr,ht,c,hc=>by
  obtain ⟨h1,h2⟩:=List.pairwise_cons.1 hr;by_cases hx:x.ino<n
  ·have e:Qan (x :: r) n=Qan r n+1:=by unfold Qan;simp [hx]
   have ht':Qcp r n=false:=by
    unfold Qcp at ht ⊢;rw [e] at ht;simpa using ht
   rcases List.mem_cons.1 hc with rfl | hc
   ·omega
   ·exact Qv1 h2 ht' c hc
  ·have e:Qan (x :: r) n=0:=by unfold Qan;simp [hx]
   have hne:x.ino ≠ n:=by
    unfold Qcp at ht;rw [e] at ht;simpa using ht
   rcases List.mem_cons.1 hc with rfl | hc
   ·exact hne
   ·have:=h1 c hc;omega
def Qbd (l:List Chn) (i:Int):Option Chn:=l.find? fun c=>c.ino==i
theorem Qts {l:List Chn} {i:Int} {c:Chn} (h:Qbd l i=some c):c.ino=i:=by simpa using List.find?_some h
theorem Qhs {l:List Chn} {i:Int} {c:Chn} (h:Qbd l i=some c):c∈l:=List.mem_of_find?_eq_some h
theorem Qmi:∀ {l:List Chn} {c:Chn},Qjd l→c∈l→Qbd l c.ino=some c
 | x :: r,c,hr,hc=>by
  obtain ⟨h1,h2⟩:=List.pairwise_cons.1 hr;unfold Qbd;rw [List.find?_cons];rcases List.mem_cons.1 hc with rfl | hc
  ·simp
  ·have:=h1 c hc;have e:(x.ino==c.ino)=false:=by simp;omega
   rw [e];exact Qmi h2 hc
theorem Zaw {l:List Chn} {i:Int} (h:∀ c∈l,¬ c.ino=i):Qbd l i=none:=by
 unfold Qbd;rw [List.find?_eq_none];intro c hc;simpa using h c hc
theorem Qob {a b:List Chn} {x:Chn} (hr:Qjd (a++x :: b)) (i:Int):Qbd (a++x :: b) i=if i=x.ino then some x else Qbd (a++b) i:=by
 by_cases hi:i=x.ino
 ·rw [if_pos hi,hi];exact Qmi hr (by simp)
 ·rw [if_neg hi];have e:(x.ino==i)=false:=by simp;exact fun h=>hi h.symm
  unfold Qbd;rw [List.find?_append,List.find?_append,List.find?_cons,e]
theorem Qsl {l:List Chn} {st n:Int} {v:Ver} (hr:Qjd l):Qjd (putC l st n v):=by
 obtain ⟨c1,c2⟩:=Qub.cut (f:=Chn.ino) hr n;cases ht:Qcp l n with
 | false=>
  rw [Qmc ht];refine List.pairwise_append.2 ⟨List.Pairwise.sublist (List.take_sublist _ _) hr,List.pairwise_cons.2 ⟨fun d hd=>?_,List.Pairwise.sublist (List.drop_sublist _ _) hr⟩,fun a ha b hb=>?_⟩
  ·have h1:¬ d.ino<n:=c2 d hd;have h2:=Qv1 hr ht d (List.mem_of_mem_drop hd);show n<d.ino;omega
  ·have h1:a.ino<n:=c1 a ha;rcases List.mem_cons.1 hb with rfl | hb
   ·exact h1
   ·have h2:¬ b.ino<n:=c2 b hb;omega
 | true=>
  obtain ⟨c,hc,hn⟩:=Qh2 ht;rw [Qib ht hc];have e:(l.set (Qan l n) ⟨c.ino,Qb7 c.l st++[v]⟩).map Chn.ino=l.map Chn.ino:=by
   rw [List.map_set];have hlt:=Qap hc;have:(l.map Chn.ino)[Qan l n]?=some c.ino:=by rw [List.getElem?_map,hc];rfl
   apply List.ext_getElem?;intro j;rw [List.getElem?_set]
   split
   ·rename_i hj;subst hj;rw [this,if_pos (by rw [List.length_map];exact hlt)]
   ·rfl
  unfold Qjd at hr ⊢;have h1:((l.set (Qan l n) ⟨c.ino,Qb7 c.l st++[v]⟩).map Chn.ino).Pairwise (· < ·):=by rw [e,List.pairwise_map];exact hr
  rw [List.pairwise_map] at h1;exact h1
theorem Qtr {l:List Chn} {st n:Int} {v:Ver} (hr:Qjd l) (i:Int) :
  Qbd (putC l st n v) i=if i=n then some ⟨n,Qb7 ((Qbd l n).elim [] Chn.l) st++[v]⟩ else Qbd l i:=by
 have hr2:=Qsl (st:=st) (n:=n) (v:=v) hr;cases ht:Qcp l n with
 | false=>
  rw [Qmc ht] at hr2 ⊢;rw [Qob hr2,List.take_append_drop];have hnone:Qbd l n=none:=Zaw (Qv1 hr ht);rw [hnone];rfl
 | true=>
  obtain ⟨c,hc,hn⟩:=Qh2 ht;have hlt:=Qap hc;have hcl:c=l[Qan l n]:=by
   rw [List.getElem?_eq_getElem hlt] at hc;exact (Option.some.inj hc).symm
  have hl:l=l.take (Qan l n)++c :: l.drop (Qan l n+1):=by
   rw [hcl,← List.drop_eq_getElem_cons hlt,List.take_append_drop]
  have hs:putC l st n v=l.take (Qan l n)++⟨c.ino,Qb7 c.l st++[v]⟩ :: l.drop (Qan l n+1):=by
   rw [Qib ht hc,List.set_eq_take_append_cons_drop,if_pos hlt]
  rw [hs] at hr2 ⊢;rw [Qob hr2];have hat:Qbd l n=some c:=by
   have:=Qmi hr (List.mem_of_getElem? hc);rw [hn] at this;exact this
  rw [hat];show (if i=c.ino then _ else _)=_;rw [hn]
  split
  ·rfl
  ·rename_i hi;have h2:=Qob (x:=c) (a:=l.take (Qan l n)) (b:=l.drop (Qan l n+1)) (by rw [← hl];exact hr) i;rw [← hl,if_neg (by rw [hn];exact hi)] at h2;exact h2.symm
def OneC (cs:List Chg):Prop:=cs.Pairwise fun a b=>¬ a.ino=b.ino
def Qiy (cs:List Chg) (i:Int):Option Chg:=cs.find? fun c=>c.ino==i
theorem Qn9 {cs:List Chg} {i:Int} {c:Chg} (h:Qiy cs i=some c):c.ino=i∧c∈cs:=⟨by simpa using List.find?_some h,List.mem_of_find?_eq_some h⟩
theorem Qlf {st:Int}:∀ {cs:List Chg} {l:List Chn},Qjd l→OneC cs→Qjd (Qvs l st cs)∧∀ i,Qbd (Qvs l st cs) i=match Qiy cs i with
  | some c=>some ⟨i,Qb7 ((Qbd l i).elim [] Chn.l) st++[Qak c st]⟩
  | none=>Qbd l i
 | [],l,hr,_=>⟨hr,fun i=>rfl⟩
 | c :: r,l,hr,h1=>by
  obtain ⟨a1,a2⟩:=List.pairwise_cons.1 h1;have hr2:=Qsl (st:=st) (n:=c.ino) (v:=Qak c st) hr;obtain ⟨b1,b2⟩:=Qlf (st:=st) (cs:=r) (l:=putC l st c.ino (Qak c st)) hr2 a2;refine ⟨b1,fun i=>?_⟩;show Qbd (Qvs (putC l st c.ino (Qak c st)) st r) i=_;rw [b2 i];by_cases hi:c.ino=i
  ·have e1:Qiy (c :: r) i=some c:=by unfold Qiy;rw [List.find?_cons];simp [hi]
   have e2:Qiy r i=none:=by
    unfold Qiy;rw [List.find?_eq_none];intro d hd h;have h5:d.ino=i:=by simpa using h
    have:=a1 d hd;omega
   rw [e1,e2];show Qbd (putC l st c.ino (Qak c st)) i=_;rw [Qtr hr,if_pos hi.symm,hi]
  ·have e1:Qiy (c :: r) i=Qiy r i:=by
    unfold Qiy;rw [List.find?_cons,show (c.ino==i)=false from by simpa using hi]
   have e2:Qbd (putC l st c.ino (Qak c st)) i=Qbd l i:=by rw [Qtr hr,if_neg (fun e=>hi e.symm)]
   rw [e1,e2]
theorem Qyv {st nx i:Int}:∀ {l:List Chn},Qjd l→(∀ c∈l,∀ n,Qbs st c=some n→n.ino=c.ino)→atF ⟨l.filterMap (Qbs st),nx⟩ i=(Qbd l i).bind (Qbs st)
 | [],_,_=>rfl
 | x :: r,hr,hv=>by
  obtain ⟨h1,h2⟩:=List.pairwise_cons.1 hr;have ih:=Qyv (st:=st) (nx:=nx) (i:=i) (l:=r) h2 (fun c hc=>hv c (by simp [hc]));unfold atF at ih ⊢;unfold Qbd at ih ⊢;rw [List.find?_cons];rw [List.filterMap_cons];cases hx:(x.ino==i) with
  | true=>
   have hxi:x.ino=i:=by simpa using hx
   cases hc:Qbs st x with
   | none=>
    show List.find? (isNo i) (r.filterMap (Qbs st))=(some x).bind (Qbs st);show List.find? (isNo i) (r.filterMap (Qbs st))=Qbs st x;rw [hc,List.find?_eq_none];intro n hn;obtain ⟨d,hd,he⟩:=List.mem_filterMap.1 hn;have:=hv d (by simp [hd]) n he;have:=h1 d hd;simp [isNo];omega
   | some n=>
    have:=hv x (by simp) n hc;show List.find? (isNo i) (n :: r.filterMap (Qbs st))=Qbs st x;rw [hc,List.find?_cons];have e:isNo i n=true:=by simp [isNo];omega
    rw [e]
  | false=>
   have hxi:¬ x.ino=i:=by simpa using hx
   cases hc:Qbs st x with
   | none=>exact ih
   | some n=>
    have:=hv x (by simp) n hc;show List.find? (isNo i) (n :: r.filterMap (Qbs st))=_;rw [List.find?_cons];have e:isNo i n=false:=by simp [isNo];omega
    rw [e];exact ih
theorem Qrl {s:Sto} (hp:Qcc s) (st i:Int):atF (Qbq s st) i=(Qbd s.l i).bind (Qbs st):=Qyv (Qp8 hp) (fun c hc n h=>Qml hp hc h)
theorem Qg7 {s:Sto} (hp:Qcc s) (st:Int):Qbu (Qbq s st).l:=by
 have hv:=fun c hc n h=>Qml (st:=st) hp (c:=c) hc (n:=n) h;have hr:=Qp8 hp;show Qub Nod.ino (s.l.filterMap (Qbs st));have hr':s.l.Pairwise (fun c d:Chn=>(c∈s.l∧d∈s.l)∧c.ino<d.ino):=List.Pairwise.imp_of_mem (fun ha hb h=>⟨⟨ha,hb⟩,h⟩) (show s.l.Pairwise (fun c d:Chn=>c.ino<d.ino) from hr);refine List.Pairwise.filterMap _ (fun a b hab x hx y hy=>?_) hr';have:=hv a hab.1.1 x hx;have:=hv b hab.1.2 y hy;have:=hab.2;omega
theorem Qyr {s:Sto} (hp:Qcc s) {c:Chn} (hc:c∈s.l):Qpp s.stamp c:=by
 obtain ⟨k,hk⟩:=List.getElem?_of_mem hc;exact (hp.2.2.2.at hk).1
theorem Qw1 {α:Type} {f:α→Int} {m most:Int} {b:List α} {x:α} (hb:b=[]∨Qok f m b) (h1:m<f x) (h2:f x≤most) (h3:1≤f x):Qok f most (b++[x]):=by
 refine ⟨by simp,fun i y hy=>?_⟩;by_cases hi:i<b.length
 ·rw [List.getElem?_append_left hi] at hy;rcases hb with rfl | hb
  ·simp at hi
  ·have g:=hb.2.at hy;exact ⟨g.1,by have:=g.2.1;omega,fun d h0 hd=>g.2.2 d h0 (by rwa [List.getElem?_append_left (by omega)] at hd)⟩
 ·have he:i=b.length:=by have:=Qap hy;simp at this;omega
  subst he;rw [List.getElem?_append_right (Nat.le_refl _),Nat.sub_self] at hy;obtain rfl:=Option.some.inj hy;refine ⟨h3,h2,fun d h0 hd=>?_⟩;rw [List.getElem?_append_left (by omega)] at hd;rcases hb with rfl | hb
  ·simp at h0
  ·have:=(hb.2.at hd).2.1;omega
theorem Qsh {α:Type} {f:α→Int} {m most:Int} {b:List α} (hb:Qok f m b) (h:m≤most):Qok f most b:=⟨hb.1,fun i x hx=>by
 have g:=hb.2.at hx;exact ⟨g.1,by have:=g.2.1;omega,g.2.2⟩⟩
theorem Zgt {s:Sto} (h1:1≤s.stamp) (h2:Qok Cnt.stamp s.stamp s.nexts) (h3:AllQ (fun _ (c:Cnt)=>1≤c.next) s.nexts) (h4:Qjd s.l) (h5:∀ c∈s.l,Qpp s.stamp c):Qcc s:=
 ⟨h1,h2,h3,fun i c hc=>⟨h5 c (List.mem_of_getElem? hc),fun d h0 hd=>by
  have l1:=Qap hc;have l2:=Qap hd;have:=List.pairwise_iff_getElem.1 h4 (i-1) i l2 l1 (by omega);rw [List.getElem?_eq_getElem l1] at hc;rw [List.getElem?_eq_getElem l2] at hd;obtain rfl:=Option.some.inj hc;obtain rfl:=Option.some.inj hd;exact this⟩⟩
def mayC (cs:List Chg):Prop:=∀ c∈cs,1≤c.ino∧(c.gone=false→nodP (nodG c))
theorem Qy1 {c:Chg} {st:Int} (h:c.gone=false→nodP (nodG c)):verP c.ino (Qak c st):=by
 unfold Qak;cases hg:c.gone with
 | true=>exact ⟨fun _=>rfl,fun h=>(by cases h)⟩
 | false=>exact ⟨fun h=>(by cases h),fun _=>⟨h hg,rfl⟩⟩
theorem Qsq {s:Sto} (hp:Qcc s) (i:Int):((Qbd s.l i).elim [] Chn.l=[]∨(Qok Ver.stamp s.stamp ((Qbd s.l i).elim [] Chn.l)∧AllQ (fun _ v=>verP i v) ((Qbd s.l i).elim [] Chn.l)))∧Qb7 ((Qbd s.l i).elim [] Chn.l) (s.stamp+1)=(Qbd s.l i).elim [] Chn.l:=by
 cases hc:Qbd s.l i with
 | none=>exact ⟨.inl rfl,rfl⟩
 | some c=>
  have h:=Qyr hp (Qhs hc);have hi:=Qts hc;refine ⟨.inr ⟨h.2.1,hi ▸ h.2.2⟩,Zf3 fun v hv=>?_⟩;have:=Qr7 hp c (Qhs hc) v hv;omega
theorem Qvr {s:Sto} {cs:List Chg} {next:Int} (hp:Qcc s) (h1:OneC cs) (i:Int):Qbd (Qdb s cs next).l i=match Qiy cs i with
  | some c=>some ⟨i,(Qbd s.l i).elim [] Chn.l++[Qak c (s.stamp+1)]⟩
  | none=>Qbd s.l i:=by
 have h:=(Qlf (st:=s.stamp+1) (Qp8 hp) h1).2 i;rw [(Qsq hp i).2] at h;show Qbd (Qar s.l (s.stamp+1) cs cs.length) i=_;rw [Qqx];exact h
theorem Qk7 {s:Sto} (hp:Qcc s):∃ c,s.nexts[s.nexts.length-1]?=some c∧Qe6 s s.stamp=c.next:=by
 have hl:=hp.2.1.1;obtain ⟨c,hc⟩:=Qe4 (l:=s.nexts) (k:=s.nexts.length-1) (by omega);refine ⟨c,hc,?_⟩;rw [Qqo (Qxe hp),hc]
theorem Qey {s:Sto} {cs:List Chg} {next:Int} (hp:Qcc s) (h1:OneC cs) (hm:mayC cs) (hn:1≤next):Qcc (Qdb s cs next):=by
 have hst:(Qdb s cs next).stamp=s.stamp+1:=rfl;have hs1:=hp.1;have hr:Qjd (Qdb s cs next).l:=by
  show Qjd (Qar s.l (s.stamp+1) cs cs.length);rw [Qqx];exact (Qlf (Qp8 hp) h1).1
 obtain ⟨c0,hc0,_⟩:=Qk7 hp;refine Zgt (by rw [hst];omega) ?_ ?_ hr ?_
 ·show Qok Cnt.stamp (s.stamp+1) (Qcr s next);unfold Qcr;rw [hc0];show Qok Cnt.stamp (s.stamp+1) (if next>c0.next then _ else _)
  split
  ·exact Qw1 (m:=s.stamp) (.inr hp.2.1) (by show s.stamp<s.stamp+1;omega) (Int.le_refl _) (by show 1≤s.stamp+1;omega)
  ·exact Qsh hp.2.1 (by omega)
 ·show AllQ (fun _ (c:Cnt)=>1≤c.next) (Qcr s next);intro i c hc;have hmem:=List.mem_of_getElem? hc;unfold Qcr at hmem;rw [hc0] at hmem;have hmem:c∈(if next>c0.next then s.nexts++[⟨s.stamp+1,next⟩] else s.nexts):=hmem
  split at hmem
  ·rcases List.mem_append.1 hmem with h | h
   ·exact Qsu hp c h
   ·obtain rfl:=List.mem_singleton.1 h;exact hn
  ·exact Qsu hp c hmem
 ·intro c hc;have hat:=Qmi hr hc;rw [Qvr hp h1] at hat
  split at hat
  ·rename_i g hg;obtain ⟨g1,g2⟩:=Qn9 hg;have he:=Option.some.inj hat;obtain ⟨o1,_⟩:=Qsq hp c.ino;have hver:=Qy1 (st:=s.stamp+1) (hm g g2).2;rw [g1] at hver;have hcl:c.l=(Qbd s.l c.ino).elim [] Chn.l++[Qak g (s.stamp+1)]:=by rw [← he]
   refine ⟨by have:=(hm g g2).1;omega,?_,?_⟩
   ·rw [hcl,hst];exact Qw1 (m:=s.stamp) (o1.imp id fun h=>h.1) (by rw [Qde];omega) (by rw [Qde];omega) (by rw [Qde];omega)
   ·rw [hcl];intro j v hv;rcases List.mem_append.1 (List.mem_of_getElem? hv) with h | h
    ·rcases o1 with h0 | ⟨_,h0⟩
     ·rw [h0] at h;cases h
     ·obtain ⟨k,hk⟩:=List.getElem?_of_mem h;exact h0.at hk
    ·obtain rfl:=List.mem_singleton.1 h;exact hver
  ·have h:=Qyr hp (Qhs hat);exact ⟨h.1,Qsh h.2.1 (by rw [hst];omega),h.2.2⟩
def nodC (c:Chg):Option Nod:=if c.gone=true then none else some (nodG c)
theorem Zgk {n st b:Int} {r:List Ver} {v:Ver} (h:∀ u∈r++[v],u.stamp≤b):Qbs b ⟨n,r++[v]⟩=if v.gone=true then none else some v.n:=by
 rw [Qeu (v:=v)]
 ·rw [show cutV Ver.stamp b (r++[v])=(r++[v]).length from Qrg h (Int.le_refl b)];simp
 ·show (r++[v])[cutV Ver.stamp b (r++[v])-1]?=some v;rw [show cutV Ver.stamp b (r++[v])=(r++[v]).length from Qrg h (Int.le_refl b)];simp
theorem Qrz (c:Chg) (st:Int):(if (Qak c st).gone=true then none else some (Qak c st).n)=nodC c:=by
 unfold Qak nodC nodG;cases c.gone<;>rfl
theorem old_le {s:Sto} (hp:Qcc s) (i:Int):∀ v∈(Qbd s.l i).elim [] Chn.l,v.stamp≤s.stamp:=by
 cases hc:Qbd s.l i with
 | none=>intro v hv;cases hv
 | some c=>exact fun v hv=>Qr7 hp c (Qhs hc) v hv
theorem Qry {s:Sto} {cs:List Chg} {next:Int} (hp:Qcc s) (h1:OneC cs) (hm:mayC cs) (hn:1≤next) (i:Int):atF (Qbq (Qdb s cs next) (s.stamp+1)) i=match Qiy cs i with
  | some c=>nodC c
  | none=>atF (Qbq s s.stamp) i:=by
 rw [Qrl (Qey hp h1 hm hn),Qvr hp h1,Qrl hp];have hle:=old_le hp i;cases hc:Qiy cs i with
 | some c=>
  show Qbs (s.stamp+1) ⟨i,_⟩=nodC c;rw [Zgk (st:=0) (fun u hu=>by
   rcases List.mem_append.1 hu with h | h
   ·have:=hle u h;omega
   ·obtain rfl:=List.mem_singleton.1 h;rw [Qde];omega),Qrz]
 | none=>
  show (Qbd s.l i).bind (Qbs (s.stamp+1))=(Qbd s.l i).bind (Qbs s.stamp);cases hd:Qbd s.l i with
  | none=>rfl
  | some c=>exact (Qmk (by omega) (Zae hp (Qhs hd))).symm
theorem Qne {s:Sto} {cs:List Chg} {next:Int} (hp:Qcc s):Qe6 (Qdb s cs next) (s.stamp+1)=maxD (Qe6 s s.stamp) next:=by
 obtain ⟨c0,hc0,he⟩:=Qk7 hp;have hle:=Qxe hp;rw [he];unfold maxD;have hn:(Qdb s cs next).nexts=if next>c0.next then s.nexts++[⟨s.stamp+1,next⟩] else s.nexts:=by
  show Qcr s next=_
  unfold Qcr;rw [hc0]
 have hb:∀ c∈(Qdb s cs next).nexts,c.stamp≤s.stamp+1:=by
  rw [hn];intro c hc
  split at hc
  ·rcases List.mem_append.1 hc with h | h
   ·have:=hle c h;omega
   ·obtain rfl:=List.mem_singleton.1 h;exact Int.le_refl _
  ·have:=hle c hc;omega
 rw [Qqo hb,hn];by_cases h:next>c0.next
 ·rw [if_pos h,if_pos h];simp
 ·rw [if_neg h,if_neg h,hc0]
theorem Zbd {s:Sto} {cs:List Chg} {next st:Int} (hp:Qcc s) (h1:OneC cs) (hm:mayC cs) (hn:1≤next) (hs:st≤s.stamp):Qbq (Qdb s cs next) st=Qbq s st:=by
 have hp2:=Qey hp h1 hm hn;refine Qlg (Qg7 hp2 st) (Qg7 hp st) (fun i=>?_) ?_
 ·rw [Qrl hp2,Qvr hp h1,Qrl hp];cases hc:Qiy cs i with
  | none=>rfl
  | some c=>
   show Qbs st ⟨i,_++[_]⟩=(Qbd s.l i).bind (Qbs st);rw [Qui (by rw [Qde];omega)];cases hd:Qbd s.l i with
   | none=>rfl
   | some d=>
    have:=Qts hd;subst this;rfl
 ·show Qe6 (Qdb s cs next) st=Qe6 s st;obtain ⟨c0,hc0,he⟩:=Qk7 hp;have hn:(Qdb s cs next).nexts=if next>c0.next then s.nexts++[⟨s.stamp+1,next⟩] else s.nexts:=by
   show Qcr s next=_
   unfold Qcr;rw [hc0]
  unfold Qe6;rw [hn];by_cases hx:next>c0.next
  ·rw [if_pos hx];have e:atD Cnt.stamp st (s.nexts++[(⟨s.stamp+1,next⟩:Cnt)])=atD Cnt.stamp st s.nexts:=by
    have ec:∀ r:List Cnt,cutV Cnt.stamp st (r++[(⟨s.stamp+1,next⟩:Cnt)])=cutV Cnt.stamp st r:=by
     intro r
     induction r with
     | nil=>show (if cutV Cnt.stamp st []=0 then (if s.stamp+1≤st then 1 else 0) else _)=0;simp only [cutV,if_true];rw [if_neg (by omega)]
     | cons x r ih=>simp only [List.cons_append,cutV,ih]
    unfold atD;rw [ec];by_cases h0:cutV Cnt.stamp st s.nexts=0
    ·rw [if_pos h0,if_pos h0]
    ·have:=Qgc Cnt.stamp st s.nexts;rw [if_neg h0,if_neg h0,List.getElem?_append_left (by omega)]
   rw [e]
  ·rw [if_neg hx]
theorem Qeh (f g:Fsy):OneC (Qbn f g):=by
 refine List.Pairwise.filterMap _ (fun i j hij a ha b hb=>?_) (Qt7 f g);have:=(Qge ha).1;have:=(Qge hb).1;omega
theorem Qei {f g:Fsy} (hf:Qal f) (hg:Qal g):mayC (Qbn f g):=fun c hc=>by
 obtain ⟨i,hi,h⟩:=List.mem_filterMap.1 hc;obtain ⟨e,h1⟩:=Qge h;have hi1:1≤i:=by
  rcases Qhv.1 hi with h | h
  ·obtain ⟨n,hn⟩:=Qpc.1 h;have:=Qbc hf hn;have:=this.1.1;omega
  ·obtain ⟨n,hn⟩:=Qpc.1 h;have:=Qbc hg hn;have:=this.1.1;omega
 refine ⟨by omega,fun hgo=>?_⟩;rcases h1 with h1 | h1
 ·rw [h1.1] at hgo;cases hgo
 ·obtain ⟨n1,n2,n3⟩:=Qbc hg h1.2;have:nodG c=c.n:=by unfold nodG;rw [e,← n3]
  rw [this];exact n1
theorem Qgv {f g:Fsy} (hg:Qal g) (i:Int):(Qiy (Qbn f g) i=none∧atF f i=atF g i)∨(∃ c,Qiy (Qbn f g) i=some c∧nodC c=atF g i∧¬ atF f i=atF g i):=by
 cases hc:Qiy (Qbn f g) i with
 | none=>
  left;refine ⟨rfl,Classical.byContradiction fun hne=>?_⟩;by_cases hi:i∈Qcu f g
  ·cases hd:chgD f g i with
   | none=>
    obtain ⟨n,h1,h2⟩:=Qyq.1 hd;exact hne (h2.trans h1.symm)
   | some c=>
    have hm:c∈Qbn f g:=List.mem_filterMap.2 ⟨i,hi,hd⟩;have:=List.find?_eq_none.1 hc c hm;simp [(Qge hd).1] at this
  ·obtain ⟨h1,h2⟩:=no_mem hi;exact hne (h1.trans h2.symm)
 | some c=>
  right;obtain ⟨c1,c2⟩:=Qn9 hc;have hne:=Zau c2;rw [c1] at hne;obtain ⟨j,hj,hd⟩:=List.mem_filterMap.1 c2;obtain ⟨e,h1⟩:=Qge hd;rw [c1] at e;subst e;refine ⟨c,rfl,?_,hne⟩;rcases h1 with h1 | h1
  ·unfold nodC;rw [if_pos h1.1,h1.2]
  ·obtain ⟨n1,n2,n3⟩:=Qbc hg h1.2;unfold nodC;rw [if_neg (by rw [h1.1];decide),h1.2];congr 1;unfold nodG;rw [c1,← n3]
theorem Zma:Elem prog 29 3 (.int .i64 0) 1 8:=⟨Tryz.underlying29,by kernel_rfl,by kernel_rfl,by decide⟩
theorem Zem (n:Nat) (hn:n≤1000000) (w:World) :
  Calls prog 151 #[.slice none 0 0,.int .i64 (n:Int)] w (Zgf w 3 1 0 []):=by
 by_cases h0:0<n
 ·obtain ⟨G,w',hrun,hG1,hG2,hown,hb⟩:=Qru Zma Tryz.underlying3 n h0 (by omega) (by omega) w;have HO:=Lib.hid (And.intro hown hb);have hi0:(0:Int)<(n:Int):=by omega
  clear hown hb
  go_enter func151,Tryz.ntmps151
  go_wp2_with (at_builtin;refine Qfc rfl _ _ _ _ rfl _ _ _ _ rfl rfl (hrun _) ?_)
  go_ret
  exact ⟨_,rfl,HO.out.1,HO.out.2⟩
 ·obtain rfl:n=0:=by omega
  go_enter func151,Tryz.ntmps151
  go_wp2_with fail
  go_ret
  exact ⟨_,rfl,World.ownsRow_nil _ _ _ _,Below.refl _ _⟩
def pcI (p:List (List AV)):List AV:=[.sl 1 false p]
theorem Qto (ps:List (List (List AV))) (hl:ps.length≤100000) (ht:ps.flatten.length≤100000) (hx:∀ l∈ps.flatten,l.length=1):Qek prog 89 [.sl 1 false (ps.map pcI)] 3 1 (ps.flatten):=by
 exact Qew func89 (
 .r 1<|.r 1<|.r 2<|.lm 10 ps pcI<|.r 1<|let L1:Lp (Nat):=⟨fun a1=>⟨[(0,.sl 1 false (ps.map pcI)),(9,.sl 1 false (ps.map pcI)),(10,aI (ps.length:Int)),(3,aI ((ps.take a1).flatten.length:Int)),(11,aI (a1:Int))],[]⟩,fun a1=>ps.length-a1,fun a1=>a1≤ps.length⟩
 .lp L1 0 (show 0≤ps.length from Nat.zero_le _) [(3,aI 0),(11,aI 0)] [] ⟨sR,sR,sR,sO,sO,trivial⟩ trivial fun a1 ha1=>
 (fun (k:Nat) (hH1:k≤ps.length)=>.r 1<|.bd 12 ((k:Int)<(ps.length:Int)) (fun p1=>.idxM ps pcI k (m:=(k:Int)) rfl (by omega) fun x1 hx1=>
 have tx1:=Qdl ps (k+1);have ux1:=congrArg List.length (Qdf hx1);have vx1:=(@List.length_append _ (ps.take k).flatten x1);.r 2<|.run 5 [rng .i64 (((ps.take k).flatten.length:Int)+((x1).length:Int))] ⟨Qaq (by omega) (by omega),trivial⟩<|
 .r 2<|.bd 20 ((((ps.take k).flatten.length:Int)+((x1).length:Int))<0) (fun p2=>.no (by omega))
 <| fun p2=>.run 2 [rng .i64 ((k:Int)+1)] ⟨Qaq (by omega) (by omega),trivial⟩<|
 .bk L1 k (k+1) (show (k+1)≤ps.length from (by show _≤_;omega)) (show ps.length-(k+1)<ps.length-k from (by omega)) [(3,aI (((ps.take k).flatten.length:Int)+((x1).length:Int))),(11,aI ((k:Int)+1))] [] ⟨sR,sR,sR,Sub.of_eq (congrArg aI (by rw [Qdf hx1,List.length_append];omega)),sO,trivial⟩ trivial)
 <| fun p1=>.r 1<|.cw (args0:=[aN,aI ((ps.take k).flatten.length:Int)]) (Qta (fun w=>Zem ((ps.take k).flatten.length) (by have:=Qdl ps k;omega) w)) sr2 fun V1=>
 .r 1<|.r 2<|.lm 26 ps pcI<|.r 1<|let L2:Lp (Nat × Value):=⟨fun a2=>⟨[(25,.sl 1 false (ps.map pcI)),(26,aI (ps.length:Int)),(27,aI (a2.1:Int)),(6,.rw 24 a2.2 ((ps.take a2.1).flatten.length))],[(24,.row a2.2 3 1 ((ps.take a2.1).flatten))]⟩,fun a2=>ps.length-a2.1,fun a2=>a2.1≤ps.length⟩
 .lp L2 (0,V1) (show 0≤ps.length from Nat.zero_le _) [(27,aI 0),(6,.rw 24 V1 0)] [(24,.row V1 3 1 ([]))] ⟨sR,sR,sO,Sub.of_eq (congrArg (AV.rw 24 V1) (by simp)),trivial⟩ ⟨⟨_,rfl,SubB.of_eq (by simp)⟩,trivial⟩ fun a2 ha2=>
 (fun (j:Nat) (V:Value) (hH2:j≤ps.length)=>.r 1<|.bd 28 ((j:Int)<(ps.length:Int)) (fun p3=>.idxM ps pcI j (m:=(j:Int)) rfl (by omega) fun x2 hx2=>
 have tx2:=Qdl ps (j+1);have ux2:=congrArg List.length (Qdf hx2);have vx2:=(@List.length_append _ (ps.take j).flatten x2);.r 2<|.r 2<|.app 8 V ((ps.take j).flatten) x2 (by omega) (by omega) fun V2=>
 .r 1<|.run 2 [rng .i64 ((j:Int)+1)] ⟨Qaq (by omega) (by omega),trivial⟩<|
 .bk L2 (j,V) ((j+1),V2) (show (j+1)≤ps.length from (by show _≤_;omega)) (show ps.length-(j+1)<ps.length-j from (by omega)) [(27,aI ((j:Int)+1)),(6,.rw 24 V2 (((ps.take j).flatten).length+x2.length))] [(24,.row V2 3 1 (((ps.take j).flatten)++x2))] ⟨sR,sR,sO,Sub.of_eq (congrArg (AV.rw 24 V2) (by rw [Qdf hx2,List.length_append])),trivial⟩ ⟨⟨_,rfl,SubB.of_eq (by rw [Qdf hx2])⟩,trivial⟩)
 <| fun p3=>.r 2<|.finRow (x:=(ps.take j).flatten) (r:=ps.flatten) [] trivial 24 3 1 ((ps.take j).flatten.length) V (by rw [Qa0 (by omega)])) a2.1 a2.2 ha2) a1 ha1)
theorem Qym (a b:List Int) (h:a.length+b.length≤100000):Qek prog 89 [.sl 1 false ([a.map intA,b.map intA].map pcI)] 3 1 ((a++b).map intA):=by
 have hx:∀ l∈[a.map intA,b.map intA].flatten,l.length=1:=fun l hl=>by
  simp only [List.flatten_cons,List.flatten_nil,List.append_nil,List.mem_append,List.mem_map] at hl;rcases hl with ⟨x,_,rfl⟩ | ⟨x,_,rfl⟩<;>rfl
 have:=Qto [a.map intA,b.map intA] (by simp) (by simp;omega) hx;rw [List.map_append];simpa using this
theorem pcI2 {t t1 t2:Bool} (A B:List (List AV)):Sub (.sl 1 t [[.sl 1 t1 A],[.sl 1 t2 B]]) (.sl 1 false ([A,B].map pcI)):=
 (Sub.sl2 (xs:=[[.sl 1 t1 A],[.sl 1 t2 B]]) (ys:=[A,B].map pcI) rfl (fun i q p hq hp=>by
 match i,hq,hp with
 | 0,hq,hp=>simp at hq hp;subst hq hp;exact ⟨Sub.loose _ _ _,trivial⟩
 | 1,hq,hp=>simp at hq hp;subst hq hp;exact ⟨Sub.loose _ _ _,trivial⟩
 | i+2,hq,_=>simp at hq)).trans (Sub.loose _ _ _)
theorem Zaf (a b:List Int) (h1:1≤(a++b).length) (hl:a.length+b.length≤100000):Qaj prog 49 [.sl 1 false (a.map intA),.sl 1 false (b.map intA)] (.sl 1 false ((Qda (a++b)).map intA)):=by
 exact Qad func49 (let R:AV:=.sl 1 false ((Qda (a++b)).map intA);
 .r 1<|.r 3<|.op (crR prog 30) (89,[.sl 1 true ([[.sl 1 false (a.map intA)],[.sl 1 false (b.map intA)]])],9) (fun (V:Value) σ=>(σ.put (some 9) (.rw 30 V ((a++b).map intA).length)).setB 30 (.row V 3 1 ((a++b).map intA))) (Qhb (args':=[.sl 1 false ([a.map intA,b.map intA].map pcI)]) ⟨pcI2 _ _,trivial⟩ (Qym a b (by omega))) fun V1=>
 .r 1<|.lent 1<|.r 1<|.lop (lcR prog 30) ((90,[.rw 30 V1 (((a++b).map intA).length)],some 11),.row V1 3 1 ((a++b).map intA)) (fun (_:Unit) σ=>(σ.put (some 11) (.tup [])).setB 30 (.row V1 3 1 (((a++b).mergeSort fun x y=>decide (x≤y)).map intA))) (Qdm (args':=[.rw 30 V1 ((a++b).length)]) ⟨Sub.of_eq (congrArg (AV.rw 30 V1) (by rw [List.length_map])),trivial⟩ (Qow (a++b) V1 h1 (by rw [List.length_append];omega))) fun _=>
 .lent 1<|.r 1<|.lop (lcR prog 30) ((91,[.rw 30 V1 (((a++b).map intA).length)],some 13),.row V1 3 1 (((a++b).mergeSort fun x y=>decide (x≤y)).map intA)) (fun (_:Unit) σ=>(σ.put (some 13) (.sl 1 false ((Qda (a++b)).map intA))).setB 30 gone) (Qcq (args':=[.rw 30 V1 (((a++b).mergeSort fun x y=>decide (x≤y)).length)]) ⟨Sub.of_eq (congrArg (AV.rw 30 V1) (by rw [List.length_map,List.length_mergeSort])),trivial⟩ (Qki ((a++b).mergeSort fun x y=>decide (x≤y)) V1 (by rw [List.length_mergeSort];exact h1) (by rw [List.length_mergeSort,List.length_append];omega))) fun _=>
 .r 1<|.fi R [])
theorem Zag :Qaj prog 49 [.sl 1 false (([]:List Int).map intA),.sl 1 false (([]:List Int).map intA)] (.sl 1 false []):=by
 exact Qad func49 (
 .r 1<|.r 3<|.op (crR prog 30) (89,[.sl 1 true ([[.sl 1 false (([]:List Int).map intA)],[.sl 1 false (([]:List Int).map intA)]])],9) (fun (V:Value) σ=>(σ.put (some 9) (.rw 30 V ([]:List (List AV)).length)).setB 30 (.row V 3 1 (([]:List (List AV))))) (Qhb (args':=[.sl 1 false ([([]:List Int).map intA,([]:List Int).map intA].map pcI)]) ⟨pcI2 _ _,trivial⟩ (Qym [] [] (by simp))) fun V1=>
 .r 1<|.lent 1<|.r 1<|.lop (lcR prog 30) ((90,[.rw 30 V1 (([]:List (List AV)).length)],some 11),.row V1 3 1 ([]:List (List AV))) (fun (_:Unit) σ=>(σ.put (some 11) (.tup [])).setB 30 (.row V1 3 1 ([]))) (Qdm (args':=[.rw 30 V1 0]) ⟨Sub.of_eq rfl,trivial⟩ (Qox V1)) fun _=>
 .lent 1<|.r 1<|.lop (lcR prog 30) ((91,[.rw 30 V1 (([]:List (List AV)).length)],some 13),.row V1 3 1 ([])) (fun (_:Unit) σ=>(σ.put (some 13) (.sl 1 false ([]))).setB 30 gone) (Qcq (args':=[.rw 30 V1 0]) ⟨Sub.of_eq rfl,trivial⟩ (Qkj V1)) fun _=>
 .r 1<|.fi (.sl 1 false []) [])
theorem Qeq (a b:List Int) (hl:a.length+b.length≤100000):Qaj prog 49 [.sl 1 false (a.map intA),.sl 1 false (b.map intA)] (.sl 1 false ((Qda (a++b)).map intA)):=by
 by_cases h1:1≤(a++b).length
 ·exact Zaf a b h1 hl
 ·rw [List.length_append] at h1;obtain rfl:a=[]:=List.eq_nil_of_length_eq_zero (by omega);obtain rfl:b=[]:=List.eq_nil_of_length_eq_zero (by omega);rw [show Qda ([]++[])=[] from List.eq_nil_of_length_eq_zero (Nat.le_zero.1 (Qjl []))];exact Zag
end Go.Proofs.YtahlldgocpabjaaGreat
