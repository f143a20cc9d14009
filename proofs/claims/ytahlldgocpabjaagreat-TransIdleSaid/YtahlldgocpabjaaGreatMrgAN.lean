import Derived.Test.YtahlldgocpabjaaGreatMrgAM
import Derived.Test.YtahlldgocpabjaaGreatMrgAG
import Derived.Test.YtahlldgocpabjaaGreatMrgAH
set_option linter.unusedVariables false
set_option linter.unusedSimpArgs false
namespace Go.Proofs.YtahlldgocpabjaaGreat
open Go Go.RowKit Copyhold
theorem Qum {st n:Int} {r:List Ver} {v:Ver} (hv:v.stamp>st):Qb4 st ⟨n,r++[v]⟩=Qb4 st ⟨n,r⟩:=by
 have e:∀ r:List Ver,cutV Ver.stamp st (r++[v])=cutV Ver.stamp st r:=by
  intro r
  induction r with
  | nil=>show (if cutV Ver.stamp st []=0 then (if v.stamp≤st then 1 else 0) else _)=0;simp only [cutV,if_true];rw [if_neg (by omega)]
  | cons x r ih=>simp only [List.cons_append,cutV,ih]
 unfold Qb4 atD;rw [e];have h1:=Qgn Ver.stamp st r;by_cases h0:cutV Ver.stamp st r=0
 ·rw [if_pos h0,if_pos h0]
 ·rw [if_neg h0,if_neg h0,List.getElem?_append_left (by omega)]
theorem Zgl {r:List Ver} {st:Int} (h:∀ v∈r,v.stamp<st):Qb3 r st=r:=by
 unfold Qb3
 split
 ·rename_i v hv;have:=h v (List.mem_of_getElem? hv);rw [if_neg (by omega)]
 ·rfl
def Qhb (l:List Chn):Prop:=l.Pairwise fun c d=>c.ino<d.ino
theorem Qmy {s:Sto} (hp:Qce s):Qhb s.l:=by
 have h:=hp.2.2.2;have key:∀ (i j:Nat) (c d:Chn),i<j→s.l[i]?=some c→s.l[j]?=some d→c.ino<d.ino:=by
  intro i j
  induction j with
  | zero=>intro c d h;omega
  | succ j ih=>
   intro c d hij hc hd;obtain ⟨e,he⟩:=Qdm (l:=s.l) (k:=j) (by have:=Qap hd;omega);have h1:=(h.at hd).2 e (by omega) (by simpa using he);rcases Nat.lt_or_ge i j with hij' | hij'
   ·have:=ih c e hij' hc he;omega
   ·obtain rfl:i=j:=by omega
    rw [hc] at he;obtain rfl:=Option.some.inj he;exact h1
 unfold Qhb;rw [List.pairwise_iff_getElem];intro i j hi hj hij;exact key i j _ _ hij (List.getElem?_eq_getElem hi) (List.getElem?_eq_getElem hj)
theorem Qv7 {n:Int}:∀ {l:List Chn},Qhb l→Qcd l n=false→∀ c∈l,c.ino ≠ n
 | [],_,_,c,hc=>by cases hc
 | x :: r,hr,ht,c,hc=>by
  obtain ⟨h1,h2⟩:=List.pairwise_cons.1 hr;by_cases hx:x.ino<n
  ·have e:Qan (x :: r) n=Qan r n+1:=by unfold Qan;simp [hx]
   have ht':Qcd r n=false:=by
    unfold Qcd at ht ⊢;rw [e] at ht;simpa using ht
   rcases List.mem_cons.1 hc with rfl | hc
   ·omega
   ·exact Qv7 h2 ht' c hc
  ·have e:Qan (x :: r) n=0:=by unfold Qan;simp [hx]
   have hne:x.ino ≠ n:=by
    unfold Qcd at ht;rw [e] at ht;simpa using ht
   rcases List.mem_cons.1 hc with rfl | hc
   ·exact hne
   ·have:=h1 c hc;omega
def Qbb (l:List Chn) (i:Int):Option Chn:=l.find? fun c=>c.ino==i
theorem Qtx {l:List Chn} {i:Int} {c:Chn} (h:Qbb l i=some c):c.ino=i:=by simpa using List.find?_some h
theorem Qh3 {l:List Chn} {i:Int} {c:Chn} (h:Qbb l i=some c):c∈l:=List.mem_of_find?_eq_some h
theorem Qmf:∀ {l:List Chn} {c:Chn},Qhb l→c∈l→Qbb l c.ino=some c
 | x :: r,c,hr,hc=>by
  obtain ⟨h1,h2⟩:=List.pairwise_cons.1 hr;unfold Qbb;rw [List.find?_cons];rcases List.mem_cons.1 hc with rfl | hc
  ·simp
  ·have:=h1 c hc;have e:(x.ino==c.ino)=false:=by simp;omega
   rw [e];exact Qmf h2 hc
theorem Za4 {l:List Chn} {i:Int} (h:∀ c∈l,¬ c.ino=i):Qbb l i=none:=by
 unfold Qbb;rw [List.find?_eq_none];intro c hc;simpa using h c hc
theorem Qn9 {a b:List Chn} {x:Chn} (hr:Qhb (a++x :: b)) (i:Int):Qbb (a++x :: b) i=if i=x.ino then some x else Qbb (a++b) i:=by
 by_cases hi:i=x.ino
 ·rw [if_pos hi,hi];exact Qmf hr (by simp)
 ·rw [if_neg hi];have e:(x.ino==i)=false:=by simp;exact fun h=>hi h.symm
  unfold Qbb;rw [List.find?_append,List.find?_append,List.find?_cons,e]
theorem Qm1 {l:List Chn} {st n:Int} {v:Ver} (hr:Qhb l):Qhb (putC l st n v):=by
 obtain ⟨c1,c2⟩:=Quf.cut (f:=Chn.ino) hr n;cases ht:Qcd l n with
 | false=>
  rw [Qim ht];refine List.pairwise_append.2 ⟨List.Pairwise.sublist (List.take_sublist _ _) hr,List.pairwise_cons.2 ⟨fun d hd=>?_,List.Pairwise.sublist (List.drop_sublist _ _) hr⟩,fun a ha b hb=>?_⟩
  ·have h1:¬ d.ino<n:=c2 d hd;have h2:=Qv7 hr ht d (List.mem_of_mem_drop hd);show n<d.ino;omega
  ·have h1:a.ino<n:=c1 a ha;rcases List.mem_cons.1 hb with rfl | hb
   ·exact h1
   ·have h2:¬ b.ino<n:=c2 b hb;omega
 | true=>
  obtain ⟨c,hc,hn⟩:=Qid ht;rw [Qgc ht hc];have e:(l.set (Qan l n) ⟨c.ino,Qb3 c.l st++[v]⟩).map Chn.ino=l.map Chn.ino:=by
   rw [List.map_set];have hlt:=Qap hc;have:(l.map Chn.ino)[Qan l n]?=some c.ino:=by rw [List.getElem?_map,hc];rfl
   apply List.ext_getElem?;intro j;rw [List.getElem?_set]
   split
   ·rename_i hj;subst hj;rw [this,if_pos (by rw [List.length_map];exact hlt)]
   ·rfl
  unfold Qhb at hr ⊢;have h1:((l.set (Qan l n) ⟨c.ino,Qb3 c.l st++[v]⟩).map Chn.ino).Pairwise (· < ·):=by rw [e,List.pairwise_map];exact hr
  rw [List.pairwise_map] at h1;exact h1
theorem Qtw {l:List Chn} {st n:Int} {v:Ver} (hr:Qhb l) (i:Int) :
  Qbb (putC l st n v) i=if i=n then some ⟨n,Qb3 ((Qbb l n).elim [] Chn.l) st++[v]⟩ else Qbb l i:=by
 have hr2:=Qm1 (st:=st) (n:=n) (v:=v) hr;cases ht:Qcd l n with
 | false=>
  rw [Qim ht] at hr2 ⊢;rw [Qn9 hr2,List.take_append_drop];have hnone:Qbb l n=none:=Za4 (Qv7 hr ht);rw [hnone];rfl
 | true=>
  obtain ⟨c,hc,hn⟩:=Qid ht;have hlt:=Qap hc;have hcl:c=l[Qan l n]:=by
   rw [List.getElem?_eq_getElem hlt] at hc;exact (Option.some.inj hc).symm
  have hl:l=l.take (Qan l n)++c :: l.drop (Qan l n+1):=by
   rw [hcl,← List.drop_eq_getElem_cons hlt,List.take_append_drop]
  have hs:putC l st n v=l.take (Qan l n)++⟨c.ino,Qb3 c.l st++[v]⟩ :: l.drop (Qan l n+1):=by
   rw [Qgc ht hc,List.set_eq_take_append_cons_drop,if_pos hlt]
  rw [hs] at hr2 ⊢;rw [Qn9 hr2];have hat:Qbb l n=some c:=by
   have:=Qmf hr (List.mem_of_getElem? hc);rw [hn] at this;exact this
  rw [hat];show (if i=c.ino then _ else _)=_;rw [hn]
  split
  ·rfl
  ·rename_i hi;have h2:=Qn9 (x:=c) (a:=l.take (Qan l n)) (b:=l.drop (Qan l n+1)) (by rw [← hl];exact hr) i;rw [← hl,if_neg (by rw [hn];exact hi)] at h2;exact h2.symm
def OneC (cs:List Chg):Prop:=cs.Pairwise fun a b=>¬ a.ino=b.ino
def Qi4 (cs:List Chg) (i:Int):Option Chg:=cs.find? fun c=>c.ino==i
theorem Qtv {cs:List Chg} {i:Int} {c:Chg} (h:Qi4 cs i=some c):c.ino=i∧c∈cs:=⟨by simpa using List.find?_some h,List.mem_of_find?_eq_some h⟩
theorem Qlc {st:Int}:∀ {cs:List Chg} {l:List Chn},Qhb l→OneC cs→Qhb (Qop l st cs)∧∀ i,Qbb (Qop l st cs) i=match Qi4 cs i with
  | some c=>some ⟨i,Qb3 ((Qbb l i).elim [] Chn.l) st++[Qaj c st]⟩
  | none=>Qbb l i
 | [],l,hr,_=>⟨hr,fun i=>rfl⟩
 | c :: r,l,hr,h1=>by
  obtain ⟨a1,a2⟩:=List.pairwise_cons.1 h1;have hr2:=Qm1 (st:=st) (n:=c.ino) (v:=Qaj c st) hr;obtain ⟨b1,b2⟩:=Qlc (st:=st) (cs:=r) (l:=putC l st c.ino (Qaj c st)) hr2 a2;refine ⟨b1,fun i=>?_⟩;show Qbb (Qop (putC l st c.ino (Qaj c st)) st r) i=_;rw [b2 i];by_cases hi:c.ino=i
  ·have e1:Qi4 (c :: r) i=some c:=by unfold Qi4;rw [List.find?_cons];simp [hi]
   have e2:Qi4 r i=none:=by
    unfold Qi4;rw [List.find?_eq_none];intro d hd h;have h5:d.ino=i:=by simpa using h
    have:=a1 d hd;omega
   rw [e1,e2];show Qbb (putC l st c.ino (Qaj c st)) i=_;rw [Qtw hr,if_pos hi.symm,hi]
  ·have e1:Qi4 (c :: r) i=Qi4 r i:=by
    unfold Qi4;rw [List.find?_cons,show (c.ino==i)=false from by simpa using hi]
   have e2:Qbb (putC l st c.ino (Qaj c st)) i=Qbb l i:=by rw [Qtw hr,if_neg (fun e=>hi e.symm)]
   rw [e1,e2]
theorem Qyz {st nx i:Int}:∀ {l:List Chn},Qhb l→(∀ c∈l,∀ n,Qb4 st c=some n→n.ino=c.ino)→atF ⟨l.filterMap (Qb4 st),nx⟩ i=(Qbb l i).bind (Qb4 st)
 | [],_,_=>rfl
 | x :: r,hr,hv=>by
  obtain ⟨h1,h2⟩:=List.pairwise_cons.1 hr;have ih:=Qyz (st:=st) (nx:=nx) (i:=i) (l:=r) h2 (fun c hc=>hv c (by simp [hc]));unfold atF at ih ⊢;unfold Qbb at ih ⊢;rw [List.find?_cons];rw [List.filterMap_cons];cases hx:(x.ino==i) with
  | true=>
   have hxi:x.ino=i:=by simpa using hx
   cases hc:Qb4 st x with
   | none=>
    show List.find? (isNo i) (r.filterMap (Qb4 st))=(some x).bind (Qb4 st);show List.find? (isNo i) (r.filterMap (Qb4 st))=Qb4 st x;rw [hc,List.find?_eq_none];intro n hn;obtain ⟨d,hd,he⟩:=List.mem_filterMap.1 hn;have:=hv d (by simp [hd]) n he;have:=h1 d hd;simp [isNo];omega
   | some n=>
    have:=hv x (by simp) n hc;show List.find? (isNo i) (n :: r.filterMap (Qb4 st))=Qb4 st x;rw [hc,List.find?_cons];have e:isNo i n=true:=by simp [isNo];omega
    rw [e]
  | false=>
   have hxi:¬ x.ino=i:=by simpa using hx
   cases hc:Qb4 st x with
   | none=>exact ih
   | some n=>
    have:=hv x (by simp) n hc;show List.find? (isNo i) (n :: r.filterMap (Qb4 st))=_;rw [List.find?_cons];have e:isNo i n=false:=by simp [isNo];omega
    rw [e];exact ih
theorem Qrm {s:Sto} (hp:Qce s) (st i:Int):atF (Qcj s st) i=(Qbb s.l i).bind (Qb4 st):=Qyz (Qmy hp) (fun c hc n h=>Qr4 hp hc h)
theorem Qmj {s:Sto} (hp:Qce s) (st:Int):Qbw (Qcj s st).l:=by
 have hv:=fun c hc n h=>Qr4 (st:=st) hp (c:=c) hc (n:=n) h;have hr:=Qmy hp;show Quf Nod.ino (s.l.filterMap (Qb4 st));have hr':s.l.Pairwise (fun c d:Chn=>(c∈s.l∧d∈s.l)∧c.ino<d.ino):=List.Pairwise.imp_of_mem (fun ha hb h=>⟨⟨ha,hb⟩,h⟩) (show s.l.Pairwise (fun c d:Chn=>c.ino<d.ino) from hr);refine List.Pairwise.filterMap _ (fun a b hab x hx y hy=>?_) hr';have:=hv a hab.1.1 x hx;have:=hv b hab.1.2 y hy;have:=hab.2;omega
theorem Qrj {s:Sto} (hp:Qce s) {c:Chn} (hc:c∈s.l):Qps s.stamp c:=by
 obtain ⟨k,hk⟩:=List.getElem?_of_mem hc;exact (hp.2.2.2.at hk).1
theorem Qw7 {α:Type} {f:α→Int} {m most:Int} {b:List α} {x:α} (hb:b=[]∨Qol f m b) (h1:m<f x) (h2:f x≤most) (h3:1≤f x):Qol f most (b++[x]):=by
 refine ⟨by simp,fun i y hy=>?_⟩;by_cases hi:i<b.length
 ·rw [List.getElem?_append_left hi] at hy;rcases hb with rfl | hb
  ·simp at hi
  ·have g:=hb.2.at hy;exact ⟨g.1,by have:=g.2.1;omega,fun d h0 hd=>g.2.2 d h0 (by rwa [List.getElem?_append_left (by omega)] at hd)⟩
 ·have he:i=b.length:=by have:=Qap hy;simp at this;omega
  subst he;rw [List.getElem?_append_right (Nat.le_refl _),Nat.sub_self] at hy;obtain rfl:=Option.some.inj hy;refine ⟨h3,h2,fun d h0 hd=>?_⟩;rw [List.getElem?_append_left (by omega)] at hd;rcases hb with rfl | hb
  ·simp at h0
  ·have:=(hb.2.at hd).2.1;omega
theorem Qsl {α:Type} {f:α→Int} {m most:Int} {b:List α} (hb:Qol f m b) (h:m≤most):Qol f most b:=⟨hb.1,fun i x hx=>by
 have g:=hb.2.at hx;exact ⟨g.1,by have:=g.2.1;omega,g.2.2⟩⟩
theorem Zhb {s:Sto} (h1:1≤s.stamp) (h2:Qol Cnt.stamp s.stamp s.nexts) (h3:AllQ (fun _ (c:Cnt)=>1≤c.next) s.nexts) (h4:Qhb s.l) (h5:∀ c∈s.l,Qps s.stamp c):Qce s:=
 ⟨h1,h2,h3,fun i c hc=>⟨h5 c (List.mem_of_getElem? hc),fun d h0 hd=>by
  have l1:=Qap hc;have l2:=Qap hd;have:=List.pairwise_iff_getElem.1 h4 (i-1) i l2 l1 (by omega);rw [List.getElem?_eq_getElem l1] at hc;rw [List.getElem?_eq_getElem l2] at hd;obtain rfl:=Option.some.inj hc;obtain rfl:=Option.some.inj hd;exact this⟩⟩
def mayC (cs:List Chg):Prop:=∀ c∈cs,1≤c.ino∧(c.gone=false→nodP (nodG c))
theorem Qy3 {c:Chg} {st:Int} (h:c.gone=false→nodP (nodG c)):verP c.ino (Qaj c st):=by
 unfold Qaj;cases hg:c.gone with
 | true=>exact ⟨fun _=>rfl,fun h=>(by cases h)⟩
 | false=>exact ⟨fun h=>(by cases h),fun _=>⟨h hg,rfl⟩⟩
theorem Qsu {s:Sto} (hp:Qce s) (i:Int):((Qbb s.l i).elim [] Chn.l=[]∨(Qol Ver.stamp s.stamp ((Qbb s.l i).elim [] Chn.l)∧AllQ (fun _ v=>verP i v) ((Qbb s.l i).elim [] Chn.l)))∧Qb3 ((Qbb s.l i).elim [] Chn.l) (s.stamp+1)=(Qbb s.l i).elim [] Chn.l:=by
 cases hc:Qbb s.l i with
 | none=>exact ⟨.inl rfl,rfl⟩
 | some c=>
  have h:=Qrj hp (Qh3 hc);have hi:=Qtx hc;refine ⟨.inr ⟨h.2.1,hi ▸ h.2.2⟩,Zgl fun v hv=>?_⟩;have:=Qsc hp c (Qh3 hc) v hv;omega
theorem Qvy {s:Sto} {cs:List Chg} {next:Int} (hp:Qce s) (h1:OneC cs) (i:Int):Qbb (Qc2 s cs next).l i=match Qi4 cs i with
  | some c=>some ⟨i,(Qbb s.l i).elim [] Chn.l++[Qaj c (s.stamp+1)]⟩
  | none=>Qbb s.l i:=by
 have h:=(Qlc (st:=s.stamp+1) (Qmy hp) h1).2 i;rw [(Qsu hp i).2] at h;show Qbb (Qas s.l (s.stamp+1) cs cs.length) i=_;rw [Qqu];exact h
theorem Qk6 {s:Sto} (hp:Qce s):∃ c,s.nexts[s.nexts.length-1]?=some c∧Qhu s s.stamp=c.next:=by
 have hl:=hp.2.1.1;obtain ⟨c,hc⟩:=Qdm (l:=s.nexts) (k:=s.nexts.length-1) (by omega);refine ⟨c,hc,?_⟩;rw [Zdt (Qxl hp),hc]
theorem Qir {s:Sto} {cs:List Chg} {next:Int} (hp:Qce s) (h1:OneC cs) (hm:mayC cs) (hn:1≤next):Qce (Qc2 s cs next):=by
 have hst:(Qc2 s cs next).stamp=s.stamp+1:=rfl;have hs1:=hp.1;have hr:Qhb (Qc2 s cs next).l:=by
  show Qhb (Qas s.l (s.stamp+1) cs cs.length);rw [Qqu];exact (Qlc (Qmy hp) h1).1
 obtain ⟨c0,hc0,_⟩:=Qk6 hp;refine Zhb (by rw [hst];omega) ?_ ?_ hr ?_
 ·show Qol Cnt.stamp (s.stamp+1) (Qc0 s next);unfold Qc0;rw [hc0];show Qol Cnt.stamp (s.stamp+1) (if next>c0.next then _ else _)
  split
  ·exact Qw7 (m:=s.stamp) (.inr hp.2.1) (by show s.stamp<s.stamp+1;omega) (Int.le_refl _) (by show 1≤s.stamp+1;omega)
  ·exact Qsl hp.2.1 (by omega)
 ·show AllQ (fun _ (c:Cnt)=>1≤c.next) (Qc0 s next);intro i c hc;have hmem:=List.mem_of_getElem? hc;unfold Qc0 at hmem;rw [hc0] at hmem;have hmem:c∈(if next>c0.next then s.nexts++[⟨s.stamp+1,next⟩] else s.nexts):=hmem
  split at hmem
  ·rcases List.mem_append.1 hmem with h | h
   ·exact Qsx hp c h
   ·obtain rfl:=List.mem_singleton.1 h;exact hn
  ·exact Qsx hp c hmem
 ·intro c hc;have hat:=Qmf hr hc;rw [Qvy hp h1] at hat
  split at hat
  ·rename_i g hg;obtain ⟨g1,g2⟩:=Qtv hg;have he:=Option.some.inj hat;obtain ⟨o1,_⟩:=Qsu hp c.ino;have hver:=Qy3 (st:=s.stamp+1) (hm g g2).2;rw [g1] at hver;have hcl:c.l=(Qbb s.l c.ino).elim [] Chn.l++[Qaj g (s.stamp+1)]:=by rw [← he]
   refine ⟨by have:=(hm g g2).1;omega,?_,?_⟩
   ·rw [hcl,hst];exact Qw7 (m:=s.stamp) (o1.imp id fun h=>h.1) (by rw [Qb5];omega) (by rw [Qb5];omega) (by rw [Qb5];omega)
   ·rw [hcl];intro j v hv;rcases List.mem_append.1 (List.mem_of_getElem? hv) with h | h
    ·rcases o1 with h0 | ⟨_,h0⟩
     ·rw [h0] at h;cases h
     ·obtain ⟨k,hk⟩:=List.getElem?_of_mem h;exact h0.at hk
    ·obtain rfl:=List.mem_singleton.1 h;exact hver
  ·have h:=Qrj hp (Qh3 hat);exact ⟨h.1,Qsl h.2.1 (by rw [hst];omega),h.2.2⟩
def nodC (c:Chg):Option Nod:=if c.gone=true then none else some (nodG c)
theorem Zg2 {n st b:Int} {r:List Ver} {v:Ver} (h:∀ u∈r++[v],u.stamp≤b):Qb4 b ⟨n,r++[v]⟩=if v.gone=true then none else some v.n:=by
 rw [Qez (v:=v)]
 ·rw [show cutV Ver.stamp b (r++[v])=(r++[v]).length from Qre h (Int.le_refl b)];simp
 ·show (r++[v])[cutV Ver.stamp b (r++[v])-1]?=some v;rw [show cutV Ver.stamp b (r++[v])=(r++[v]).length from Qre h (Int.le_refl b)];simp
theorem Qr5 (c:Chg) (st:Int):(if (Qaj c st).gone=true then none else some (Qaj c st).n)=nodC c:=by
 unfold Qaj nodC nodG;cases c.gone<;>rfl
theorem old_le {s:Sto} (hp:Qce s) (i:Int):∀ v∈(Qbb s.l i).elim [] Chn.l,v.stamp≤s.stamp:=by
 cases hc:Qbb s.l i with
 | none=>intro v hv;cases hv
 | some c=>exact fun v hv=>Qsc hp c (Qh3 hc) v hv
theorem Zbo {s:Sto} {cs:List Chg} {next:Int} (hp:Qce s) (h1:OneC cs) (hm:mayC cs) (hn:1≤next) (i:Int):atF (Qcj (Qc2 s cs next) (s.stamp+1)) i=match Qi4 cs i with
  | some c=>nodC c
  | none=>atF (Qcj s s.stamp) i:=by
 rw [Qrm (Qir hp h1 hm hn),Qvy hp h1,Qrm hp];have hle:=old_le hp i;cases hc:Qi4 cs i with
 | some c=>
  show Qb4 (s.stamp+1) ⟨i,_⟩=nodC c;rw [Zg2 (st:=0) (fun u hu=>by
   rcases List.mem_append.1 hu with h | h
   ·have:=hle u h;omega
   ·obtain rfl:=List.mem_singleton.1 h;rw [Qb5];omega),Qr5]
 | none=>
  show (Qbb s.l i).bind (Qb4 (s.stamp+1))=(Qbb s.l i).bind (Qb4 s.stamp);cases hd:Qbb s.l i with
  | none=>rfl
  | some c=>exact (Zbm (by omega) (Zak hp (Qh3 hd))).symm
theorem Zdu {s:Sto} {cs:List Chg} {next:Int} (hp:Qce s):Qhu (Qc2 s cs next) (s.stamp+1)=maxD (Qhu s s.stamp) next:=by
 obtain ⟨c0,hc0,he⟩:=Qk6 hp;have hle:=Qxl hp;rw [he];unfold maxD;have hn:(Qc2 s cs next).nexts=if next>c0.next then s.nexts++[⟨s.stamp+1,next⟩] else s.nexts:=by
  show Qc0 s next=_
  unfold Qc0;rw [hc0]
 have hb:∀ c∈(Qc2 s cs next).nexts,c.stamp≤s.stamp+1:=by
  rw [hn];intro c hc
  split at hc
  ·rcases List.mem_append.1 hc with h | h
   ·have:=hle c h;omega
   ·obtain rfl:=List.mem_singleton.1 h;exact Int.le_refl _
  ·have:=hle c hc;omega
 rw [Zdt hb,hn];by_cases h:next>c0.next
 ·rw [if_pos h,if_pos h];simp
 ·rw [if_neg h,if_neg h,hc0]
theorem Zbn {s:Sto} {cs:List Chg} {next st:Int} (hp:Qce s) (h1:OneC cs) (hm:mayC cs) (hn:1≤next) (hs:st≤s.stamp):Qcj (Qc2 s cs next) st=Qcj s st:=by
 have hp2:=Qir hp h1 hm hn;refine Qny (Qmj hp2 st) (Qmj hp st) (fun i=>?_) ?_
 ·rw [Qrm hp2,Qvy hp h1,Qrm hp];cases hc:Qi4 cs i with
  | none=>rfl
  | some c=>
   show Qb4 st ⟨i,_++[_]⟩=(Qbb s.l i).bind (Qb4 st);rw [Qum (by rw [Qb5];omega)];cases hd:Qbb s.l i with
   | none=>rfl
   | some d=>
    have:=Qtx hd;subst this;rfl
 ·show Qhu (Qc2 s cs next) st=Qhu s st;obtain ⟨c0,hc0,he⟩:=Qk6 hp;have hn:(Qc2 s cs next).nexts=if next>c0.next then s.nexts++[⟨s.stamp+1,next⟩] else s.nexts:=by
   show Qc0 s next=_
   unfold Qc0;rw [hc0]
  unfold Qhu;rw [hn];by_cases hx:next>c0.next
  ·rw [if_pos hx];have e:atD Cnt.stamp st (s.nexts++[(⟨s.stamp+1,next⟩:Cnt)])=atD Cnt.stamp st s.nexts:=by
    have ec:∀ r:List Cnt,cutV Cnt.stamp st (r++[(⟨s.stamp+1,next⟩:Cnt)])=cutV Cnt.stamp st r:=by
     intro r
     induction r with
     | nil=>show (if cutV Cnt.stamp st []=0 then (if s.stamp+1≤st then 1 else 0) else _)=0;simp only [cutV,if_true];rw [if_neg (by omega)]
     | cons x r ih=>simp only [List.cons_append,cutV,ih]
    unfold atD;rw [ec];by_cases h0:cutV Cnt.stamp st s.nexts=0
    ·rw [if_pos h0,if_pos h0]
    ·have:=Qgn Cnt.stamp st s.nexts;rw [if_neg h0,if_neg h0,List.getElem?_append_left (by omega)]
   rw [e]
  ·rw [if_neg hx]
theorem Qjg (f g:Fsy):OneC (Qbh f g):=by
 refine List.Pairwise.filterMap _ (fun i j hij a ha b hb=>?_) (Qub f g);have:=(Qgp ha).1;have:=(Qgp hb).1;omega
theorem Qjh {f g:Fsy} (hf:Qar f) (hg:Qar g):mayC (Qbh f g):=fun c hc=>by
 obtain ⟨i,hi,h⟩:=List.mem_filterMap.1 hc;obtain ⟨e,h1⟩:=Qgp h;have hi1:1≤i:=by
  rcases Qh7.1 hi with h | h
  ·obtain ⟨n,hn⟩:=Qpi.1 h;have:=Qbk hf hn;have:=this.1.1;omega
  ·obtain ⟨n,hn⟩:=Qpi.1 h;have:=Qbk hg hn;have:=this.1.1;omega
 refine ⟨by omega,fun hgo=>?_⟩;rcases h1 with h1 | h1
 ·rw [h1.1] at hgo;cases hgo
 ·obtain ⟨n1,n2,n3⟩:=Qbk hg h1.2;have:nodG c=c.n:=by unfold nodG;rw [e,← n3]
  rw [this];exact n1
theorem Qrh {f g:Fsy} (hg:Qar g) (i:Int):(Qi4 (Qbh f g) i=none∧atF f i=atF g i)∨(∃ c,Qi4 (Qbh f g) i=some c∧nodC c=atF g i∧¬ atF f i=atF g i):=by
 cases hc:Qi4 (Qbh f g) i with
 | none=>
  left;refine ⟨rfl,Classical.byContradiction fun hne=>?_⟩;by_cases hi:i∈Qa9 f g
  ·cases hd:chgD f g i with
   | none=>
    obtain ⟨n,h1,h2⟩:=Qyv.1 hd;exact hne (h2.trans h1.symm)
   | some c=>
    have hm:c∈Qbh f g:=List.mem_filterMap.2 ⟨i,hi,hd⟩;have:=List.find?_eq_none.1 hc c hm;simp [(Qgp hd).1] at this
  ·obtain ⟨h1,h2⟩:=no_mem hi;exact hne (h1.trans h2.symm)
 | some c=>
  right;obtain ⟨c1,c2⟩:=Qtv hc;have hne:=Za2 c2;rw [c1] at hne;obtain ⟨j,hj,hd⟩:=List.mem_filterMap.1 c2;obtain ⟨e,h1⟩:=Qgp hd;rw [c1] at e;subst e;refine ⟨c,rfl,?_,hne⟩;rcases h1 with h1 | h1
  ·unfold nodC;rw [if_pos h1.1,h1.2]
  ·obtain ⟨n1,n2,n3⟩:=Qbk hg h1.2;unfold nodC;rw [if_neg (by rw [h1.1];decide),h1.2];congr 1;unfold nodG;rw [c1,← n3]
end Go.Proofs.YtahlldgocpabjaaGreat
