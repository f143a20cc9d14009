import Derived.Test.YtkhodpknpligpaaGreatAl
import Derived.Test.YtkhodpknpligpaaGreatMrgY
import Derived.Test.YtkhodpknpligpaaGreatMrgU
import Derived.Test.YtkhodpknpligpaaGreatMrgV
set_option maxRecDepth 100000
set_option maxHeartbeats 8000000
set_option linter.unusedVariables false
set_option linter.unusedSimpArgs false
namespace Go.Proofs.YtkhodpknpligpaaGreat
open Go Go.RowKit Copyhold Go.Proofs.Tryz
def Qa8 (l:List Chn) (i:Int):Option Chn:=l.find? fun c=>c.ino==i
theorem Zfi {l:List Chn} {i:Int} {c:Chn} (h:Qa8 l i=some c):c.ino=i:=by simpa using List.find?_some h
theorem Qg1 {l:List Chn} {i:Int} {c:Chn} (h:Qa8 l i=some c):c∈l:=W1n h
theorem Qlr:∀ {l:List Chn} {c:Chn},Qil l→c∈l→Qa8 l c.ino=some c
 | x :: r,c,hr,hc=>by
  obtain ⟨h1,h2⟩:=W1k.1 hr;unfold Qa8;rw [W1e];rcases W0y.1 hc with rfl | hc
  ·simp
  ·have:=h1 c hc;have e:(x.ino==c.ino)=false:=by simp;omega
   rw [e];exact Qlr h2 hc
theorem Qz8 {l:List Chn} {i:Int} (h:∀ c∈l,¬ c.ino=i):Qa8 l i=none:=by
 unfold Qa8;rw [W10];intro c hc;simpa using h c hc
theorem Qnm {a b:List Chn} {x:Chn} (hr:Qil (a++x :: b)) (i:Int):Qa8 (a++x :: b) i=if i=x.ino then some x else Qa8 (a++b) i:=by
 by_cases hi:i=x.ino
 ·rw [W1x hi,hi];exact Qlr hr (by simp)
 ·rw [W1w hi];have e:(x.ino==i)=false:=by simp;exact fun h=>hi h.symm
  unfold Qa8;rw [List.find?_append,List.find?_append,W1e,e]
theorem Qru {l:List Chn} {st n:Int} {v:Ver} (hr:Qil l):Qil (putC l st n v):=by
 obtain ⟨c1,c2⟩:=Qtm.cut (f:=Chn.ino) hr n;cases ht:Qcn l n with
 | false=>
  rw [Qlh ht];refine List.pairwise_append.2 ⟨List.Pairwise.sublist (List.take_sublist _ _) hr,W1k.2 ⟨fun d hd=>?_,List.Pairwise.sublist (List.drop_sublist _ _) hr⟩,fun a ha b hb=>?_⟩
  ·have h1:¬ d.ino<n:=c2 d hd;have h2:=Qu3 hr ht d (W2d hd);show n<d.ino;omega
  ·have h1:a.ino<n:=c1 a ha;rcases W0y.1 hb with rfl | hb
   ·exact h1
   ·have h2:¬ b.ino<n:=c2 b hb;omega
 | true=>
  obtain ⟨c,hc,hn⟩:=Qg9 ht;rw [Qhl ht hc];have e:(l.set (Qam l n) ⟨c.ino,Qbt c.l st++[v]⟩).map Chn.ino=l.map Chn.ino:=by
   rw [List.map_set];have hlt:=Qan hc;have:(l.map Chn.ino)[Qam l n]?=some c.ino:=by rw [W0v,hc];rfl
   apply List.ext_getElem?;intro j;rw [List.getElem?_set]
   split
   ·rename_i hj;subst hj;rw [this,W1x (by rw [W0a];exact hlt)]
   ·rfl
  unfold Qil at hr ⊢;have h1:((l.set (Qam l n) ⟨c.ino,Qbt c.l st++[v]⟩).map Chn.ino).Pairwise (· < ·):=by rw [e,List.pairwise_map];exact hr
  rw [List.pairwise_map] at h1;exact h1
theorem Qs4 {l:List Chn} {st n:Int} {v:Ver} (hr:Qil l) (i:Int) :
  Qa8 (putC l st n v) i=if i=n then some ⟨n,Qbt ((Qa8 l n).elim [] Chn.l) st++[v]⟩ else Qa8 l i:=by
 have hr2:=Qru (st:=st) (n:=n) (v:=v) hr;cases ht:Qcn l n with
 | false=>
  rw [Qlh ht] at hr2 ⊢;rw [Qnm hr2,W1g];have hnone:Qa8 l n=none:=Qz8 (Qu3 hr ht);rw [hnone];rfl
 | true=>
  obtain ⟨c,hc,hn⟩:=Qg9 ht;have hlt:=Qan hc;have hcl:c=l[Qam l n]:=by
   rw [W0d hlt] at hc;exact (W0c hc).symm
  have hl:l=l.take (Qam l n)++c :: l.drop (Qam l n+1):=by
   rw [hcl,← List.drop_eq_getElem_cons hlt,W1g]
  have hs:putC l st n v=l.take (Qam l n)++⟨c.ino,Qbt c.l st++[v]⟩ :: l.drop (Qam l n+1):=by
   rw [Qhl ht hc,List.set_eq_take_append_cons_drop,W1x hlt]
  rw [hs] at hr2 ⊢;rw [Qnm hr2];have hat:Qa8 l n=some c:=by
   have:=Qlr hr (W0h hc);rw [hn] at this;exact this
  rw [hat];show (if i=c.ino then _ else _)=_;rw [hn]
  split
  ·rfl
  ·rename_i hi;have h2:=Qnm (x:=c) (a:=l.take (Qam l n)) (b:=l.drop (Qam l n+1)) (by rw [← hl];exact hr) i;rw [← hl,W1w (by rw [hn];exact hi)] at h2;exact h2.symm
def OneC (cs:List Chg):Prop:=cs.Pairwise fun a b=>¬ a.ino=b.ino
def Qij (cs:List Chg) (i:Int):Option Chg:=cs.find? fun c=>c.ino==i
theorem Qs1 {cs:List Chg} {i:Int} {c:Chg} (h:Qij cs i=some c):c.ino=i∧c∈cs:=⟨by simpa using List.find?_some h,W1n h⟩
theorem Qj7 {st:Int}:∀ {cs:List Chg} {l:List Chn},Qil l→OneC cs→Qil (Qus l st cs)∧∀ i,Qa8 (Qus l st cs) i=match Qij cs i with
  | some c=>some ⟨i,Qbt ((Qa8 l i).elim [] Chn.l) st++[Qai c st]⟩
  | none=>Qa8 l i
 | [],l,hr,_=>⟨hr,fun i=>rfl⟩
 | c :: r,l,hr,h1=>by
  obtain ⟨a1,a2⟩:=W1k.1 h1;have hr2:=Qru (st:=st) (n:=c.ino) (v:=Qai c st) hr;obtain ⟨b1,b2⟩:=Qj7 (st:=st) (cs:=r) (l:=putC l st c.ino (Qai c st)) hr2 a2;refine ⟨b1,fun i=>?_⟩;show Qa8 (Qus (putC l st c.ino (Qai c st)) st r) i=_;rw [b2 i];by_cases hi:c.ino=i
  ·have e1:Qij (c :: r) i=some c:=by unfold Qij;rw [W1e];simp [hi]
   have e2:Qij r i=none:=by
    unfold Qij;rw [W10];intro d hd h;have h5:d.ino=i:=by simpa using h
    have:=a1 d hd;omega
   rw [e1,e2];show Qa8 (putC l st c.ino (Qai c st)) i=_;rw [Qs4 hr,W1x hi.symm,hi]
  ·have e1:Qij (c :: r) i=Qij r i:=by
    unfold Qij;rw [W1e,show (c.ino==i)=false from by simpa using hi]
   have e2:Qa8 (putC l st c.ino (Qai c st)) i=Qa8 l i:=by rw [Qs4 hr,W1w (fun e=>hi e.symm)]
   rw [e1,e2]
theorem Qx7 {st nx i:Int}:∀ {l:List Chn},Qil l→(∀ c∈l,∀ n,Qbu st c=some n→n.ino=c.ino)→atF ⟨l.filterMap (Qbu st),nx⟩ i=(Qa8 l i).bind (Qbu st)
 | [],_,_=>rfl
 | x :: r,hr,hv=>by
  obtain ⟨h1,h2⟩:=W1k.1 hr;have ih:=Qx7 (st:=st) (nx:=nx) (i:=i) (l:=r) h2 (fun c hc=>hv c (by simp [hc]));unfold atF at ih ⊢;unfold Qa8 at ih ⊢;rw [W1e];rw [List.filterMap_cons];cases hx:(x.ino==i) with
  | true=>
   have hxi:x.ino=i:=by simpa using hx
   cases hc:Qbu st x with
   | none=>
    show List.find? (isNo i) (r.filterMap (Qbu st))=(some x).bind (Qbu st);show List.find? (isNo i) (r.filterMap (Qbu st))=Qbu st x;rw [hc,W10];intro n hn;obtain ⟨d,hd,he⟩:=W2i.1 hn;have:=hv d (by simp [hd]) n he;have:=h1 d hd;simp [isNo];omega
   | some n=>
    have:=hv x (by simp) n hc;show List.find? (isNo i) (n :: r.filterMap (Qbu st))=Qbu st x;rw [hc,W1e];have e:isNo i n=true:=by simp [isNo];omega
    rw [e]
  | false=>
   have hxi:¬ x.ino=i:=by simpa using hx
   cases hc:Qbu st x with
   | none=>exact ih
   | some n=>
    have:=hv x (by simp) n hc;show List.find? (isNo i) (n :: r.filterMap (Qbu st))=_;rw [W1e];have e:isNo i n=false:=by simp [isNo];omega
    rw [e];exact ih
theorem Zfs {s:Sto} (hp:Qcc s) (st i:Int):atF (Qcl s st) i=(Qa8 s.l i).bind (Qbu st):=Qx7 (Qpq hp) (fun c hc n h=>Qra hp hc h)
theorem Zar {s:Sto} (hp:Qcc s) (st:Int):Qbm (Qcl s st).l:=by
 have hv:=fun c hc n h=>Qra (st:=st) hp (c:=c) hc (n:=n) h;have hr:=Qpq hp;show Qtm Nod.ino (s.l.filterMap (Qbu st));have hr':s.l.Pairwise (fun c d:Chn=>(c∈s.l∧d∈s.l)∧c.ino<d.ino):=List.Pairwise.imp_of_mem (fun ha hb h=>⟨⟨ha,hb⟩,h⟩) (show s.l.Pairwise (fun c d:Chn=>c.ino<d.ino) from hr);refine List.Pairwise.filterMap _ (fun a b hab x hx y hy=>?_) hr';have:=hv a hab.1.1 x hx;have:=hv b hab.1.2 y hy;have:=hab.2;omega
theorem Qx0 {s:Sto} (hp:Qcc s) {c:Chn} (hc:c∈s.l):Qo8 s.stamp c:=by
 obtain ⟨k,hk⟩:=W0w hc;exact (hp.2.2.2.at hk).1
theorem Qwi {α:Type} {f:α→Int} {m most:Int} {b:List α} {x:α} (hb:b=[]∨Qnw f m b) (h1:m<f x) (h2:f x≤most) (h3:1≤f x):Qnw f most (b++[x]):=by
 refine ⟨by simp,fun i y hy=>?_⟩;by_cases hi:i<b.length
 ·rw [W0o hi] at hy;rcases hb with rfl | hb
  ·simp at hi
  ·have g:=hb.2.at hy;exact ⟨g.1,by have:=g.2.1;omega,fun d h0 hd=>g.2.2 d h0 (by rwa [W0o (by omega)] at hd)⟩
 ·have he:i=b.length:=by have:=Qan hy;simp at this;omega
  subst he;rw [W0n (W0m _),Nat.sub_self] at hy;obtain rfl:=W0c hy;refine ⟨h3,h2,fun d h0 hd=>?_⟩;rw [W0o (by omega)] at hd;rcases hb with rfl | hb
  ·simp at h0
  ·have:=(hb.2.at hd).2.1;omega
theorem Qrm {α:Type} {f:α→Int} {m most:Int} {b:List α} (hb:Qnw f m b) (h:m≤most):Qnw f most b:=⟨hb.1,fun i x hx=>by
 have g:=hb.2.at hx;exact ⟨g.1,by have:=g.2.1;omega,g.2.2⟩⟩
theorem Zgr {s:Sto} (h1:1≤s.stamp) (h2:Qnw Cnt.stamp s.stamp s.nexts) (h3:AllQ (fun _ (c:Cnt)=>1≤c.next) s.nexts) (h4:Qil s.l) (h5:∀ c∈s.l,Qo8 s.stamp c):Qcc s:=
 ⟨h1,h2,h3,fun i c hc=>⟨h5 c (W0h hc),fun d h0 hd=>by
  have l1:=Qan hc;have l2:=Qan hd;have:=W1c.1 h4 (i-1) i l2 l1 (by omega);rw [W0d l1] at hc;rw [W0d l2] at hd;obtain rfl:=W0c hc;obtain rfl:=W0c hd;exact this⟩⟩
def mayC (cs:List Chg):Prop:=∀ c∈cs,1≤c.ino∧(c.gone=false→nodP (nodG c))
theorem Qye {c:Chg} {st:Int} (h:c.gone=false→nodP (nodG c)):verP c.ino (Qai c st):=by
 unfold Qai;cases hg:c.gone with
 | true=>exact ⟨fun _=>rfl,fun h=>(by cases h)⟩
 | false=>exact ⟨fun h=>(by cases h),fun _=>⟨h hg,rfl⟩⟩
theorem Qr5 {s:Sto} (hp:Qcc s) (i:Int):((Qa8 s.l i).elim [] Chn.l=[]∨(Qnw Ver.stamp s.stamp ((Qa8 s.l i).elim [] Chn.l)∧AllQ (fun _ v=>verP i v) ((Qa8 s.l i).elim [] Chn.l)))∧Qbt ((Qa8 s.l i).elim [] Chn.l) (s.stamp+1)=(Qa8 s.l i).elim [] Chn.l:=by
 cases hc:Qa8 s.l i with
 | none=>exact ⟨.inl rfl,rfl⟩
 | some c=>
  have h:=Qx0 hp (Qg1 hc);have hi:=Zfi hc;refine ⟨.inr ⟨h.2.1,hi ▸ h.2.2⟩,Zfn fun v hv=>?_⟩;have:=Qrf hp c (Qg1 hc) v hv;omega
theorem Zdj {s:Sto} {cs:List Chg} {next:Int} (hp:Qcc s) (h1:OneC cs) (i:Int):Qa8 (Qea s cs next).l i=match Qij cs i with
  | some c=>some ⟨i,(Qa8 s.l i).elim [] Chn.l++[Qai c (s.stamp+1)]⟩
  | none=>Qa8 s.l i:=by
 have h:=(Qj7 (st:=s.stamp+1) (Qpq hp) h1).2 i;rw [(Qr5 hp i).2] at h;show Qa8 (Qao s.l (s.stamp+1) cs cs.length) i=_;rw [Qp8];exact h
theorem Qol {s:Sto} (hp:Qcc s):∃ c,s.nexts[s.nexts.length-1]?=some c∧Qi6 s s.stamp=c.next:=by
 have hl:=hp.2.1.1;obtain ⟨c,hc⟩:=Qdk (l:=s.nexts) (k:=s.nexts.length-1) (by omega);refine ⟨c,hc,?_⟩;rw [Zcn (Qwt hp),hc]
theorem Qov {s:Sto} {cs:List Chg} {next:Int} (hp:Qcc s) (h1:OneC cs) (hm:mayC cs) (hn:1≤next):Qcc (Qea s cs next):=by
 have hst:(Qea s cs next).stamp=s.stamp+1:=rfl;have hs1:=hp.1;have hr:Qil (Qea s cs next).l:=by
  show Qil (Qao s.l (s.stamp+1) cs cs.length);rw [Qp8];exact (Qj7 (Qpq hp) h1).1
 obtain ⟨c0,hc0,_⟩:=Qol hp;refine Zgr (by rw [hst];omega) ?_ ?_ hr ?_
 ·show Qnw Cnt.stamp (s.stamp+1) (Qc3 s next);unfold Qc3;rw [hc0];show Qnw Cnt.stamp (s.stamp+1) (if next>c0.next then _ else _)
  split
  ·exact Qwi (m:=s.stamp) (.inr hp.2.1) (by show s.stamp<s.stamp+1;omega) (W1q _) (by show 1≤s.stamp+1;omega)
  ·exact Qrm hp.2.1 (by omega)
 ·show AllQ (fun _ (c:Cnt)=>1≤c.next) (Qc3 s next);intro i c hc;have hmem:=W0h hc;unfold Qc3 at hmem;rw [hc0] at hmem;have hmem:c∈(if next>c0.next then s.nexts++[⟨s.stamp+1,next⟩] else s.nexts):=hmem
  split at hmem
  ·rcases W04.1 hmem with h | h
   ·exact Qr7 hp c h
   ·obtain rfl:=W0z.1 h;exact hn
  ·exact Qr7 hp c hmem
 ·intro c hc;have hat:=Qlr hr hc;rw [Zdj hp h1] at hat
  split at hat
  ·rename_i g hg;obtain ⟨g1,g2⟩:=Qs1 hg;have he:=W0c hat;obtain ⟨o1,_⟩:=Qr5 hp c.ino;have hver:=Qye (st:=s.stamp+1) (hm g g2).2;rw [g1] at hver;have hcl:c.l=(Qa8 s.l c.ino).elim [] Chn.l++[Qai g (s.stamp+1)]:=by rw [← he]
   refine ⟨by have:=(hm g g2).1;omega,?_,?_⟩
   ·rw [hcl,hst];exact Qwi (m:=s.stamp) (o1.imp id fun h=>h.1) (by rw [Qd1];omega) (by rw [Qd1];omega) (by rw [Qd1];omega)
   ·rw [hcl];intro j v hv;rcases W04.1 (W0h hv) with h | h
    ·rcases o1 with h0 | ⟨_,h0⟩
     ·rw [h0] at h;cases h
     ·obtain ⟨k,hk⟩:=W0w h;exact h0.at hk
    ·obtain rfl:=W0z.1 h;exact hver
  ·have h:=Qx0 hp (Qg1 hat);exact ⟨h.1,Qrm h.2.1 (by rw [hst];omega),h.2.2⟩
def nodC (c:Chg):Option Nod:=if c.gone=true then none else some (nodG c)
theorem Zgg {n st b:Int} {r:List Ver} {v:Ver} (h:∀ u∈r++[v],u.stamp≤b):Qbu b ⟨n,r++[v]⟩=if v.gone=true then none else some v.n:=by
 rw [Qej (v:=v)]
 ·rw [show cutV Ver.stamp b (r++[v])=(r++[v]).length from Qqs h (W1q b)];simp
 ·show (r++[v])[cutV Ver.stamp b (r++[v])-1]?=some v;rw [show cutV Ver.stamp b (r++[v])=(r++[v]).length from Qqs h (W1q b)];simp
theorem Qrb (c:Chg) (st:Int):(if (Qai c st).gone=true then none else some (Qai c st).n)=nodC c:=by
 unfold Qai nodC nodG;cases c.gone<;>rfl
theorem old_le {s:Sto} (hp:Qcc s) (i:Int):∀ v∈(Qa8 s.l i).elim [] Chn.l,v.stamp≤s.stamp:=by
 cases hc:Qa8 s.l i with
 | none=>intro v hv;cases hv
 | some c=>exact fun v hv=>Qrf hp c (Qg1 hc) v hv
theorem Zas {s:Sto} {cs:List Chg} {next:Int} (hp:Qcc s) (h1:OneC cs) (hm:mayC cs) (hn:1≤next) (i:Int):atF (Qcl (Qea s cs next) (s.stamp+1)) i=match Qij cs i with
  | some c=>nodC c
  | none=>atF (Qcl s s.stamp) i:=by
 rw [Zfs (Qov hp h1 hm hn),Zdj hp h1,Zfs hp];have hle:=old_le hp i;cases hc:Qij cs i with
 | some c=>
  show Qbu (s.stamp+1) ⟨i,_⟩=nodC c;rw [Zgg (st:=0) (fun u hu=>by
   rcases W04.1 hu with h | h
   ·have:=hle u h;omega
   ·obtain rfl:=W0z.1 h;rw [Qd1];omega),Qrb]
 | none=>
  show (Qa8 s.l i).bind (Qbu (s.stamp+1))=(Qa8 s.l i).bind (Qbu s.stamp);cases hd:Qa8 s.l i with
  | none=>rfl
  | some c=>exact (Zaq (by omega) (Qzm hp (Qg1 hd))).symm
theorem Zco {s:Sto} {cs:List Chg} {next:Int} (hp:Qcc s):Qi6 (Qea s cs next) (s.stamp+1)=maxD (Qi6 s s.stamp) next:=by
 obtain ⟨c0,hc0,he⟩:=Qol hp;have hle:=Qwt hp;rw [he];unfold maxD;have hn:(Qea s cs next).nexts=if next>c0.next then s.nexts++[⟨s.stamp+1,next⟩] else s.nexts:=by
  show Qc3 s next=_
  unfold Qc3;rw [hc0]
 have hb:∀ c∈(Qea s cs next).nexts,c.stamp≤s.stamp+1:=by
  rw [hn];intro c hc
  split at hc
  ·rcases W04.1 hc with h | h
   ·have:=hle c h;omega
   ·obtain rfl:=W0z.1 h;exact W1q _
  ·have:=hle c hc;omega
 rw [Zcn hb,hn];by_cases h:next>c0.next
 ·rw [W1x h,W1x h];simp
 ·rw [W1w h,W1w h,hc0]
theorem Qnj (f g:Fsy):OneC (Qbi f g):=by
 refine List.Pairwise.filterMap _ (fun i j hij a ha b hb=>?_) (Qti f g);have:=(Qfp ha).1;have:=(Qfp hb).1;omega
theorem Qnk {f g:Fsy} (hf:Qat f) (hg:Qat g):mayC (Qbi f g):=fun c hc=>by
 obtain ⟨i,hi,h⟩:=W2i.1 hc;obtain ⟨e,h1⟩:=Qfp h;have hi1:1≤i:=by
  rcases Qg5.1 hi with h | h
  ·obtain ⟨n,hn⟩:=Qor.1 h;have:=Qbf hf hn;have:=this.1.1;omega
  ·obtain ⟨n,hn⟩:=Qor.1 h;have:=Qbf hg hn;have:=this.1.1;omega
 refine ⟨by omega,fun hgo=>?_⟩;rcases h1 with h1 | h1
 ·rw [h1.1] at hgo;cases hgo
 ·obtain ⟨n1,n2,n3⟩:=Qbf hg h1.2;have:nodG c=c.n:=by unfold nodG;rw [e,← n3]
  rw [this];exact n1
theorem Qqv {f g:Fsy} (hg:Qat g) (i:Int):(Qij (Qbi f g) i=none∧atF f i=atF g i)∨(∃ c,Qij (Qbi f g) i=some c∧nodC c=atF g i∧¬ atF f i=atF g i):=by
 cases hc:Qij (Qbi f g) i with
 | none=>
  left;refine ⟨rfl,Classical.byContradiction fun hne=>?_⟩;by_cases hi:i∈Qct f g
  ·cases hd:chgD f g i with
   | none=>
    obtain ⟨n,h1,h2⟩:=Qxz.1 hd;exact hne (h2.trans h1.symm)
   | some c=>
    have hm:c∈Qbi f g:=W2i.2 ⟨i,hi,hd⟩;have:=W10.1 hc c hm;simp [(Qfp hd).1] at this
  ·obtain ⟨h1,h2⟩:=no_mem hi;exact hne (h1.trans h2.symm)
 | some c=>
  right;obtain ⟨c1,c2⟩:=Qs1 hc;have hne:=Qz6 c2;rw [c1] at hne;obtain ⟨j,hj,hd⟩:=W2i.1 c2;obtain ⟨e,h1⟩:=Qfp hd;rw [c1] at e;subst e;refine ⟨c,rfl,?_,hne⟩;rcases h1 with h1 | h1
  ·unfold nodC;rw [W1x h1.1,h1.2]
  ·obtain ⟨n1,n2,n3⟩:=Qbf hg h1.2;unfold nodC;rw [W1w (by rw [h1.1];decide),h1.2];congr 1;unfold nodG;rw [c1,← n3]
theorem Zmi:Elem prog 39 3 (.int .i64 0) 1 8:=⟨Tryz.underlying39,by kernel_rfl,by kernel_rfl,by decide⟩
theorem Zdv (n:Nat) (hn:n≤1000000) (w:World) :
  Calls prog 281 #[.slice none 0 0,.int .i64 (n:Int)] w (Qpe w 3 1 0 []):=by
 by_cases h0:0<n
 ·obtain ⟨G,w',hrun,hG1,hG2,hown,hb⟩:=Qge Zmi Tryz.underlying3 n h0 (by omega) (by omega) w;have HO:=Lib.hid (And.intro hown hb);have hi0:(0:Int)<(n:Int):=by omega
  clear hown hb
  go_enter func281,Tryz.ntmps281
  go_wp2_with (at_builtin;refine Qb7 rfl _ _ _ _ rfl _ _ _ _ rfl rfl (hrun _) ?_)
  go_ret
  exact ⟨_,rfl,HO.out.1,HO.out.2⟩
 ·obtain rfl:n=0:=by omega
  go_enter func281,Tryz.ntmps281
  go_wp2_with fail
  go_ret
  exact ⟨_,rfl,World.ownsRow_nil _ _ _ _,Below.refl _ _⟩
def pcI (p:List (List AV)):List AV:=[.sl 1 false p]
theorem Qsy (ps:List (List (List AV))) (hl:ps.length≤100000) (ht:ps.flatten.length≤100000) (hx:∀ l∈ps.flatten,l.length=1):Qd3 prog 242 [.sl 1 false (ps.map pcI)] 3 1 (ps.flatten):=by
 exact Qek func242 (
 .r 1<|.r 1<|.r 2<|.lm 10 ps pcI<|.r 1<|let L1:Lp (Nat):=⟨fun a1=>⟨[(0,.sl 1 false (ps.map pcI)),(9,.sl 1 false (ps.map pcI)),(10,aI (ps.length:Int)),(3,aI ((ps.take a1).flatten.length:Int)),(11,aI (a1:Int))],[]⟩,fun a1=>ps.length-a1,fun a1=>a1≤ps.length⟩
 .lp L1 0 (show 0≤ps.length from W0j _) [(3,aI 0),(11,aI 0)] [] ⟨sR,sR,sR,sO,sO,trivial⟩ trivial fun a1 ha1=>
 (fun (k:Nat) (hH1:k≤ps.length)=>.r 1<|.bd 12 ((k:Int)<(ps.length:Int)) (fun p1=>.idxM ps pcI k (m:=(k:Int)) rfl (by omega) fun x1 hx1=>
 have tx1:=Qbd ps (k+1);have ux1:=W1y List.length (Qa9 hx1);have vx1:=(@W0e _ (ps.take k).flatten x1);.r 2<|.run 5 [rng .i64 (((ps.take k).flatten.length:Int)+((x1).length:Int))] ⟨Qal,trivial⟩<|
 .r 2<|.bd 20 ((((ps.take k).flatten.length:Int)+((x1).length:Int))<0) (fun p2=>.no (by omega))
 <| fun p2=>.run 2 [rng .i64 ((k:Int)+1)] ⟨Qal,trivial⟩<|
 .bk L1 k (k+1) (show (k+1)≤ps.length from (by show _≤_;omega)) (show ps.length-(k+1)<ps.length-k from (by omega)) [(3,aI (((ps.take k).flatten.length:Int)+((x1).length:Int))),(11,aI ((k:Int)+1))] [] ⟨sR,sR,sR,W2n (W1y aI (by rw [Qa9 hx1,W0e];omega)),sO,trivial⟩ trivial)
 <| fun p1=>.r 1<|.cw (args0:=[aN,aI ((ps.take k).flatten.length:Int)]) (Qgr (fun w=>Zdv ((ps.take k).flatten.length) (by have:=Qbd ps k;omega) w)) sr2 fun V1=>
 .r 1<|.r 2<|.lm 26 ps pcI<|.r 1<|let L2:Lp (Nat × Value):=⟨fun a2=>⟨[(25,.sl 1 false (ps.map pcI)),(26,aI (ps.length:Int)),(27,aI (a2.1:Int)),(6,.rw 24 a2.2 ((ps.take a2.1).flatten.length))],[(24,.row a2.2 3 1 ((ps.take a2.1).flatten))]⟩,fun a2=>ps.length-a2.1,fun a2=>a2.1≤ps.length⟩
 .lp L2 (0,V1) (show 0≤ps.length from W0j _) [(27,aI 0),(6,.rw 24 V1 0)] [(24,.row V1 3 1 ([]))] ⟨sR,sR,sO,W2n (W1y (AV.rw 24 V1) (by simp)),trivial⟩ ⟨⟨_,rfl,W2o (by simp)⟩,trivial⟩ fun a2 ha2=>
 (fun (j:Nat) (V:Value) (hH2:j≤ps.length)=>.r 1<|.bd 28 ((j:Int)<(ps.length:Int)) (fun p3=>.idxM ps pcI j (m:=(j:Int)) rfl (by omega) fun x2 hx2=>
 have tx2:=Qbd ps (j+1);have ux2:=W1y List.length (Qa9 hx2);have vx2:=(@W0e _ (ps.take j).flatten x2);.r 2<|.r 2<|.app 8 V ((ps.take j).flatten) x2 (by omega) (by omega) fun V2=>
 .r 1<|.run 2 [rng .i64 ((j:Int)+1)] ⟨Qal,trivial⟩<|
 .bk L2 (j,V) ((j+1),V2) (show (j+1)≤ps.length from (by show _≤_;omega)) (show ps.length-(j+1)<ps.length-j from (by omega)) [(27,aI ((j:Int)+1)),(6,.rw 24 V2 (((ps.take j).flatten).length+x2.length))] [(24,.row V2 3 1 (((ps.take j).flatten)++x2))] ⟨sR,sR,sO,W2n (W1y (AV.rw 24 V2) (by rw [Qa9 hx2,W0e])),trivial⟩ ⟨⟨_,rfl,W2o (by rw [Qa9 hx2])⟩,trivial⟩)
 <| fun p3=>.r 2<|.finRow (x:=(ps.take j).flatten) (r:=ps.flatten) [] trivial 24 3 1 ((ps.take j).flatten.length) V (by rw [Qap (by omega)])) a2.1 a2.2 ha2) a1 ha1)
theorem Qxw (a b:List Int) (h:a.length+b.length≤100000):Qd3 prog 242 [.sl 1 false ([a.map intA,b.map intA].map pcI)] 3 1 ((a++b).map intA):=by
 have hx:∀ l∈[a.map intA,b.map intA].flatten,l.length=1:=fun l hl=>by
  simp only [W1f,List.flatten_nil,List.append_nil,W04,W1i] at hl;rcases hl with ⟨x,_,rfl⟩ | ⟨x,_,rfl⟩<;>rfl
 have:=Qsy [a.map intA,b.map intA] (by simp) (by simp;omega) hx;rw [W1r];simpa using this
theorem pcI2 {t t1 t2:Bool} (A B:List (List AV)):Sub (.sl 1 t [[.sl 1 t1 A],[.sl 1 t2 B]]) (.sl 1 false ([A,B].map pcI)):=
 (Sub.sl2 (xs:=[[.sl 1 t1 A],[.sl 1 t2 B]]) (ys:=[A,B].map pcI) rfl (fun i q p hq hp=>by
 match i,hq,hp with
 | 0,hq,hp=>simp at hq hp;subst hq hp;exact ⟨W2p _ _ _,trivial⟩
 | 1,hq,hp=>simp at hq hp;subst hq hp;exact ⟨W2p _ _ _,trivial⟩
 | i+2,hq,_=>simp at hq)).trans (W2p _ _ _)
theorem Qzn (a b:List Int) (h1:1≤(a++b).length) (hl:a.length+b.length≤100000):Qag prog 207 [.sl 1 false (a.map intA),.sl 1 false (b.map intA)] (.sl 1 false ((Qda (a++b)).map intA)):=by
 exact Qac func207 (let R:AV:=.sl 1 false ((Qda (a++b)).map intA);
 .r 1<|.r 3<|.op (crR prog 30) (242,[.sl 1 true ([[.sl 1 false (a.map intA)],[.sl 1 false (b.map intA)]])],9) (fun (V:Value) σ=>(σ.put (some 9) (.rw 30 V ((a++b).map intA).length)).setB 30 (.row V 3 1 ((a++b).map intA))) (Qgh (args':=[.sl 1 false ([a.map intA,b.map intA].map pcI)]) ⟨pcI2 _ _,trivial⟩ (Qxw a b (by omega))) fun V1=>
 .r 1<|.lent 1<|.r 1<|.lop (lcR prog 30) ((130,[.rw 30 V1 (((a++b).map intA).length)],some 11),.row V1 3 1 ((a++b).map intA)) (fun (_:Unit) σ=>(σ.put (some 11) (.tup [])).setB 30 (.row V1 3 1 (((a++b).mergeSort fun x y=>decide (x≤y)).map intA))) (Qde (args':=[.rw 30 V1 ((a++b).length)]) ⟨W2n (W1y (AV.rw 30 V1) (by rw [W0a])),trivial⟩ (Qn8 (a++b) V1 h1 (by rw [W0e];omega))) fun _=>
 .lent 1<|.r 1<|.lop (lcR prog 30) ((131,[.rw 30 V1 (((a++b).map intA).length)],some 13),.row V1 3 1 (((a++b).mergeSort fun x y=>decide (x≤y)).map intA)) (fun (_:Unit) σ=>(σ.put (some 13) (.sl 1 false ((Qda (a++b)).map intA))).setB 30 gone) (Qcs (args':=[.rw 30 V1 (((a++b).mergeSort fun x y=>decide (x≤y)).length)]) ⟨W2n (W1y (AV.rw 30 V1) (by rw [W0a,List.length_mergeSort])),trivial⟩ (Qjk ((a++b).mergeSort fun x y=>decide (x≤y)) V1 (by rw [List.length_mergeSort];exact h1) (by rw [List.length_mergeSort,W0e];omega))) fun _=>
 .r 1<|.fi R [])
theorem Qzo :Qag prog 207 [.sl 1 false (([]:List Int).map intA),.sl 1 false (([]:List Int).map intA)] (.sl 1 false []):=by
 exact Qac func207 (
 .r 1<|.r 3<|.op (crR prog 30) (242,[.sl 1 true ([[.sl 1 false (([]:List Int).map intA)],[.sl 1 false (([]:List Int).map intA)]])],9) (fun (V:Value) σ=>(σ.put (some 9) (.rw 30 V ([]:List (List AV)).length)).setB 30 (.row V 3 1 (([]:List (List AV))))) (Qgh (args':=[.sl 1 false ([([]:List Int).map intA,([]:List Int).map intA].map pcI)]) ⟨pcI2 _ _,trivial⟩ (Qxw [] [] (by simp))) fun V1=>
 .r 1<|.lent 1<|.r 1<|.lop (lcR prog 30) ((130,[.rw 30 V1 (([]:List (List AV)).length)],some 11),.row V1 3 1 ([]:List (List AV))) (fun (_:Unit) σ=>(σ.put (some 11) (.tup [])).setB 30 (.row V1 3 1 ([]))) (Qde (args':=[.rw 30 V1 0]) ⟨W2n rfl,trivial⟩ (Qn9 V1)) fun _=>
 .lent 1<|.r 1<|.lop (lcR prog 30) ((131,[.rw 30 V1 (([]:List (List AV)).length)],some 13),.row V1 3 1 ([])) (fun (_:Unit) σ=>(σ.put (some 13) (.sl 1 false ([]))).setB 30 gone) (Qcs (args':=[.rw 30 V1 0]) ⟨W2n rfl,trivial⟩ (Qjl V1)) fun _=>
 .r 1<|.fi (.sl 1 false []) [])
theorem Qd9 (a b:List Int) (hl:a.length+b.length≤100000):Qag prog 207 [.sl 1 false (a.map intA),.sl 1 false (b.map intA)] (.sl 1 false ((Qda (a++b)).map intA)):=by
 by_cases h1:1≤(a++b).length
 ·exact Qzn a b h1 hl
 ·rw [W0e] at h1;obtain rfl:a=[]:=W0l (by omega);obtain rfl:b=[]:=W0l (by omega);rw [show Qda ([]++[])=[] from W0l (Nat.le_zero.1 (Qis []))];exact Qzo
def fltK (f:Fsy) (c:Cal) (k:Nat):List Int:=((Qby f c).take k).filter fun x=>decide (1≤x)
def fltF (f:Fsy) (c:Cal):List Int:=(Qby f c).filter fun x=>decide (1≤x)
def Qcr (f:Fsy) (c:Cal):List Int:=if c.kind=6∨c.kind=7∨c.kind=8∨c.kind=12∨c.kind=15 then 0 :: fltF f c else fltF f c
theorem Qxg {f:Fsy} {c:Cal} {k:Nat} {x:Int} (h:(Qby f c)[k]?=some x) (q:1≤x):fltK f c (k+1)=fltK f c k++[x]:=by
 unfold fltK;rw [Qaq h,W1j];simp [q]
theorem Zd5 {f:Fsy} {c:Cal} {k:Nat} {x:Int} (h:(Qby f c)[k]?=some x) (q:¬ 1≤x):fltK f c (k+1)=fltK f c k:=by
 unfold fltK;rw [Qaq h,W1j];simp [q]
theorem Qgt (f:Fsy) (c:Cal) (k:Nat):(fltK f c k).length≤6:=by
 have h1:=W2g (fun x=>decide ((1:Int)≤x)) ((Qby f c).take k);have h2:=Qos f c;rw [W0g] at h1;unfold fltK;omega
theorem Qc9 {f:Fsy} {c:Cal} {k:Nat} (h:(Qby f c).length≤k):fltK f c k=fltF f c:=by unfold fltK;rw [Qap h];rfl
theorem Qzi (f:Fsy) (c:Cal):Asc (Qby f c):=by
 unfold Qby
 split
 ·unfold Asc;simp
 ·exact Ql2 _
theorem Qxh (f:Fsy) (c:Cal):Asc (fltF f c):=List.Pairwise.filter _ (Qzi f c)
theorem Qlo {f:Fsy} {c:Cal} {x:Int}:x∈fltF f c↔x∈Qby f c∧1≤x:=by unfold fltF;rw [W1l];simp
theorem Zif {f:Fsy} {c:Cal} {x:Int} (h:x∈fltF f c):1≤x:=(Qlo.1 h).2
theorem Zay (f:Fsy) (c:Cal):Asc (Qcr f c):=by
 unfold Qcr
 split
 ·exact W1k.2 ⟨fun x hx=>by have:=Zif hx;omega,Qxh f c⟩
 ·exact Qxh f c
theorem Zax {f:Fsy} {c:Cal} {x:Int}:x∈Qcr f c↔(x=0∧Qip c)∨(x∈Qby f c∧1≤x):=by
 unfold Qcr
 split
 ·rename_i h;rw [W0y,Qlo];constructor
  ·rintro (e | e)
   ·exact .inl ⟨e,h⟩
   ·exact .inr e
  ·rintro (e | e)
   ·exact .inl e.1
   ·exact .inr e
 ·rename_i h;rw [Qlo];constructor
  ·exact .inr
  ·rintro (e | e)
   ·exact absurd e.2 h
   ·exact e
theorem Qir (f:Fsy) (c:Cal):(Qcr f c).length≤7:=by
 have h:(fltF f c).length≤6:=by rw [← Qc9 (W0m _)];exact Qgt f c _
 unfold Qcr
 split
 ·rw [W0b];omega
 ·omega
theorem Qfd {f:Fsy} {c:Cal} (h:Qip c):Qda ([0]++fltF f c)=Qcr f c:=Qvx (Ql2 _) (Zay f c) fun x=>by
 rw [Qrg,Zax,W04,Qlo,W0z];constructor
 ·rintro (e | e)
  ·exact .inl ⟨e,h⟩
  ·exact .inr e
 ·rintro (e | e)
  ·exact .inl e.1
  ·exact .inr e
theorem Zgk {f:Fsy} {c:Cal} (h:¬ Qip c):Qcr f c=fltF f c:=W1w h
theorem Qn5 (f:Fsy) (c:Cal) (okf:OkF f) (okc:OkCal c) (hp:Qat f):Qag prog 208 [.agg (fsyA f),.agg (calA c)] (.sl 1 false ((Qcr f c).map intA)):=by
 have hlu:=Qos f c;exact Qac func208 (
 .new fun b1=>.new fun b2=>.r 1<|.r 1<|.rowNil 5 5 3 1<|.u 2 [b1,b2]<|
 .call (Quo f c okf okc hp)<|
 .r 1<|.lm 11 (Qby f c) intA<|.r 1<|let L1:Lp (Nat × Value):=⟨fun a1=>⟨[(3,.ptr 3 b2 0),(10,.sl 1 false ((Qby f c).map intA)),(11,aI ((Qby f c).length:Int)),(12,aI (a1.1:Int)),(5,.rw 5 a1.2 ((fltK f c a1.1).length))],[(3,.box b2 60 (calA c)),(5,.row a1.2 3 1 ((fltK f c a1.1).map intA))]⟩,fun a1=>(Qby f c).length-a1.1,fun a1=>a1.1≤(Qby f c).length⟩
 .lp L1 (0,.slice none 0 0) (show 0≤(Qby f c).length from W0j _) [(12,aI 0),(5,.rw 5 (.slice none 0 0) 0)] [(5,.row (.slice none 0 0) 3 1 ([]))] ⟨sR,sR,sR,sO,sR,trivial⟩ bb2 fun a1 ha1=>
 (fun (k:Nat) (V:Value) (hH1:k≤(Qby f c).length)=>.r 1<|.bd 13 ((k:Int)<((Qby f c).length:Int)) (fun p1=>.idxM (Qby f c) intA k (m:=(k:Int)) rfl (by omega) fun x1 hx1=>
 .r 2<|.r 2<|.bd 17 (x1≥1) (fun p2=>.r 3<|.app 8 V ((fltK f c k).map intA) ([[aI x1]]) (by have:=Qgt f c k;simp only [W0a,W0b,W0f];omega) (by have:=Qgt f c k;simp only [W0a,W0b,W0f];omega) fun V1=>
 .r 1<|.run 2 [rng .i64 ((k:Int)+1)] ⟨Qal,trivial⟩<|
 .bk L1 (k,V) ((k+1),V1) (show (k+1)≤(Qby f c).length from (by show _≤_;omega)) (show (Qby f c).length-(k+1)<(Qby f c).length-k from (by omega)) [(12,aI ((k:Int)+1)),(5,.rw 5 V1 (((fltK f c k).map intA).length+([[aI x1]]:List (List AV)).length))] [(5,.row V1 3 1 (((fltK f c k).map intA)++([[aI x1]])))] ⟨sR,sR,sR,sO,W2n (W1y (AV.rw 5 V1) (by rw [Qxg hx1 (by omega)];simp)),trivial⟩ ⟨sB,⟨_,rfl,W2o (by rw [Qxg hx1 (by omega)];simp [intA])⟩,trivial⟩)
 <| fun p2=>.run 2 [rng .i64 ((k:Int)+1)] ⟨Qal,trivial⟩<|
 .bk L1 (k,V) ((k+1),V) (show (k+1)≤(Qby f c).length from (by show _≤_;omega)) (show (Qby f c).length-(k+1)<(Qby f c).length-k from (by omega)) [(12,aI ((k:Int)+1)),(5,.rw 5 V ((fltK f c k).length))] [(5,.row V 3 1 ((fltK f c k).map intA))] ⟨sR,sR,sR,sO,W2n (W1y (AV.rw 5 V) (by rw [Zd5 hx1 (by omega)])),trivial⟩ ⟨sB,⟨_,rfl,W2o (by rw [Zd5 hx1 (by omega)])⟩,trivial⟩)
 <| fun p1=>.u 2 [b2]<|
 .r 2<|.be 25 c.kind 6 (fun p3=>.frz 5 [5,13,25] [] [V=V,(fltK f c k).length=((fltK f c k).map intA).length] ⟨rfl,(by first | rfl | (simp;done) | (simp;omega)),trivial⟩<|
 .r 2<|.cs (args0:=[.sl 1 true ([[aI 0]]),.sl 1 false ((fltK f c k).map intA)]) (Qd9 [0] (fltF f c) (by have:=Qgt f c k;rw [← Qc9 (f:=f) (c:=c) (k:=k) (by omega)];simp;omega)) ⟨W2p _ _ _,W2n (by rw [Qc9 (by omega)]),trivial⟩<|
 .r 1<|.f (.sl 1 false ((Qcr f c).map intA)) [] (.sl 1 false ((Qda ([0]++fltF f c)).map intA)) (by
  rw [← Qfd (by unfold Qip;omega)];exact sR))
 <| fun p3=>.r 2<|.be 25 c.kind 7 (fun p4=>.frz 5 [5,13,25] [] [V=V,(fltK f c k).length=((fltK f c k).map intA).length] ⟨rfl,(by first | rfl | (simp;done) | (simp;omega)),trivial⟩<|
 .r 2<|.cs (args0:=[.sl 1 true ([[aI 0]]),.sl 1 false ((fltK f c k).map intA)]) (Qd9 [0] (fltF f c) (by have:=Qgt f c k;rw [← Qc9 (f:=f) (c:=c) (k:=k) (by omega)];simp;omega)) ⟨W2p _ _ _,W2n (by rw [Qc9 (by omega)]),trivial⟩<|
 .r 1<|.f (.sl 1 false ((Qcr f c).map intA)) [] (.sl 1 false ((Qda ([0]++fltF f c)).map intA)) (by
  rw [← Qfd (by unfold Qip;omega)];exact sR))
 <| fun p4=>.r 2<|.be 25 c.kind 8 (fun p5=>.frz 5 [5,13,25] [] [V=V,(fltK f c k).length=((fltK f c k).map intA).length] ⟨rfl,(by first | rfl | (simp;done) | (simp;omega)),trivial⟩<|
 .r 2<|.cs (args0:=[.sl 1 true ([[aI 0]]),.sl 1 false ((fltK f c k).map intA)]) (Qd9 [0] (fltF f c) (by have:=Qgt f c k;rw [← Qc9 (f:=f) (c:=c) (k:=k) (by omega)];simp;omega)) ⟨W2p _ _ _,W2n (by rw [Qc9 (by omega)]),trivial⟩<|
 .r 1<|.f (.sl 1 false ((Qcr f c).map intA)) [] (.sl 1 false ((Qda ([0]++fltF f c)).map intA)) (by
  rw [← Qfd (by unfold Qip;omega)];exact sR))
 <| fun p5=>.r 2<|.be 25 c.kind 12 (fun p6=>.frz 5 [5,13,25] [] [V=V,(fltK f c k).length=((fltK f c k).map intA).length] ⟨rfl,(by first | rfl | (simp;done) | (simp;omega)),trivial⟩<|
 .r 2<|.cs (args0:=[.sl 1 true ([[aI 0]]),.sl 1 false ((fltK f c k).map intA)]) (Qd9 [0] (fltF f c) (by have:=Qgt f c k;rw [← Qc9 (f:=f) (c:=c) (k:=k) (by omega)];simp;omega)) ⟨W2p _ _ _,W2n (by rw [Qc9 (by omega)]),trivial⟩<|
 .r 1<|.f (.sl 1 false ((Qcr f c).map intA)) [] (.sl 1 false ((Qda ([0]++fltF f c)).map intA)) (by
  rw [← Qfd (by unfold Qip;omega)];exact sR))
 <| fun p6=>.r 2<|.be 25 c.kind 15 (fun p7=>.frz 5 [5,13,25] [] [V=V,(fltK f c k).length=((fltK f c k).map intA).length] ⟨rfl,(by first | rfl | (simp;done) | (simp;omega)),trivial⟩<|
 .r 2<|.cs (args0:=[.sl 1 true ([[aI 0]]),.sl 1 false ((fltK f c k).map intA)]) (Qd9 [0] (fltF f c) (by have:=Qgt f c k;rw [← Qc9 (f:=f) (c:=c) (k:=k) (by omega)];simp;omega)) ⟨W2p _ _ _,W2n (by rw [Qc9 (by omega)]),trivial⟩<|
 .r 1<|.f (.sl 1 false ((Qcr f c).map intA)) [] (.sl 1 false ((Qda ([0]++fltF f c)).map intA)) (by
  rw [← Qfd (by unfold Qip;omega)];exact sR))
 <| fun p7=>.r 2<|.frz 5 [4] [] [V=V,(fltK f c k).length=((fltK f c k).map intA).length] ⟨rfl,(by first | rfl | (simp;done) | (simp;omega)),trivial⟩<|
 .f (.sl 1 false ((Qcr f c).map intA)) [] (.sl 1 false ((fltK f c k).map intA)) (by
  rw [Zgk (by unfold Qip;omega),← Qc9 (k:=k) (by omega)]
  first | exact sR | exact W2p _ _ _)) a1.1 a1.2 ha1)
structure Txn where
 stamp:Int
 was:Fsy
 now:Fsy
 looks:List Int
def txnA (t:Txn):List AV:=[aI t.stamp,.sl 5 false (t.was.l.map nodA),aI t.was.next,.sl 5 false (t.now.l.map nodA),aI t.now.next,.sl 1 false (t.looks.map intA)]
theorem txn_eq {x y:Txn} (h1:x.stamp=y.stamp) (h2:x.was=y.was) (h3:x.now=y.now) (h4:x.looks=y.looks):x=y:=by cases x;cases y;simp_all
noncomputable def Qdw (t:Txn) (c:Cal):Txn:=⟨t.stamp,t.was,(doF t.now c).1,Qda (t.looks++Qcr t.now c)⟩
theorem Ql0 (t:Txn) (c:Cal):(Qdw t c).looks.length≤t.looks.length+7:=by
 have h1:=Qis (t.looks++Qcr t.now c);have h2:=Qir t.now c;rw [W0e] at h1;show (Qda (t.looks++Qcr t.now c)).length≤_;omega
theorem Za5 (t:Txn) (c:Cal) (okf:OkF t.now) (okc:OkCal c) (hp:Qat t.now) (hx:t.now.next<4611686018427387904) (hl:t.looks.length≤90000):Qag prog 167 [.agg [aI t.stamp,.sl 5 false (t.was.l.map nodA),aI t.was.next,.sl 5 false (t.now.l.map nodA),aI t.now.next,.sl 1 false (t.looks.map intA)],.agg (calA c)] (.tup [.agg (txnA (Qdw t c)),.agg (repA (doF t.now c).2)]):=by
 exact Qac func167 (let R:AV:=.tup [.agg (txnA (Qdw t c)),.agg (repA (doF t.now c).2)];
 .new fun b1=>.new fun b2=>.new fun b3=>.new fun b4=>.u 3 [b1,b2]<|
 .call (Zmx t.now c okf okc hp (by omega))<|
 .r 3<|.new fun b5=>.new fun b6=>.u 2 [b5,b6]<|
 let J1:Jn (Unit):=⟨fun j1=>⟨[(4,.ptr 4 b3 0),(5,.ptr 5 b4 0)],[(4,.box b3 41 [aI t.stamp,.sl 5 false (t.was.l.map nodA),aI t.was.next,.sl 5 false ((doF t.now c).1.l.map nodA),aI ((doF t.now c).1.next),.sl 1 false ((Qda (t.looks++Qcr t.now c)).map intA)]),(5,.box b4 45 [aI ((doF t.now c).2.e),aI ((doF t.now c).2.a),aI ((doF t.now c).2.b),aI ((doF t.now c).2.n),aS ((doF t.now c).2.text),.sl 1 false ((doF t.now c).2.names.map txA)])]⟩,fun _=>True⟩
 .cut J1 (.pick [0,1,2,3,4,5,6,7,8,9]<|.u 10 [b1,b1,b5,b1,b1,b2]<|
 .fork<|.alt (.call (Qn5 t.now c okf okc hp)<|
 .fork<|.alt (.call (Qd9 t.looks (Qcr t.now c) (by have:=Qir t.now c;omega))<|
 .pick [12]<|.r 1<|.fork<|.alt (.u 1 [b6]<|
 .pick [14,15]<|.u 2 [b3,b4]<|
 .jo J1 () [] [] sr2 bb2)
 <| .u 1 [b3]<|
 .pick [13,15]<|.u 2 [b6,b4]<|
 .jo J1 () [] [] sr2 bb2)
 <| .u 1 [b6]<|
 .pick [11,12,14,15]<|.call (Qd9 t.looks (Qcr t.now c) (by have:=Qir t.now c;omega))<|
 .u 3 [b3,b4]<|
 .jo J1 () [] [] sr2 bb2)
 <| .u 1 [b6]<|
 .pick [10,11,12,14,15]<|.call (Qn5 t.now c okf okc hp)<|
 .call (Qd9 t.looks (Qcr t.now c) (by have:=Qir t.now c;omega))<|
 .u 3 [b3,b4]<|
 .jo J1 () [] [] sr2 bb2)
 <| fun _ _=>.fi R [b3,b4])
theorem Zeb (a b:List Nod) (ha:a.length≤8796093022207) (hb:b.length≤8796093022207) (oka:∀ v∈a,OkN v) (okb:∀ v∈b,OkN v):Qag prog 132 [.sl 5 false (a.map nodA),.sl 5 false (b.map nodA),.val (.func (.func 99) #[] #[])] (aB (dP (a=b))):=by
 exact Qac func132 (let R:AV:=aB (dP (a=b));
 .r 1<|.r 2<|.lm 11 a nodA<|.r 2<|.lm 13 b nodA<|.r 1<|.br 14 ((a.length:Int) != (b.length:Int)) (fun q1=>have p1:=bneT q1;.r 1<|.f (aB (dP (a=b))) [] (aB false) (by exact sF (fun h=>by have:=W1y List.length h;omega)))
 <| fun q1=>have p1:=bneF q1;.r 2<|.lm 16 a nodA<|.r 1<|let L1:Lp (Nat):=⟨fun a1=>⟨[(1,.sl 5 false (b.map nodA)),(2,.val (.func (.func 99) #[] #[])),(15,.sl 5 false (a.map nodA)),(16,aI (a.length:Int)),(17,aI (a1:Int))],[]⟩,fun a1=>a.length-a1,fun a1=>a1≤a.length∧a.take a1=b.take a1⟩
 .lp L1 0 ⟨W0j _,rfl⟩ [(17,aI 0)] [] ⟨sR,sR,sR,sR,sO,trivial⟩ trivial fun a1 ha1=>
 (fun (k:Nat) (hH1:k≤a.length∧a.take k=b.take k)=>.r 1<|.br 18 (decide ((k:Int)<(a.length:Int))) (fun q2=>have p2:=decT q2;.r 1<|.idxM a nodA k (m:=(k:Int)) rfl (by omega) fun x1 hx1=>
 have okx1:=oka x1 (W0h hx1);.r 1<|.new fun b1=>.u 2 [b1]<|
 .r 2<|.idxM b nodA k (m:=(k:Int)) rfl (by omega) fun x2 hx2=>
 have okx2:=okb x2 (W0h hx2);.r 1<|.new fun b2=>.u 1 [b2]<|
 .u 3 [b1,b2]<|
 .call (Qok x1 x2 okx1 okx2)<|
 .r 1<|.br 30 (!(dP (x1=x2))) (fun q3=>have q3:=notT q3;have p3:=booF q3;.r 1<|.f R [] (aB false) (by
  refine sF (fun h=>?_);rw [h,hx2] at hx1;obtain rfl:=W0c hx1;simp_all [Qaf,Qaa]))
 <| fun q3=>have q3:=notF q3;have p3:=booT q3;.run 2 [rng .i64 ((k:Int)+1)] ⟨Qal,trivial⟩<|
 .bk L1 k (k+1) ⟨by omega,by rw [Qaq hx1,Qaq hx2,hH1.2];first | (congr 2;done) | (congr 2;exact Qaf.1 (by assumption))⟩ (show a.length-(k+1)<a.length-k from (by omega)) [(17,aI ((k:Int)+1))] [] ⟨sR,sR,sR,sR,sO,trivial⟩ trivial)
 <| fun q2=>have p2:=decF q2;.r 1<|.f R [] (aB true) (by
  refine sT ?_;have h:=hH1.2;rw [Qap (by omega),Qap (by omega)] at h;exact h)) a1 ha1)
theorem Qyg (f g:Fsy) (okf:OkF f) (okg:OkF g):Qag prog 95 [.agg (fsyA f),.agg (fsyA g)] (aB (dP (f=g))):=by
 exact Qac func95 (let R:AV:=aB (dP (f=g));
 .new fun b1=>.new fun b2=>.r 1<|.u 6 [b1,b2]<|
 .be 10 f.next g.next (fun p1=>.u 4 [b1,b2]<|
 .call (Zeb f.l g.l okf.2.1 okg.2.1 okf.2.2 okg.2.2)<|
 .r 2<|.f R [] (aB (dP (f.l=g.l))) (by
  refine sE ?_;constructor
  ·intro h;simp only [W0r,beq_iff_eq,Qaf] at *;refine Zki ?_ ?_<;>simp_all
  ·intro h;subst h;simp_all [Qaf]))
 <| fun p1=>.r 7<|.f R [] (aB false) (by
  refine sF (fun h=>?_);subst h;simp_all [Qaa]))
structure OkT (t:Txn):Prop where
 stamp:I64 t.stamp
 was:OkF t.was
 now:OkF t.now
 len:t.looks.length≤140737488351232
theorem Zdo (t:Txn) (okt:OkT t):Qag prog 169 [.agg [aI t.stamp,.sl 5 false (t.was.l.map nodA),aI t.was.next,.sl 5 false (t.now.l.map nodA),aI t.now.next,.sl 1 false (t.looks.map intA)]] (aB (dP (t.was=t.now))):=by
 exact Qac func169 (let R:AV:=aB (dP (t.was=t.now));
 .new fun b1=>.r 1<|.u 4 [b1,b1]<|
 .call (Qyg t.was t.now okt.was okt.now)<|
 .r 1<|.fi R [])
theorem Qzp (a b:List Int) (ha:a.length≤140737488351232) (hb:b.length≤140737488351232):Qag prog 90 [.sl 1 false (a.map intA),.sl 1 false (b.map intA)] (aB (dP (a=b))):=by
 exact Qac func90 (let R:AV:=aB (dP (a=b));
 .r 1<|.r 2<|.lm 7 a intA<|.r 2<|.lm 9 b intA<|.r 1<|.bn 10 (a.length:Int) (b.length:Int) (fun p1=>.r 1<|.f (aB (dP (a=b))) [] (aB false) (by exact sF (fun h=>by have:=W1y List.length h;omega)))
 <| fun p1=>.r 1<|let L1:Lp (Nat):=⟨fun a1=>⟨[(0,.sl 1 false (a.map intA)),(1,.sl 1 false (b.map intA)),(5,aI (a1:Int))],[]⟩,fun a1=>a.length-a1,fun a1=>a1≤a.length∧a.take a1=b.take a1⟩
 .lp L1 0 ⟨W0j _,rfl⟩ [(5,aI 0)] [] ⟨sR,sR,sO,trivial⟩ trivial fun a1 ha1=>
 (fun (k:Nat) (hH1:k≤a.length∧a.take k=b.take k)=>.r 3<|.lm 13 a intA<|.r 1<|.bd 14 ((k:Int)<(a.length:Int)) (fun p2=>.ord [0,1,2,3,4,5,6,7,8]<|.r 2<|.idxM a intA k (m:=(k:Int)) rfl (by omega) fun x1 hx1=>
 .r 3<|.idxM b intA k (m:=(k:Int)) rfl (by omega) fun x2 hx2=>
 .r 2<|.bn 25 x1 x2 (fun p3=>.r 1<|.f R [] (aB false) (by
  refine sF (fun h=>?_);rw [h,hx2] at hx1;obtain rfl:=W0c hx1;simp_all [Qaf,Qaa]))
 <| fun p3=>.run 3 [rng .i64 ((k:Int)+1)] ⟨Qal,trivial⟩<|
 .bk L1 k (k+1) ⟨by omega,by rw [Qaq hx1,Qaq hx2,hH1.2];first | (congr 2;done) | (congr 2;exact (by simp_all))⟩ (show a.length-(k+1)<a.length-k from (by omega)) [(5,aI ((k:Int)+1))] [] ⟨sR,sR,sO,trivial⟩ trivial)
 <| fun p2=>.r 1<|.f R [] (aB true) (by
  refine sT ?_;have h:=hH1.2;rw [Qap (by omega),Qap (by omega)] at h;exact h)) a1 ha1)
theorem Qt4 (t u:Txn) (okt:OkT t) (oku:OkT u):Qag prog 49 [.agg [aI t.stamp,.sl 5 false (t.was.l.map nodA),aI t.was.next,.sl 5 false (t.now.l.map nodA),aI t.now.next,.sl 1 false (t.looks.map intA)],.agg [aI u.stamp,.sl 5 false (u.was.l.map nodA),aI u.was.next,.sl 5 false (u.now.l.map nodA),aI u.now.next,.sl 1 false (u.looks.map intA)]] (aB (dP (t=u))):=by
 exact Qac func49 (let R:AV:=aB (dP (t=u));
 .new fun b1=>.new fun b2=>.r 1<|.u 4 [b1,b2]<|
 .call (Qox t.was u.was okt.was oku.was)<|
 .r 1<|.u 4 [b1,b2]<|
 .call (Qox t.now u.now okt.now oku.now)<|
 .r 1<|.u 4 [b1,b2]<|
 .call (Qzp t.looks u.looks okt.len oku.len)<|
 .r 1<|.r 2<|.bb 24 (dP (t.was=u.was)) (fun p1=>.r 3<|.bb 27 (dP (t.now=u.now)) (fun p2=>.r 3<|.bb 30 (dP (t.looks=u.looks)) (fun p3=>.u 7 [b1,b2]<|
 .f R [] (aB (t.stamp==u.stamp)) (by
  refine sE ?_;constructor
  ·intro h;simp only [W0r,beq_iff_eq,Qaf] at *;refine txn_eq ?_ ?_ ?_ ?_<;>simp_all
  ·intro h;subst h;simp_all [Qaf]))
 <| fun p3=>.r 7<|.f R [] (aB false) (by
  refine sF (fun h=>?_);subst h;simp_all [Qaa]))
 <| fun p2=>.r 10<|.f R [] (aB false) (by
  refine sF (fun h=>?_);subst h;simp_all [Qaa]))
 <| fun p1=>.r 13<|.f R [] (aB false) (by
  refine sF (fun h=>?_);subst h;simp_all [Qaa]))
def Qas (s:Sto):Txn:=⟨s.stamp,Qcl s s.stamp,Qcl s s.stamp,[]⟩
theorem Qes (s:Sto) (oks:OkS s) (hf:s.l.length≤100000):Qag prog 165 [.agg (stoA s)] (.agg (txnA (Qas s))):=by
 exact Qac func165 (let R:AV:=.agg (txnA (Qas s));
 .new fun b1=>.new fun b2=>.ord [0,1,2,3,4,6,7,8,5,9,10,11]<|.u 8 [b1,b1,b1,b1,b1]<|
 .call (Qq9 s s.stamp oks hf)<|
 .call (Qq9 s s.stamp oks hf)<|
 .u 2 [b2]<|
 .f R [b2] (.agg [aI s.stamp,.sl 5 false ((Qcl s s.stamp).l.map nodA),aI ((Qcl s s.stamp).next),.sl 5 false ((Qcl s s.stamp).l.map nodA),aI ((Qcl s s.stamp).next),aN]) (by exact W2r ⟨sR,sR,sR,sR,sR,Sub.nil _ _,trivial⟩))
def Zbt (l:List Int) (i:Nat) (x:Int):Prop:=0≤x∧∀ y,0<i→l[i-1]?=some y→y<x
def txnP (t:Txn):Prop:=(Asc t.looks∧∀ x∈t.looks,0≤x)∧Qe3 t.was∧Qe3 t.now∧t.was.next≤t.now.next∧1≤t.stamp
theorem Qhg:∀ {l:List Int},(Asc l∧∀ x∈l,0≤x)↔AllQ (Zbt l) l:=by
 intro l;constructor
 ·rintro ⟨h1,h2⟩ i x hx;refine ⟨h2 x (W0h hx),fun y h0 hy=>?_⟩;have l1:=Qan hx;have l2:=Qan hy;have:=W1c.1 h1 (i-1) i l2 l1 (by omega);rw [W0d l1] at hx;rw [W0d l2] at hy;obtain rfl:=W0c hx;obtain rfl:=W0c hy;exact this
 ·intro h;have key:∀ (j i:Nat) (hi:i<l.length) (hj:j<l.length),i<j→l[i]<l[j]:=by
   intro j
   induction j with
   | zero=>intro i hi hj h0;omega
   | succ j ih=>
    intro i hi hj hij;have h1:=(h.at (W0d hj)).2 (l[j]'(by omega)) (by omega) (by simp);by_cases e:i=j
    ·subst e;exact h1
    ·have:=ih i hi (by omega) (by omega);omega
  refine ⟨W1c.2 fun i j hi hj hij=>key j i hi hj hij,fun x hx=>?_⟩;obtain ⟨k,hk⟩:=W0w hx;exact (h.at hk).1
theorem Qkm (t:Txn) (okt:OkT t) (hmw:midF t.was) (hmn:midF t.now):Qag prog 37 [.agg [aI t.stamp,.sl 5 false (t.was.l.map nodA),aI t.was.next,.sl 5 false (t.now.l.map nodA),aI t.now.next,.sl 1 false (t.looks.map intA)]] (aB (dP (txnP t))):=by
 have hbl:=okt.len;exact Qac func37 (let R:AV:=aB (dP (txnP t));
 .new fun b1=>.r 1<|.r 1<|let L1:Lp (Nat):=⟨fun a1=>⟨[(1,.ptr 1 b1 0),(3,aI (a1:Int))],[(1,.box b1 41 [aI t.stamp,.sl 5 false (t.was.l.map nodA),aI t.was.next,.sl 5 false (t.now.l.map nodA),aI t.now.next,.sl 1 false (t.looks.map intA)])]⟩,fun a1=>t.looks.length-a1,fun a1=>a1≤t.looks.length∧Qaz (Zbt t.looks) t.looks a1⟩
 .lp L1 0 ⟨W0j _,Qaz.zero _ _⟩ [(3,aI 0)] [] ⟨sR,sO,trivial⟩ bb1 fun a1 ha1=>
 (fun (k:Nat) (hH1:k≤t.looks.length∧Qaz (Zbt t.looks) t.looks k)=>.u 4 [b1]<|
 .lm 9 t.looks intA<|.r 1<|.bd 10 ((k:Int)<(t.looks.length:Int)) (fun p1=>.ord [0,1,2,3,4,5,6,7,8,9,10,11,12,13,14,15,16,17,18,19,20,21,22,23]<|.u 3 [b1]<|
 .idxM t.looks intA k (m:=(k:Int)) rfl (by omega) fun x1 hx1=>
 .r 3<|.bd 19 (x1<0) (fun p2=>.r 17<|.r 1<|.f R [] (aB false) (by
  refine sF (fun h=>?_);have g:=(Qhg.1 h.1).at hx1;have:=g.1;omega))
 <| fun p2=>.r 3<|.bd 22 ((k:Int)>0) (fun p3=>.run 4 [b1=b1,rng .i64 ((k:Int)-1)] ⟨rfl,Qal,trivial⟩<|
 .idxM t.looks intA (k-1) (m:=(k:Int)-1) (show (k:Int)-1=((k-1:Nat):Int) from by omega) (by omega) fun x2 hx2=>
 .u 4 [b1]<|
 .idx k (m:=(k:Int)) (xs:=t.looks.map intA) (e:=intA x1) rfl (map_some hx1)<|
 .r 4<|.bd 36 (x2≥x1) (fun p4=>.r 1<|.f R [] (aB false) (by
  refine sF (fun h=>?_);have g:=(Qhg.1 h.1).at hx1;have:=g.2 x2 (by omega) hx2;have:=g.1;omega))
 <| fun p4=>.run 3 [rng .i64 ((k:Int)+1)] ⟨Qal,trivial⟩<|
 .bk L1 k (k+1) ⟨by omega,hH1.2.step hx1 (⟨by omega,fun z h0 hz=>by rw [hx2] at hz;obtain rfl:=W0c hz;omega⟩)⟩ (show t.looks.length-(k+1)<t.looks.length-k from (by omega)) [(3,aI ((k:Int)+1))] [] ⟨sR,sO,trivial⟩ bb1)
 <| fun p3=>.r 14<|.run 3 [rng .i64 ((k:Int)+1)] ⟨Qal,trivial⟩<|
 .bk L1 k (k+1) ⟨by omega,hH1.2.step hx1 (⟨by omega,fun z h0 hz=>absurd h0 (by omega)⟩)⟩ (show t.looks.length-(k+1)<t.looks.length-k from (by omega)) [(3,aI ((k:Int)+1))] [] ⟨sR,sO,trivial⟩ bb1)
 <| fun p1=>.u 2 [b1]<|
 .call (Qfv t.was okt.was hmw)<|
 .r 1<|.u 2 [b1]<|
 .call (Qfv t.now okt.now hmn)<|
 .r 1<|.r 2<|.bb 44 (dP (Qe3 t.was)) (fun p5=>.r 3<|.bb 47 (dP (Qe3 t.now)) (fun p6=>.u 9 [b1,b1]<|
 .bd 56 (t.now.next≥t.was.next) (fun p7=>.u 5 [b1]<|
 .f (aB (dP (txnP t))) [] (aB (decide (t.stamp≥1))) (by
  have hall:=Qhg.2 (hH1.2.full (by omega));refine sE ?_;unfold txnP;simp only [W0r,W2m,Qaf] at *;constructor
  ·intro h;simp_all
  ·intro h;simp_all))
 <| fun p7=>.r 5<|.f (aB (dP (txnP t))) [] (aB false) (by
  have hall:=Qhg.2 (hH1.2.full (by omega));refine sF (fun h=>?_);obtain ⟨_,h1,h2,h3,h4⟩:=h;simp_all [Qaa]))
 <| fun p6=>.r 14<|.f (aB (dP (txnP t))) [] (aB false) (by
  have hall:=Qhg.2 (hH1.2.full (by omega));refine sF (fun h=>?_);obtain ⟨_,h1,h2,h3,h4⟩:=h;simp_all [Qaa]))
 <| fun p5=>.r 17<|.f (aB (dP (txnP t))) [] (aB false) (by
  have hall:=Qhg.2 (hH1.2.full (by omega));refine sF (fun h=>?_);obtain ⟨_,h1,h2,h3,h4⟩:=h;simp_all [Qaa])) a1 ha1)
end Go.Proofs.YtkhodpknpligpaaGreat
