import Derived.Test.YtahlldgocpabjaaGreatAl
import Derived.Test.YtahlldgocpabjaaGreatMrgAD
import Derived.Test.YtahlldgocpabjaaGreatMrgX
import Derived.Test.YtahlldgocpabjaaGreatMrgY
set_option maxRecDepth 100000
set_option maxHeartbeats 8000000
set_option linter.unusedVariables false
set_option linter.unusedSimpArgs false
namespace Go.Proofs.YtahlldgocpabjaaGreat
open Go Go.RowKit Copyhold Go.Proofs.Tryz
def Qbi (l:List Chn) (i:Int):Option Chn:=l.find? fun c=>c.ino==i
theorem Qvf {l:List Chn} {i:Int} {c:Chn} (h:Qbi l i=some c):c.ino=i:=by simpa using List.find?_some h
theorem Qij {l:List Chn} {i:Int} {c:Chn} (h:Qbi l i=some c):c∈l:=W1o h
theorem Qm7:∀ {l:List Chn} {c:Chn},Qht l→c∈l→Qbi l c.ino=some c
 | x :: r,c,hr,hc=>by
  obtain ⟨h1,h2⟩:=W1l.1 hr;unfold Qbi;rw [W1f];rcases W0y.1 hc with rfl | hc
  ·simp
  ·have:=h1 c hc;have e:(x.ino==c.ino)=false:=by simp;omega
   rw [e];exact Qm7 h2 hc
theorem Zct {l:List Chn} {i:Int} (h:∀ c∈l,¬ c.ino=i):Qbi l i=none:=by
 unfold Qbi;rw [W11];intro c hc;simpa using h c hc
theorem Qo5 {a b:List Chn} {x:Chn} (hr:Qht (a++x :: b)) (i:Int):Qbi (a++x :: b) i=if i=x.ino then some x else Qbi (a++b) i:=by
 by_cases hi:i=x.ino
 ·rw [W1y hi,hi];exact Qm7 hr (by simp)
 ·rw [W1x hi];have e:(x.ino==i)=false:=by simp;exact fun h=>hi h.symm
  unfold Qbi;rw [List.find?_append,List.find?_append,W1f,e]
theorem Qnt {l:List Chn} {st n:Int} {v:Ver} (hr:Qht l):Qht (putC l st n v):=by
 obtain ⟨c1,c2⟩:=Qvx.cut (f:=Chn.ino) hr n;cases ht:Qcj l n with
 | false=>
  rw [Qi4 ht];refine List.pairwise_append.2 ⟨List.Pairwise.sublist (List.take_sublist _ _) hr,W1l.2 ⟨fun d hd=>?_,List.Pairwise.sublist (List.drop_sublist _ _) hr⟩,fun a ha b hb=>?_⟩
  ·have h1:¬ d.ino<n:=c2 d hd;have h2:=Qxv hr ht d (W2e hd);show n<d.ino;omega
  ·have h1:a.ino<n:=c1 a ha;rcases W0y.1 hb with rfl | hb
   ·exact h1
   ·have h2:¬ b.ino<n:=c2 b hb;omega
 | true=>
  obtain ⟨c,hc,hn⟩:=Qit ht;rw [Qgm ht hc];have e:(l.set (Qao l n) ⟨c.ino,Qb9 c.l st++[v]⟩).map Chn.ino=l.map Chn.ino:=by
   rw [List.map_set];have hlt:=Qap hc;have:(l.map Chn.ino)[Qao l n]?=some c.ino:=by rw [W0v,hc];rfl
   apply List.ext_getElem?;intro j;rw [List.getElem?_set]
   split
   ·rename_i hj;subst hj;rw [this,W1y (by rw [W0a];exact hlt)]
   ·rfl
  unfold Qht at hr ⊢;have h1:((l.set (Qao l n) ⟨c.ino,Qb9 c.l st++[v]⟩).map Chn.ino).Pairwise (· < ·):=by rw [e,List.pairwise_map];exact hr
  rw [List.pairwise_map] at h1;exact h1
theorem Qve {l:List Chn} {st n:Int} {v:Ver} (hr:Qht l) (i:Int) :
  Qbi (putC l st n v) i=if i=n then some ⟨n,Qb9 ((Qbi l n).elim [] Chn.l) st++[v]⟩ else Qbi l i:=by
 have hr2:=Qnt (st:=st) (n:=n) (v:=v) hr;cases ht:Qcj l n with
 | false=>
  rw [Qi4 ht] at hr2 ⊢;rw [Qo5 hr2,W1h];have hnone:Qbi l n=none:=Zct (Qxv hr ht);rw [hnone];rfl
 | true=>
  obtain ⟨c,hc,hn⟩:=Qit ht;have hlt:=Qap hc;have hcl:c=l[Qao l n]:=by
   rw [W0d hlt] at hc;exact (W0c hc).symm
  have hl:l=l.take (Qao l n)++c :: l.drop (Qao l n+1):=by
   rw [hcl,← List.drop_eq_getElem_cons hlt,W1h]
  have hs:putC l st n v=l.take (Qao l n)++⟨c.ino,Qb9 c.l st++[v]⟩ :: l.drop (Qao l n+1):=by
   rw [Qgm ht hc,List.set_eq_take_append_cons_drop,W1y hlt]
  rw [hs] at hr2 ⊢;rw [Qo5 hr2];have hat:Qbi l n=some c:=by
   have:=Qm7 hr (W0h hc);rw [hn] at this;exact this
  rw [hat];show (if i=c.ino then _ else _)=_;rw [hn]
  split
  ·rfl
  ·rename_i hi;have h2:=Qo5 (x:=c) (a:=l.take (Qao l n)) (b:=l.drop (Qao l n+1)) (by rw [← hl];exact hr) i;rw [← hl,W1x (by rw [hn];exact hi)] at h2;exact h2.symm
def OneC (cs:List Chg):Prop:=cs.Pairwise fun a b=>¬ a.ino=b.ino
def Qjo (cs:List Chg) (i:Int):Option Chg:=cs.find? fun c=>c.ino==i
theorem Qo3 {cs:List Chg} {i:Int} {c:Chg} (h:Qjo cs i=some c):c.ino=i∧c∈cs:=⟨by simpa using List.find?_some h,W1o h⟩
theorem Qlz {st:Int}:∀ {cs:List Chg} {l:List Chn},Qht l→OneC cs→Qht (Qpj l st cs)∧∀ i,Qbi (Qpj l st cs) i=match Qjo cs i with
  | some c=>some ⟨i,Qb9 ((Qbi l i).elim [] Chn.l) st++[Qal c st]⟩
  | none=>Qbi l i
 | [],l,hr,_=>⟨hr,fun i=>rfl⟩
 | c :: r,l,hr,h1=>by
  obtain ⟨a1,a2⟩:=W1l.1 h1;have hr2:=Qnt (st:=st) (n:=c.ino) (v:=Qal c st) hr;obtain ⟨b1,b2⟩:=Qlz (st:=st) (cs:=r) (l:=putC l st c.ino (Qal c st)) hr2 a2;refine ⟨b1,fun i=>?_⟩;show Qbi (Qpj (putC l st c.ino (Qal c st)) st r) i=_;rw [b2 i];by_cases hi:c.ino=i
  ·have e1:Qjo (c :: r) i=some c:=by unfold Qjo;rw [W1f];simp [hi]
   have e2:Qjo r i=none:=by
    unfold Qjo;rw [W11];intro d hd h;have h5:d.ino=i:=by simpa using h
    have:=a1 d hd;omega
   rw [e1,e2];show Qbi (putC l st c.ino (Qal c st)) i=_;rw [Qve hr,W1y hi.symm,hi]
  ·have e1:Qjo (c :: r) i=Qjo r i:=by
    unfold Qjo;rw [W1f,show (c.ino==i)=false from by simpa using hi]
   have e2:Qbi (putC l st c.ino (Qal c st)) i=Qbi l i:=by rw [Qve hr,W1x (fun e=>hi e.symm)]
   rw [e1,e2]
theorem Zan {st nx i:Int}:∀ {l:List Chn},Qht l→(∀ c∈l,∀ n,Qbz st c=some n→n.ino=c.ino)→atF ⟨l.filterMap (Qbz st),nx⟩ i=(Qbi l i).bind (Qbz st)
 | [],_,_=>rfl
 | x :: r,hr,hv=>by
  obtain ⟨h1,h2⟩:=W1l.1 hr;have ih:=Zan (st:=st) (nx:=nx) (i:=i) (l:=r) h2 (fun c hc=>hv c (by simp [hc]));unfold atF at ih ⊢;unfold Qbi at ih ⊢;rw [W1f];rw [List.filterMap_cons];cases hx:(x.ino==i) with
  | true=>
   have hxi:x.ino=i:=by simpa using hx
   cases hc:Qbz st x with
   | none=>
    show List.find? (isNo i) (r.filterMap (Qbz st))=(some x).bind (Qbz st);show List.find? (isNo i) (r.filterMap (Qbz st))=Qbz st x;rw [hc,W11];intro n hn;obtain ⟨d,hd,he⟩:=W2j.1 hn;have:=hv d (by simp [hd]) n he;have:=h1 d hd;simp [isNo];omega
   | some n=>
    have:=hv x (by simp) n hc;show List.find? (isNo i) (n :: r.filterMap (Qbz st))=Qbz st x;rw [hc,W1f];have e:isNo i n=true:=by simp [isNo];omega
    rw [e]
  | false=>
   have hxi:¬ x.ino=i:=by simpa using hx
   cases hc:Qbz st x with
   | none=>exact ih
   | some n=>
    have:=hv x (by simp) n hc;show List.find? (isNo i) (n :: r.filterMap (Qbz st))=_;rw [W1f];have e:isNo i n=false:=by simp [isNo];omega
    rw [e];exact ih
theorem Qsv {s:Sto} (hp:Qb7 s) (st i:Int):atF (Qa3 s st) i=(Qbi s.l i).bind (Qbz st):=Zan (Qnr hp) (fun c hc n h=>Qnb hp hc h)
theorem Qj6 {s:Sto} (hp:Qb7 s) (st:Int):Qb1 (Qa3 s st).l:=by
 have hv:=fun c hc n h=>Qnb (st:=st) hp (c:=c) hc (n:=n) h;have hr:=Qnr hp;show Qvx Nod.ino (s.l.filterMap (Qbz st));have hr':s.l.Pairwise (fun c d:Chn=>(c∈s.l∧d∈s.l)∧c.ino<d.ino):=List.Pairwise.imp_of_mem (fun ha hb h=>⟨⟨ha,hb⟩,h⟩) (show s.l.Pairwise (fun c d:Chn=>c.ino<d.ino) from hr);refine List.Pairwise.filterMap _ (fun a b hab x hx y hy=>?_) hr';have:=hv a hab.1.1 x hx;have:=hv b hab.1.2 y hy;have:=hab.2;omega
theorem Qss {s:Sto} (hp:Qb7 s) {c:Chn} (hc:c∈s.l):Qqs s.stamp c:=by
 obtain ⟨k,hk⟩:=W0w hc;exact (hp.2.2.2.at hk).1
theorem Qyw {α:Type} {f:α→Int} {m most:Int} {b:List α} {x:α} (hb:b=[]∨Qpf f m b) (h1:m<f x) (h2:f x≤most) (h3:1≤f x):Qpf f most (b++[x]):=by
 refine ⟨by simp,fun i y hy=>?_⟩;by_cases hi:i<b.length
 ·rw [W0o hi] at hy;rcases hb with rfl | hb
  ·simp at hi
  ·have g:=hb.2.at hy;exact ⟨g.1,by have:=g.2.1;omega,fun d h0 hd=>g.2.2 d h0 (by rwa [W0o (by omega)] at hd)⟩
 ·have he:i=b.length:=by have:=Qap hy;simp at this;omega
  subst he;rw [W0n (W0m _),Nat.sub_self] at hy;obtain rfl:=W0c hy;refine ⟨h3,h2,fun d h0 hd=>?_⟩;rw [W0o (by omega)] at hd;rcases hb with rfl | hb
  ·simp at h0
  ·have:=(hb.2.at hd).2.1;omega
theorem Qtz {α:Type} {f:α→Int} {m most:Int} {b:List α} (hb:Qpf f m b) (h:m≤most):Qpf f most b:=⟨hb.1,fun i x hx=>by
 have g:=hb.2.at hx;exact ⟨g.1,by have:=g.2.1;omega,g.2.2⟩⟩
theorem Zit {s:Sto} (h1:1≤s.stamp) (h2:Qpf Cnt.stamp s.stamp s.nexts) (h3:AllQ (fun _ (c:Cnt)=>1≤c.next) s.nexts) (h4:Qht s.l) (h5:∀ c∈s.l,Qqs s.stamp c):Qb7 s:=
 ⟨h1,h2,h3,fun i c hc=>⟨h5 c (W0h hc),fun d h0 hd=>by
  have l1:=Qap hc;have l2:=Qap hd;have:=W1d.1 h4 (i-1) i l2 l1 (by omega);rw [W0d l1] at hc;rw [W0d l2] at hd;obtain rfl:=W0c hc;obtain rfl:=W0c hd;exact this⟩⟩
def mayC (cs:List Chg):Prop:=∀ c∈cs,1≤c.ino∧(c.gone=false→nodP (nodG c))
theorem Zav {c:Chg} {st:Int} (h:c.gone=false→nodP (nodG c)):verP c.ino (Qal c st):=by
 unfold Qal;cases hg:c.gone with
 | true=>exact ⟨fun _=>rfl,fun h=>(by cases h)⟩
 | false=>exact ⟨fun h=>(by cases h),fun _=>⟨h hg,rfl⟩⟩
theorem Qt9 {s:Sto} (hp:Qb7 s) (i:Int):((Qbi s.l i).elim [] Chn.l=[]∨(Qpf Ver.stamp s.stamp ((Qbi s.l i).elim [] Chn.l)∧AllQ (fun _ v=>verP i v) ((Qbi s.l i).elim [] Chn.l)))∧Qb9 ((Qbi s.l i).elim [] Chn.l) (s.stamp+1)=(Qbi s.l i).elim [] Chn.l:=by
 cases hc:Qbi s.l i with
 | none=>exact ⟨.inl rfl,rfl⟩
 | some c=>
  have h:=Qss hp (Qij hc);have hi:=Qvf hc;refine ⟨.inr ⟨h.2.1,hi ▸ h.2.2⟩,Zh2 fun v hv=>?_⟩;have:=Qtk hp c (Qij hc) v hv;omega
theorem Qxm {s:Sto} {cs:List Chg} {next:Int} (hp:Qb7 s) (h1:OneC cs) (i:Int):Qbi (Qcy s cs next).l i=match Qjo cs i with
  | some c=>some ⟨i,(Qbi s.l i).elim [] Chn.l++[Qal c (s.stamp+1)]⟩
  | none=>Qbi s.l i:=by
 have h:=(Qlz (st:=s.stamp+1) (Qnr hp) h1).2 i;rw [(Qt9 hp i).2] at h;show Qbi (Qas s.l (s.stamp+1) cs cs.length) i=_;rw [Qr1];exact h
theorem Qls {s:Sto} (hp:Qb7 s):∃ c,s.nexts[s.nexts.length-1]?=some c∧Qf8 s s.stamp=c.next:=by
 have hl:=hp.2.1.1;obtain ⟨c,hc⟩:=Qdt (l:=s.nexts) (k:=s.nexts.length-1) (by omega);refine ⟨c,hc,?_⟩;rw [Qrr (Qza hp),hc]
theorem Qgw {s:Sto} {cs:List Chg} {next:Int} (hp:Qb7 s) (h1:OneC cs) (hm:mayC cs) (hn:1≤next):Qb7 (Qcy s cs next):=by
 have hst:(Qcy s cs next).stamp=s.stamp+1:=rfl;have hs1:=hp.1;have hr:Qht (Qcy s cs next).l:=by
  show Qht (Qas s.l (s.stamp+1) cs cs.length);rw [Qr1];exact (Qlz (Qnr hp) h1).1
 obtain ⟨c0,hc0,_⟩:=Qls hp;refine Zit (by rw [hst];omega) ?_ ?_ hr ?_
 ·show Qpf Cnt.stamp (s.stamp+1) (Qc5 s next);unfold Qc5;rw [hc0];show Qpf Cnt.stamp (s.stamp+1) (if next>c0.next then _ else _)
  split
  ·exact Qyw (m:=s.stamp) (.inr hp.2.1) (by show s.stamp<s.stamp+1;omega) (W1s _) (by show 1≤s.stamp+1;omega)
  ·exact Qtz hp.2.1 (by omega)
 ·show AllQ (fun _ (c:Cnt)=>1≤c.next) (Qc5 s next);intro i c hc;have hmem:=W0h hc;unfold Qc5 at hmem;rw [hc0] at hmem;have hmem:c∈(if next>c0.next then s.nexts++[⟨s.stamp+1,next⟩] else s.nexts):=hmem
  split at hmem
  ·rcases W05.1 hmem with h | h
   ·exact Quc hp c h
   ·obtain rfl:=W0z.1 h;exact hn
  ·exact Quc hp c hmem
 ·intro c hc;have hat:=Qm7 hr hc;rw [Qxm hp h1] at hat
  split at hat
  ·rename_i g hg;obtain ⟨g1,g2⟩:=Qo3 hg;have he:=W0c hat;obtain ⟨o1,_⟩:=Qt9 hp c.ino;have hver:=Zav (st:=s.stamp+1) (hm g g2).2;rw [g1] at hver;have hcl:c.l=(Qbi s.l c.ino).elim [] Chn.l++[Qal g (s.stamp+1)]:=by rw [← he]
   refine ⟨by have:=(hm g g2).1;omega,?_,?_⟩
   ·rw [hcl,hst];exact Qyw (m:=s.stamp) (o1.imp id fun h=>h.1) (by rw [Qca];omega) (by rw [Qca];omega) (by rw [Qca];omega)
   ·rw [hcl];intro j v hv;rcases W05.1 (W0h hv) with h | h
    ·rcases o1 with h0 | ⟨_,h0⟩
     ·rw [h0] at h;cases h
     ·obtain ⟨k,hk⟩:=W0w h;exact h0.at hk
    ·obtain rfl:=W0z.1 h;exact hver
  ·have h:=Qss hp (Qij hat);exact ⟨h.1,Qtz h.2.1 (by rw [hst];omega),h.2.2⟩
def nodC (c:Chg):Option Nod:=if c.gone=true then none else some (nodG c)
theorem Zik {n st b:Int} {r:List Ver} {v:Ver} (h:∀ u∈r++[v],u.stamp≤b):Qbz b ⟨n,r++[v]⟩=if v.gone=true then none else some v.n:=by
 rw [Qe8 (v:=v)]
 ·rw [show cutV Ver.stamp b (r++[v])=(r++[v]).length from Qso h (W1s b)];simp
 ·show (r++[v])[cutV Ver.stamp b (r++[v])-1]?=some v;rw [show cutV Ver.stamp b (r++[v])=(r++[v]).length from Qso h (W1s b)];simp
theorem Qtd (c:Chg) (st:Int):(if (Qal c st).gone=true then none else some (Qal c st).n)=nodC c:=by
 unfold Qal nodC nodG;cases c.gone<;>rfl
theorem old_le {s:Sto} (hp:Qb7 s) (i:Int):∀ v∈(Qbi s.l i).elim [] Chn.l,v.stamp≤s.stamp:=by
 cases hc:Qbi s.l i with
 | none=>intro v hv;cases hv
 | some c=>exact fun v hv=>Qtk hp c (Qij hc) v hv
theorem Qtc {s:Sto} {cs:List Chg} {next:Int} (hp:Qb7 s) (h1:OneC cs) (hm:mayC cs) (hn:1≤next) (i:Int):atF (Qa3 (Qcy s cs next) (s.stamp+1)) i=match Qjo cs i with
  | some c=>nodC c
  | none=>atF (Qa3 s s.stamp) i:=by
 rw [Qsv (Qgw hp h1 hm hn),Qxm hp h1,Qsv hp];have hle:=old_le hp i;cases hc:Qjo cs i with
 | some c=>
  show Qbz (s.stamp+1) ⟨i,_⟩=nodC c;rw [Zik (st:=0) (fun u hu=>by
   rcases W05.1 hu with h | h
   ·have:=hle u h;omega
   ·obtain rfl:=W0z.1 h;rw [Qca];omega),Qtd]
 | none=>
  show (Qbi s.l i).bind (Qbz (s.stamp+1))=(Qbi s.l i).bind (Qbz s.stamp);cases hd:Qbi s.l i with
  | none=>rfl
  | some c=>exact (Qna (by omega) (Zcb hp (Qij hd))).symm
theorem Qud {s:Sto} {cs:List Chg} {next:Int} (hp:Qb7 s):Qf8 (Qcy s cs next) (s.stamp+1)=maxD (Qf8 s s.stamp) next:=by
 obtain ⟨c0,hc0,he⟩:=Qls hp;have hle:=Qza hp;rw [he];unfold maxD;have hn:(Qcy s cs next).nexts=if next>c0.next then s.nexts++[⟨s.stamp+1,next⟩] else s.nexts:=by
  show Qc5 s next=_
  unfold Qc5;rw [hc0]
 have hb:∀ c∈(Qcy s cs next).nexts,c.stamp≤s.stamp+1:=by
  rw [hn];intro c hc
  split at hc
  ·rcases W05.1 hc with h | h
   ·have:=hle c h;omega
   ·obtain rfl:=W0z.1 h;exact W1s _
  ·have:=hle c hc;omega
 rw [Qrr hb,hn];by_cases h:next>c0.next
 ·rw [W1y h,W1y h];simp
 ·rw [W1x h,W1x h,hc0]
theorem Zda {s:Sto} {cs:List Chg} {next st:Int} (hp:Qb7 s) (h1:OneC cs) (hm:mayC cs) (hn:1≤next) (hs:st≤s.stamp):Qa3 (Qcy s cs next) st=Qa3 s st:=by
 have hp2:=Qgw hp h1 hm hn;refine Ql0 (Qj6 hp2 st) (Qj6 hp st) (fun i=>?_) ?_
 ·rw [Qsv hp2,Qxm hp h1,Qsv hp];cases hc:Qjo cs i with
  | none=>rfl
  | some c=>
   show Qbz st ⟨i,_++[_]⟩=(Qbi s.l i).bind (Qbz st);rw [Qv5 (by rw [Qca];omega)];cases hd:Qbi s.l i with
   | none=>rfl
   | some d=>
    have:=Qvf hd;subst this;rfl
 ·show Qf8 (Qcy s cs next) st=Qf8 s st;obtain ⟨c0,hc0,he⟩:=Qls hp;have hn:(Qcy s cs next).nexts=if next>c0.next then s.nexts++[⟨s.stamp+1,next⟩] else s.nexts:=by
   show Qc5 s next=_
   unfold Qc5;rw [hc0]
  unfold Qf8;rw [hn];by_cases hx:next>c0.next
  ·rw [W1y hx];have e:atD Cnt.stamp st (s.nexts++[(⟨s.stamp+1,next⟩:Cnt)])=atD Cnt.stamp st s.nexts:=by
    have ec:∀ r:List Cnt,cutV Cnt.stamp st (r++[(⟨s.stamp+1,next⟩:Cnt)])=cutV Cnt.stamp st r:=by
     intro r
     induction r with
     | nil=>show (if cutV Cnt.stamp st []=0 then (if s.stamp+1≤st then 1 else 0) else _)=0;simp only [cutV,if_true];rw [W1x (by omega)]
     | cons x r ih=>simp only [List.cons_append,cutV,ih]
    unfold atD;rw [ec];by_cases h0:cutV Cnt.stamp st s.nexts=0
    ·rw [W1y h0,W1y h0]
    ·have:=Qg0 Cnt.stamp st s.nexts;rw [W1x h0,W1x h0,W0o (by omega)]
   rw [e]
  ·rw [W1x hx]
theorem Qfo (f g:Fsy):OneC (Qbl f g):=by
 refine List.Pairwise.filterMap _ (fun i j hij a ha b hb=>?_) (Qvt f g);have:=(Qg2 ha).1;have:=(Qg2 hb).1;omega
theorem Qfp {f g:Fsy} (hf:Qan f) (hg:Qan g):mayC (Qbl f g):=fun c hc=>by
 obtain ⟨i,hi,h⟩:=W2j.1 hc;obtain ⟨e,h1⟩:=Qg2 h;have hi1:1≤i:=by
  rcases Qim.1 hi with h | h
  ·obtain ⟨n,hn⟩:=Qqe.1 h;have:=Qbh hf hn;have:=this.1.1;omega
  ·obtain ⟨n,hn⟩:=Qqe.1 h;have:=Qbh hg hn;have:=this.1.1;omega
 refine ⟨by omega,fun hgo=>?_⟩;rcases h1 with h1 | h1
 ·rw [h1.1] at hgo;cases hgo
 ·obtain ⟨n1,n2,n3⟩:=Qbh hg h1.2;have:nodG c=c.n:=by unfold nodG;rw [e,← n3]
  rw [this];exact n1
theorem Qhn {f g:Fsy} (hg:Qan g) (i:Int):(Qjo (Qbl f g) i=none∧atF f i=atF g i)∨(∃ c,Qjo (Qbl f g) i=some c∧nodC c=atF g i∧¬ atF f i=atF g i):=by
 cases hc:Qjo (Qbl f g) i with
 | none=>
  left;refine ⟨rfl,Classical.byContradiction fun hne=>?_⟩;by_cases hi:i∈Qbe f g
  ·cases hd:chgD f g i with
   | none=>
    obtain ⟨n,h1,h2⟩:=Zai.1 hd;exact hne (h2.trans h1.symm)
   | some c=>
    have hm:c∈Qbl f g:=W2j.2 ⟨i,hi,hd⟩;have:=W11.1 hc c hm;simp [(Qg2 hd).1] at this
  ·obtain ⟨h1,h2⟩:=no_mem hi;exact hne (h1.trans h2.symm)
 | some c=>
  right;obtain ⟨c1,c2⟩:=Qo3 hc;have hne:=Zcr c2;rw [c1] at hne;obtain ⟨j,hj,hd⟩:=W2j.1 c2;obtain ⟨e,h1⟩:=Qg2 hd;rw [c1] at e;subst e;refine ⟨c,rfl,?_,hne⟩;rcases h1 with h1 | h1
  ·unfold nodC;rw [W1y h1.1,h1.2]
  ·obtain ⟨n1,n2,n3⟩:=Qbh hg h1.2;unfold nodC;rw [W1x (by rw [h1.1];decide),h1.2];congr 1;unfold nodG;rw [c1,← n3]
def chnT (p:Chn × Bool):List AV:=[aI p.1.ino,.sl 7 p.2 (p.1.l.map verA)]
def Qbo (st:Int) (r:List Ver):List Ver:=r.filter fun u=>!(u.stamp==st)
theorem Qgp {st:Int} {r:List Ver} {j:Nat} {x:Ver} (h:r[j]?=some x) (q:¬ x.stamp=st):Qbo st (r.take (j+1))=Qbo st (r.take j)++[x]:=by
 unfold Qbo;rw [Qam h,W1k];simp [q]
theorem Qi5 {st:Int} {r:List Ver} {j:Nat} {x:Ver} (h:r[j]?=some x) (q:x.stamp=st):Qbo st (r.take (j+1))=Qbo st (r.take j):=by
 unfold Qbo;rw [Qam h,W1k];simp [q]
theorem Qn0 (st:Int) (r:List Ver) (j:Nat):(Qbo st (r.take j)).length≤j:=by
 have:=W2h (fun u:Ver=>!(u.stamp==st)) (r.take j);unfold Qbo;rw [W0g] at this;omega
def Qpl (n:Int) (v:Ver) (p:List (Chn × Bool) × Bool) (c:Chn):List (Chn × Bool) × Bool:=
 if p.2=false∧c.ino>n then (p.1++[(⟨n,[v]⟩,true)],true) else p
def Qx1 (n:Int) (v:Ver) (p:List (Chn × Bool) × Bool) (c:Chn):List (Chn × Bool) × Bool:=
 if c.ino=n then ((Qpl n v p c).1++[(⟨n,Qbo v.stamp c.l++[v]⟩,false)],true) else ((Qpl n v p c).1++[(c,false)],(Qpl n v p c).2)
def cwK (n:Int) (v:Ver) (l:List Chn) (k:Nat):List (Chn × Bool) × Bool:=(l.take k).foldl (Qx1 n v) ([],false)
theorem Qch {n:Int} {v:Ver} {l:List Chn} {k:Nat} {c:Chn} (h:l[k]?=some c):cwK n v l (k+1)=Qx1 n v (cwK n v l k) c:=by
 unfold cwK;rw [Qam h,W1p];rfl
theorem Qfn {n:Int} {v:Ver} {p:List (Chn × Bool) × Bool} {c:Chn} (h:p.2=false) (g:c.ino>n):Qpl n v p c=(p.1++[(⟨n,[v]⟩,true)],true):=W1y ⟨h,g⟩
theorem Qc1 {n:Int} {v:Ver} {p:List (Chn × Bool) × Bool} {c:Chn} (h:p.2=true∨¬ c.ino>n):Qpl n v p c=p:=W1x (fun e=>by
 rcases h with h | h
 ·rw [e.1] at h;cases h
 ·exact h e.2)
theorem Qew {n:Int} {v:Ver} {p:List (Chn × Bool) × Bool} {c:Chn} (h:c.ino=n):Qx1 n v p c=((Qpl n v p c).1++[(⟨n,Qbo v.stamp c.l++[v]⟩,false)],true):=W1y h
theorem Qds {n:Int} {v:Ver} {p:List (Chn × Bool) × Bool} {c:Chn} (h:¬ c.ino=n):Qx1 n v p c=((Qpl n v p c).1++[(c,false)],(Qpl n v p c).2):=W1x h
theorem Zhl (n:Int) (v:Ver) (l:List Chn):∀ k,(cwK n v l k).1.length≤2*k
 | 0=>by simp [cwK]
 | k+1=>by
  have ih:=Zhl n v l k;by_cases hk:k<l.length
  ·rw [Qch (W0d hk)];have h1:(Qpl n v (cwK n v l k) l[k]).1.length≤(cwK n v l k).1.length+1:=by
    unfold Qpl
    split
    ·simp
    ·omega
   unfold Qx1
   split
   ·simp;omega
   ·simp;omega
  ·have e:cwK n v l (k+1)=cwK n v l k:=by unfold cwK;rw [Qat (by omega),Qat (by omega)]
   rw [e];omega
def Qs8 (n:Int) (v:Ver) (l:List Chn):List (Chn × Bool):=if (cwK n v l l.length).2=false then (cwK n v l l.length).1++[(⟨n,[v]⟩,true)] else (cwK n v l l.length).1
theorem Za9 (l:List Chn) (n:Int) (v:Ver) (hl:l.length≤10000) (hv:∀ c∈l,c.l.length≤10000):Qai prog 109 [.sl 2 false (l.map chnA),aI n,.agg (verA v)] (.sl 2 false ((Qs8 n v l).map chnT)):=by
 exact Qae func109 (
 .new fun b1=>.r 1<|.r 1<|.rowNil 7 7 98 2<|.r 1<|.r 1<|let L1:Lp (Nat × Value):=⟨fun a1=>⟨[(0,.sl 2 false (l.map chnA)),(1,aI n),(5,.ptr 5 b1 0),(9,aI (a1.1:Int)),(7,.rw 7 a1.2 ((cwK n v l a1.1).1.length)),(8,aB ((cwK n v l a1.1).2))],[(5,.box b1 100 (verA v)),(7,.row a1.2 98 2 ((cwK n v l a1.1).1.map chnT))]⟩,fun a1=>l.length-a1.1,fun a1=>a1.1≤l.length⟩
 .lp L1 (0,.slice none 0 0) (show 0≤l.length from W0j _) [(9,aI 0),(7,.rw 7 (.slice none 0 0) 0),(8,aB false)] [(7,.row (.slice none 0 0) 98 2 ([]))] ⟨sR,sR,sR,sO,W2p rfl,W2p rfl,trivial⟩ ⟨sB,⟨_,rfl,W2q rfl⟩,trivial⟩ fun a1 ha1=>
 (fun (k:Nat) (V:Value) (hH1:k≤l.length)=>have hwl:=Zhl n v l k;.r 3<|.lm 15 l chnA<|.r 1<|.bd 16 ((k:Int)<(l.length:Int)) (fun p1=>.r 2<|.idxM l chnA k (m:=(k:Int)) rfl (by omega) fun x1 hx1=>
 have hvx1:=hv x1 (W0h hx1);.r 1<|.new fun b2=>.u 1 [b2]<|
 .r 3<|.br 25 (!((cwK n v l k).2)) (fun q2=>have q2:=notT q2;have p2:=booF q2;.u 5 [b2]<|
 .bd 30 (x1.ino>n) (fun p3=>.u 6 [b1]<|
 .app 32 V ((cwK n v l k).1.map chnT) ([[aI n,.sl 7 true ([(verA v)])]]) (by simp only [W0a,W0b,W0f,W0e];omega) (by simp only [W0a,W0b,W0f,W0e];omega) fun V1=>
 .r 1<|.r 1<|.u 4 [b2]<|
 .be 41 x1.ino n (fun p4=>.r 1<|.rowNil 11 11 100 7<|.r 1<|let L2:Lp (Nat × Value):=⟨fun a2=>⟨[(0,.sl 2 false (l.map chnA)),(1,aI n),(5,.ptr 5 b1 0),(9,aI (k:Int)),(7,.rw 7 V1 (((cwK n v l k).1.map chnT).length+([[aI n,.sl 7 true ([(verA v)])]]:List (List AV)).length)),(10,.ptr 10 b2 0),(12,aI (a2.1:Int)),(11,.rw 11 a2.2 ((Qbo v.stamp (x1.l.take a2.1)).length))],[(5,.box b1 100 (verA v)),(7,.row V1 98 2 (((cwK n v l k).1.map chnT)++([[aI n,.sl 7 true ([(verA v)])]]))),(10,.box b2 98 [aI x1.ino,.sl 7 false (x1.l.map verA)]),(11,.row a2.2 100 7 ((Qbo v.stamp (x1.l.take a2.1)).map verA))]⟩,fun a2=>x1.l.length-a2.1,fun a2=>a2.1≤x1.l.length⟩
 .lp L2 (0,.slice none 0 0) (show 0≤x1.l.length from W0j _) [(12,aI 0),(11,.rw 11 (.slice none 0 0) 0)] [(11,.row (.slice none 0 0) 100 7 ([]))] ⟨sR,sR,sR,sR,sR,sR,sO,W2p rfl,trivial⟩ ⟨sB,sB,sB,⟨_,rfl,W2q rfl⟩,trivial⟩ fun a2 ha2=>
 (fun (j:Nat) (U:Value) (hH2:j≤x1.l.length)=>have hol:=Qn0 v.stamp x1.l j;.u 4 [b2]<|
 .lm 45 x1.l verA<|.r 1<|.bd 46 ((j:Int)<(x1.l.length:Int)) (fun p5=>.ord [0,1,2,3,4,5,6,7,8]<|.u 3 [b2]<|
 .idxM x1.l verA j (m:=(j:Int)) rfl (by omega) fun x2 hx2=>
 .u 5 [b1]<|
 .bn 57 x2.stamp v.stamp (fun p6=>.u 4 [b2]<|
 .idx j (m:=(j:Int)) (xs:=x1.l.map verA) (e:=verA x2) rfl (map_some hx2)<|
 .r 2<|.app 80 U ((Qbo v.stamp (x1.l.take j)).map verA) ([(verA x2)]) (by simp only [W0a,W0b,W0f,W0e];omega) (by simp only [W0a,W0b,W0f,W0e];omega) fun V2=>
 .r 1<|.run 3 [rng .i64 ((j:Int)+1)] ⟨Qah,trivial⟩<|
 .bk L2 (j,U) ((j+1),V2) (show (j+1)≤x1.l.length from (by show _≤_;omega)) (show x1.l.length-(j+1)<x1.l.length-j from (by omega)) [(12,aI ((j:Int)+1)),(11,.rw 11 V2 (((Qbo v.stamp (x1.l.take j)).map verA).length+([(verA x2)]:List (List AV)).length))] [(11,.row V2 100 7 (((Qbo v.stamp (x1.l.take j)).map verA)++([(verA x2)])))] ⟨sR,sR,sR,sR,sR,sR,sO,W2p (W1z (AV.rw 11 V2) (by rw [Qgp hx2 p6];simp)),trivial⟩ ⟨sB,sB,sB,⟨_,rfl,W2q (W1z (Bx.row V2 100 7) (by rw [Qgp hx2 p6];simp [verA]))⟩,trivial⟩)
 <| fun p6=>.run 3 [rng .i64 ((j:Int)+1)] ⟨Qah,trivial⟩<|
 .bk L2 (j,U) ((j+1),U) (show (j+1)≤x1.l.length from (by show _≤_;omega)) (show x1.l.length-(j+1)<x1.l.length-j from (by omega)) [(12,aI ((j:Int)+1)),(11,.rw 11 U ((Qbo v.stamp (x1.l.take j)).length))] [(11,.row U 100 7 ((Qbo v.stamp (x1.l.take j)).map verA))] ⟨sR,sR,sR,sR,sR,sR,sO,W2p (W1z (AV.rw 11 U) (by rw [Qi5 hx2 p6])),trivial⟩ ⟨sB,sB,sB,⟨_,rfl,W2q (W1z (Bx.row U 100 7) (by rw [Qi5 hx2 p6]))⟩,trivial⟩)
 <| fun p5=>.u 4 [b1]<|
 .op (apF prog 100 7 80 11) (U,U,(Qbo v.stamp (x1.l.take j)).map verA,[(verA v)],70) (fun (_:Unit) σ=>(σ.put (some 70) (.sl 7 false (((Qbo v.stamp (x1.l.take j)).map verA)++([(verA v)])))).setB 11 (.row (.slice none 0 0) 100 7 [])) (Qq7 (by simp only [W0a,W0b,W0f,W0e];omega) (by simp only [W0a,W0b,W0f,W0e];omega)) fun _=>
 .u 2 [b2]<|
 .r 1<|.u 3 [b2]<|
 .app 32 V1 (((cwK n v l k).1.map chnT)++([[aI n,.sl 7 true ([(verA v)])]])) ([[aI n,.sl 7 false (((Qbo v.stamp (x1.l.take j)).map verA)++([(verA v)]))]]) (by simp only [W0a,W0b,W0f,W0e];omega) (by simp only [W0a,W0b,W0f,W0e];omega) fun V3=>
 .r 1<|.run 3 [rng .i64 ((k:Int)+1)] ⟨Qah,trivial⟩<|
 .bk L1 (k,V) ((k+1),V3) (show (k+1)≤l.length from (by show _≤_;omega)) (show l.length-(k+1)<l.length-k from (by omega)) [(9,aI ((k:Int)+1)),(7,.rw 7 V3 ((((cwK n v l k).1.map chnT)++([[aI n,.sl 7 true ([(verA v)])]])).length+([[aI n,.sl 7 false (((Qbo v.stamp (x1.l.take j)).map verA)++([(verA v)]))]]:List (List AV)).length)),(8,aB true)] [(7,.row V3 98 2 ((((cwK n v l k).1.map chnT)++([[aI n,.sl 7 true ([(verA v)])]]))++([[aI n,.sl 7 false (((Qbo v.stamp (x1.l.take j)).map verA)++([(verA v)]))]])))] ⟨sR,sR,sR,sO,W2p (W1z (AV.rw 7 V3) (by rw [Qch hx1,Qew p4,Qfn q2 p3];simp)),W2p (W1z aB (by rw [Qch hx1,Qew p4,Qfn q2 p3])),trivial⟩ ⟨sB,⟨_,rfl,W2q (W1z (Bx.row V3 98 2) (by rw [show x1.l.take j=x1.l from Qat (by omega)];rw [Qch hx1,Qew p4,Qfn q2 p3];simp [chnT,verA]))⟩,trivial⟩) a2.1 a2.2 ha2)
 <| fun p4=>.u 3 [b2]<|
 .app 32 V1 (((cwK n v l k).1.map chnT)++([[aI n,.sl 7 true ([(verA v)])]])) ([[aI x1.ino,.sl 7 false (x1.l.map verA)]]) (by simp only [W0a,W0b,W0f,W0e];omega) (by simp only [W0a,W0b,W0f,W0e];omega) fun V4=>
 .r 1<|.run 3 [rng .i64 ((k:Int)+1)] ⟨Qah,trivial⟩<|
 .bk L1 (k,V) ((k+1),V4) (show (k+1)≤l.length from (by show _≤_;omega)) (show l.length-(k+1)<l.length-k from (by omega)) [(9,aI ((k:Int)+1)),(7,.rw 7 V4 ((((cwK n v l k).1.map chnT)++([[aI n,.sl 7 true ([(verA v)])]])).length+([[aI x1.ino,.sl 7 false (x1.l.map verA)]]:List (List AV)).length)),(8,aB true)] [(7,.row V4 98 2 ((((cwK n v l k).1.map chnT)++([[aI n,.sl 7 true ([(verA v)])]]))++([[aI x1.ino,.sl 7 false (x1.l.map verA)]])))] ⟨sR,sR,sR,sO,W2p (W1z (AV.rw 7 V4) (by rw [Qch hx1,Qds p4,Qfn q2 p3];simp)),W2p (W1z aB (by rw [Qch hx1,Qds p4,Qfn q2 p3])),trivial⟩ ⟨sB,⟨_,rfl,W2q (W1z (Bx.row V4 98 2) (by rw [Qch hx1,Qds p4,Qfn q2 p3];simp [chnT,verA]))⟩,trivial⟩)
 <| fun p3=>.u 4 [b2]<|
 .be 41 x1.ino n (fun p7=>.r 1<|.rowNil 11 11 100 7<|.r 1<|let L2:Lp (Nat × Value):=⟨fun a2=>⟨[(0,.sl 2 false (l.map chnA)),(1,aI n),(5,.ptr 5 b1 0),(9,aI (k:Int)),(7,.rw 7 V ((cwK n v l k).1.length)),(10,.ptr 10 b2 0),(12,aI (a2.1:Int)),(11,.rw 11 a2.2 ((Qbo v.stamp (x1.l.take a2.1)).length))],[(5,.box b1 100 (verA v)),(7,.row V 98 2 ((cwK n v l k).1.map chnT)),(10,.box b2 98 [aI x1.ino,.sl 7 false (x1.l.map verA)]),(11,.row a2.2 100 7 ((Qbo v.stamp (x1.l.take a2.1)).map verA))]⟩,fun a2=>x1.l.length-a2.1,fun a2=>a2.1≤x1.l.length⟩
 .lp L2 (0,.slice none 0 0) (show 0≤x1.l.length from W0j _) [(12,aI 0),(11,.rw 11 (.slice none 0 0) 0)] [(11,.row (.slice none 0 0) 100 7 ([]))] ⟨sR,sR,sR,sR,sR,sR,sO,W2p rfl,trivial⟩ ⟨sB,sB,sB,⟨_,rfl,W2q rfl⟩,trivial⟩ fun a2 ha2=>
 (fun (j:Nat) (U:Value) (hH2:j≤x1.l.length)=>have hol:=Qn0 v.stamp x1.l j;.u 4 [b2]<|
 .lm 45 x1.l verA<|.r 1<|.bd 46 ((j:Int)<(x1.l.length:Int)) (fun p8=>.ord [0,1,2,3,4,5,6,7,8]<|.u 3 [b2]<|
 .idxM x1.l verA j (m:=(j:Int)) rfl (by omega) fun x3 hx3=>
 .u 5 [b1]<|
 .bn 57 x3.stamp v.stamp (fun p9=>.u 4 [b2]<|
 .idx j (m:=(j:Int)) (xs:=x1.l.map verA) (e:=verA x3) rfl (map_some hx3)<|
 .r 2<|.app 80 U ((Qbo v.stamp (x1.l.take j)).map verA) ([(verA x3)]) (by simp only [W0a,W0b,W0f,W0e];omega) (by simp only [W0a,W0b,W0f,W0e];omega) fun V5=>
 .r 1<|.run 3 [rng .i64 ((j:Int)+1)] ⟨Qah,trivial⟩<|
 .bk L2 (j,U) ((j+1),V5) (show (j+1)≤x1.l.length from (by show _≤_;omega)) (show x1.l.length-(j+1)<x1.l.length-j from (by omega)) [(12,aI ((j:Int)+1)),(11,.rw 11 V5 (((Qbo v.stamp (x1.l.take j)).map verA).length+([(verA x3)]:List (List AV)).length))] [(11,.row V5 100 7 (((Qbo v.stamp (x1.l.take j)).map verA)++([(verA x3)])))] ⟨sR,sR,sR,sR,sR,sR,sO,W2p (W1z (AV.rw 11 V5) (by rw [Qgp hx3 p9];simp)),trivial⟩ ⟨sB,sB,sB,⟨_,rfl,W2q (W1z (Bx.row V5 100 7) (by rw [Qgp hx3 p9];simp [verA]))⟩,trivial⟩)
 <| fun p9=>.run 3 [rng .i64 ((j:Int)+1)] ⟨Qah,trivial⟩<|
 .bk L2 (j,U) ((j+1),U) (show (j+1)≤x1.l.length from (by show _≤_;omega)) (show x1.l.length-(j+1)<x1.l.length-j from (by omega)) [(12,aI ((j:Int)+1)),(11,.rw 11 U ((Qbo v.stamp (x1.l.take j)).length))] [(11,.row U 100 7 ((Qbo v.stamp (x1.l.take j)).map verA))] ⟨sR,sR,sR,sR,sR,sR,sO,W2p (W1z (AV.rw 11 U) (by rw [Qi5 hx3 p9])),trivial⟩ ⟨sB,sB,sB,⟨_,rfl,W2q (W1z (Bx.row U 100 7) (by rw [Qi5 hx3 p9]))⟩,trivial⟩)
 <| fun p8=>.u 4 [b1]<|
 .op (apF prog 100 7 80 11) (U,U,(Qbo v.stamp (x1.l.take j)).map verA,[(verA v)],70) (fun (_:Unit) σ=>(σ.put (some 70) (.sl 7 false (((Qbo v.stamp (x1.l.take j)).map verA)++([(verA v)])))).setB 11 (.row (.slice none 0 0) 100 7 [])) (Qq7 (by simp only [W0a,W0b,W0f,W0e];omega) (by simp only [W0a,W0b,W0f,W0e];omega)) fun _=>
 .u 2 [b2]<|
 .r 1<|.u 3 [b2]<|
 .app 32 V ((cwK n v l k).1.map chnT) ([[aI n,.sl 7 false (((Qbo v.stamp (x1.l.take j)).map verA)++([(verA v)]))]]) (by simp only [W0a,W0b,W0f,W0e];omega) (by simp only [W0a,W0b,W0f,W0e];omega) fun V6=>
 .r 1<|.run 3 [rng .i64 ((k:Int)+1)] ⟨Qah,trivial⟩<|
 .bk L1 (k,V) ((k+1),V6) (show (k+1)≤l.length from (by show _≤_;omega)) (show l.length-(k+1)<l.length-k from (by omega)) [(9,aI ((k:Int)+1)),(7,.rw 7 V6 (((cwK n v l k).1.map chnT).length+([[aI n,.sl 7 false (((Qbo v.stamp (x1.l.take j)).map verA)++([(verA v)]))]]:List (List AV)).length)),(8,aB true)] [(7,.row V6 98 2 (((cwK n v l k).1.map chnT)++([[aI n,.sl 7 false (((Qbo v.stamp (x1.l.take j)).map verA)++([(verA v)]))]])))] ⟨sR,sR,sR,sO,W2p (W1z (AV.rw 7 V6) (by rw [Qch hx1,Qew p7,Qc1 (.inr p3)];simp)),W2p (W1z aB (by rw [Qch hx1,Qew p7,Qc1 (.inr p3)])),trivial⟩ ⟨sB,⟨_,rfl,W2q (W1z (Bx.row V6 98 2) (by rw [show x1.l.take j=x1.l from Qat (by omega)];rw [Qch hx1,Qew p7,Qc1 (.inr p3)];simp [chnT,verA]))⟩,trivial⟩) a2.1 a2.2 ha2)
 <| fun p7=>.u 3 [b2]<|
 .app 32 V ((cwK n v l k).1.map chnT) ([[aI x1.ino,.sl 7 false (x1.l.map verA)]]) (by simp only [W0a,W0b,W0f,W0e];omega) (by simp only [W0a,W0b,W0f,W0e];omega) fun V7=>
 .r 1<|.run 3 [rng .i64 ((k:Int)+1)] ⟨Qah,trivial⟩<|
 .bk L1 (k,V) ((k+1),V7) (show (k+1)≤l.length from (by show _≤_;omega)) (show l.length-(k+1)<l.length-k from (by omega)) [(9,aI ((k:Int)+1)),(7,.rw 7 V7 (((cwK n v l k).1.map chnT).length+([[aI x1.ino,.sl 7 false (x1.l.map verA)]]:List (List AV)).length)),(8,aB ((cwK n v l k).2))] [(7,.row V7 98 2 (((cwK n v l k).1.map chnT)++([[aI x1.ino,.sl 7 false (x1.l.map verA)]])))] ⟨sR,sR,sR,sO,W2p (W1z (AV.rw 7 V7) (by rw [Qch hx1,Qds p7,Qc1 (.inr p3)];simp)),W2p (W1z aB (by rw [Qch hx1,Qds p7,Qc1 (.inr p3)])),trivial⟩ ⟨sB,⟨_,rfl,W2q (W1z (Bx.row V7 98 2) (by rw [Qch hx1,Qds p7,Qc1 (.inr p3)];simp [chnT,verA]))⟩,trivial⟩)
 <| fun q2=>have q2:=notF q2;have p2:=booT q2;.r 5<|.u 4 [b2]<|
 .be 41 x1.ino n (fun p10=>.r 1<|.rowNil 11 11 100 7<|.r 1<|let L2:Lp (Nat × Value):=⟨fun a2=>⟨[(0,.sl 2 false (l.map chnA)),(1,aI n),(5,.ptr 5 b1 0),(9,aI (k:Int)),(7,.rw 7 V ((cwK n v l k).1.length)),(10,.ptr 10 b2 0),(12,aI (a2.1:Int)),(11,.rw 11 a2.2 ((Qbo v.stamp (x1.l.take a2.1)).length))],[(5,.box b1 100 (verA v)),(7,.row V 98 2 ((cwK n v l k).1.map chnT)),(10,.box b2 98 [aI x1.ino,.sl 7 false (x1.l.map verA)]),(11,.row a2.2 100 7 ((Qbo v.stamp (x1.l.take a2.1)).map verA))]⟩,fun a2=>x1.l.length-a2.1,fun a2=>a2.1≤x1.l.length⟩
 .lp L2 (0,.slice none 0 0) (show 0≤x1.l.length from W0j _) [(12,aI 0),(11,.rw 11 (.slice none 0 0) 0)] [(11,.row (.slice none 0 0) 100 7 ([]))] ⟨sR,sR,sR,sR,sR,sR,sO,W2p rfl,trivial⟩ ⟨sB,sB,sB,⟨_,rfl,W2q rfl⟩,trivial⟩ fun a2 ha2=>
 (fun (j:Nat) (U:Value) (hH2:j≤x1.l.length)=>have hol:=Qn0 v.stamp x1.l j;.u 4 [b2]<|
 .lm 45 x1.l verA<|.r 1<|.bd 46 ((j:Int)<(x1.l.length:Int)) (fun p11=>.ord [0,1,2,3,4,5,6,7,8]<|.u 3 [b2]<|
 .idxM x1.l verA j (m:=(j:Int)) rfl (by omega) fun x4 hx4=>
 .u 5 [b1]<|
 .bn 57 x4.stamp v.stamp (fun p12=>.u 4 [b2]<|
 .idx j (m:=(j:Int)) (xs:=x1.l.map verA) (e:=verA x4) rfl (map_some hx4)<|
 .r 2<|.app 80 U ((Qbo v.stamp (x1.l.take j)).map verA) ([(verA x4)]) (by simp only [W0a,W0b,W0f,W0e];omega) (by simp only [W0a,W0b,W0f,W0e];omega) fun V8=>
 .r 1<|.run 3 [rng .i64 ((j:Int)+1)] ⟨Qah,trivial⟩<|
 .bk L2 (j,U) ((j+1),V8) (show (j+1)≤x1.l.length from (by show _≤_;omega)) (show x1.l.length-(j+1)<x1.l.length-j from (by omega)) [(12,aI ((j:Int)+1)),(11,.rw 11 V8 (((Qbo v.stamp (x1.l.take j)).map verA).length+([(verA x4)]:List (List AV)).length))] [(11,.row V8 100 7 (((Qbo v.stamp (x1.l.take j)).map verA)++([(verA x4)])))] ⟨sR,sR,sR,sR,sR,sR,sO,W2p (W1z (AV.rw 11 V8) (by rw [Qgp hx4 p12];simp)),trivial⟩ ⟨sB,sB,sB,⟨_,rfl,W2q (W1z (Bx.row V8 100 7) (by rw [Qgp hx4 p12];simp [verA]))⟩,trivial⟩)
 <| fun p12=>.run 3 [rng .i64 ((j:Int)+1)] ⟨Qah,trivial⟩<|
 .bk L2 (j,U) ((j+1),U) (show (j+1)≤x1.l.length from (by show _≤_;omega)) (show x1.l.length-(j+1)<x1.l.length-j from (by omega)) [(12,aI ((j:Int)+1)),(11,.rw 11 U ((Qbo v.stamp (x1.l.take j)).length))] [(11,.row U 100 7 ((Qbo v.stamp (x1.l.take j)).map verA))] ⟨sR,sR,sR,sR,sR,sR,sO,W2p (W1z (AV.rw 11 U) (by rw [Qi5 hx4 p12])),trivial⟩ ⟨sB,sB,sB,⟨_,rfl,W2q (W1z (Bx.row U 100 7) (by rw [Qi5 hx4 p12]))⟩,trivial⟩)
 <| fun p11=>.u 4 [b1]<|
 .op (apF prog 100 7 80 11) (U,U,(Qbo v.stamp (x1.l.take j)).map verA,[(verA v)],70) (fun (_:Unit) σ=>(σ.put (some 70) (.sl 7 false (((Qbo v.stamp (x1.l.take j)).map verA)++([(verA v)])))).setB 11 (.row (.slice none 0 0) 100 7 [])) (Qq7 (by simp only [W0a,W0b,W0f,W0e];omega) (by simp only [W0a,W0b,W0f,W0e];omega)) fun _=>
 .u 2 [b2]<|
 .r 1<|.u 3 [b2]<|
 .app 32 V ((cwK n v l k).1.map chnT) ([[aI n,.sl 7 false (((Qbo v.stamp (x1.l.take j)).map verA)++([(verA v)]))]]) (by simp only [W0a,W0b,W0f,W0e];omega) (by simp only [W0a,W0b,W0f,W0e];omega) fun V9=>
 .r 1<|.run 3 [rng .i64 ((k:Int)+1)] ⟨Qah,trivial⟩<|
 .bk L1 (k,V) ((k+1),V9) (show (k+1)≤l.length from (by show _≤_;omega)) (show l.length-(k+1)<l.length-k from (by omega)) [(9,aI ((k:Int)+1)),(7,.rw 7 V9 (((cwK n v l k).1.map chnT).length+([[aI n,.sl 7 false (((Qbo v.stamp (x1.l.take j)).map verA)++([(verA v)]))]]:List (List AV)).length)),(8,aB true)] [(7,.row V9 98 2 (((cwK n v l k).1.map chnT)++([[aI n,.sl 7 false (((Qbo v.stamp (x1.l.take j)).map verA)++([(verA v)]))]])))] ⟨sR,sR,sR,sO,W2p (W1z (AV.rw 7 V9) (by rw [Qch hx1,Qew p10,Qc1 (.inl q2)];simp)),W2p (W1z aB (by rw [Qch hx1,Qew p10,Qc1 (.inl q2)])),trivial⟩ ⟨sB,⟨_,rfl,W2q (W1z (Bx.row V9 98 2) (by rw [show x1.l.take j=x1.l from Qat (by omega)];rw [Qch hx1,Qew p10,Qc1 (.inl q2)];simp [chnT,verA]))⟩,trivial⟩) a2.1 a2.2 ha2)
 <| fun p10=>.u 3 [b2]<|
 .app 32 V ((cwK n v l k).1.map chnT) ([[aI x1.ino,.sl 7 false (x1.l.map verA)]]) (by simp only [W0a,W0b,W0f,W0e];omega) (by simp only [W0a,W0b,W0f,W0e];omega) fun V10=>
 .r 1<|.run 3 [rng .i64 ((k:Int)+1)] ⟨Qah,trivial⟩<|
 .bk L1 (k,V) ((k+1),V10) (show (k+1)≤l.length from (by show _≤_;omega)) (show l.length-(k+1)<l.length-k from (by omega)) [(9,aI ((k:Int)+1)),(7,.rw 7 V10 (((cwK n v l k).1.map chnT).length+([[aI x1.ino,.sl 7 false (x1.l.map verA)]]:List (List AV)).length)),(8,aB ((cwK n v l k).2))] [(7,.row V10 98 2 (((cwK n v l k).1.map chnT)++([[aI x1.ino,.sl 7 false (x1.l.map verA)]])))] ⟨sR,sR,sR,sO,W2p (W1z (AV.rw 7 V10) (by rw [Qch hx1,Qds p10,Qc1 (.inl q2)];simp)),W2p (W1z aB (by rw [Qch hx1,Qds p10,Qc1 (.inl q2)])),trivial⟩ ⟨sB,⟨_,rfl,W2q (W1z (Bx.row V10 98 2) (by rw [Qch hx1,Qds p10,Qc1 (.inl q2)];simp [chnT,verA]))⟩,trivial⟩)
 <| fun p1=>.r 2<|.br 77 (!((cwK n v l k).2)) (fun q13=>have q13:=notT q13;have p13:=booF q13;.u 6 [b1]<|
 .app 32 V ((cwK n v l k).1.map chnT) ([[aI n,.sl 7 true ([(verA v)])]]) (by simp only [W0a,W0b,W0f,W0e];omega) (by simp only [W0a,W0b,W0f,W0e];omega) fun V11=>
 .r 1<|.r 2<|.frz 7 [6] [] [V11=V11,((cwK n v l k).1.map chnT).length+([[aI n,.sl 7 true ([(verA v)])]]:List (List AV)).length=(((cwK n v l k).1.map chnT)++([[aI n,.sl 7 true ([(verA v)])]])).length] ⟨rfl,(by first | rfl | (simp;done) | (simp;omega)),trivial⟩<|
 .f (.sl 2 false ((Qs8 n v l).map chnT)) [] (.sl 2 false (((cwK n v l k).1.map chnT)++([[aI n,.sl 7 true ([(verA v)])]]))) (by
  have hk:k=l.length:=by omega
  subst hk;unfold Qs8;rw [W1y q13]
  first | exact sR | exact W2r _ _ _ | (refine Sub.trans (W2r _ _ _) (W2p (W1z (AV.sl 2 false) ?_));simp [chnT,verA])))
 <| fun q13=>have q13:=notF q13;have p13:=booT q13;.r 2<|.frz 7 [6] [] [V=V,(cwK n v l k).1.length=((cwK n v l k).1.map chnT).length] ⟨rfl,(by first | rfl | (simp;done) | (simp;omega)),trivial⟩<|
 .f (.sl 2 false ((Qs8 n v l).map chnT)) [] (.sl 2 false ((cwK n v l k).1.map chnT)) (by
  have hk:k=l.length:=by omega
  subst hk;unfold Qs8;rw [W1x (by rw [q13];decide)]
  first | exact sR | exact W2r _ _ _ | (refine Sub.trans (W2r _ _ _) (W2p (W1z (AV.sl 2 false) ?_));simp [chnT,verA]))) a1.1 a1.2 ha1)
def Qta (n:Int) (v:Ver) (l:List Chn):List Chn:=(Qs8 n v l).map Prod.fst
theorem Qno (l:List Chn) (n:Int) (v:Ver) (hl:l.length≤10000) (hv:∀ c∈l,c.l.length≤10000):Qai prog 109 [.sl 2 false (l.map chnA),aI n,.agg (verA v)] (.sl 2 false ((Qta n v l).map chnA)):=by
 refine (Za9 l n v hl hv).sub rfl (fun j x y hx hy=>by have e:some x=some y:=hx.symm.trans hy;cases e;exact sR) ?_;refine Sub.sl2 (by unfold Qta;simp) (fun i a b ha hb=>?_);unfold Qta at hb;rw [W0v] at ha hb;rw [W0v] at hb;cases hp:(Qs8 n v l)[i]? with
 | none=>rw [hp] at ha;cases ha
 | some p=>
  rw [hp] at ha hb;obtain rfl:=W0c ha;obtain rfl:=W0c hb;exact ⟨sR,W2r _ _ _,trivial⟩
theorem Qx0 {n:Int} {v:Ver}:∀ (l:List Chn) (acc:List (Chn × Bool)),(∀ c∈l,¬ c.ino=n)→l.foldl (Qx1 n v) (acc,true)=(acc++l.map (fun c=>(c,false)),true)
 | [],acc,_=>by simp
 | c :: r,acc,h=>by
  rw [List.foldl_cons,Qds (h c (by simp)),Qc1 (.inl rfl),Qx0 r _ (fun d hd=>h d (by simp [hd]))];simp
theorem Zno {c:Chn} {r:List Chn} {st n:Int} {v:Ver} (h:c.ino<n):putC (c :: r) st n v=c :: putC r st n v:=by
 have e:Qao (c :: r) n=Qao r n+1:=by unfold Qao;rw [List.takeWhile_cons,W1y (by simpa using h)];rfl
 have t:Qcj (c :: r) n=Qcj r n:=by unfold Qcj;rw [e];rfl
 unfold putC;rw [t,e]
 split
 ·rw [List.getElem?_cons_succ]
  split<;>rfl
 ·rfl
theorem Zeu {c:Chn} {r:List Chn} {st:Int} {v:Ver}:putC (c :: r) st c.ino v=⟨c.ino,Qb9 c.l st++[v]⟩ :: r:=by
 have e:Qao (c :: r) c.ino=0:=by unfold Qao;rw [List.takeWhile_cons,W1x (by simp)];rfl
 rw [Qgm (c:=c) (by unfold Qcj;rw [e];simp) (by rw [e];rfl),e];rfl
theorem Zjg {c:Chn} {r:List Chn} {st n:Int} {v:Ver} (h:c.ino>n):putC (c :: r) st n v=⟨n,[v]⟩ :: c :: r:=by
 have e:Qao (c :: r) n=0:=by unfold Qao;rw [List.takeWhile_cons,W1x (by simp;omega)];rfl
 rw [Qi4 (by unfold Qcj;rw [e];simp;omega),e];rfl
def finW (n:Int) (v:Ver) (p:List (Chn × Bool) × Bool):List (Chn × Bool):=if p.2=false then p.1++[(⟨n,[v]⟩,true)] else p.1
theorem Zmo {n st:Int} {v:Ver} (hs:v.stamp=st):∀ (l:List Chn) (acc:List (Chn × Bool)),Qht l→(∀ c∈l,Qbo st c.l=Qb9 c.l st)→(finW n v (l.foldl (Qx1 n v) (acc,false))).map Prod.fst=acc.map Prod.fst++putC l st n v
 | [],acc,_,_=>by
  rw [Qi4 (l:=[]) rfl];simp [finW]
 | c :: r,acc,hr,ho=>by
  have hr1:=W1l.1 hr;rw [List.foldl_cons];by_cases h1:c.ino<n
  ·rw [Qds (by omega),Qc1 (.inr (by omega)),Zmo hs r _ hr1.2 (fun d hd=>ho d (by simp [hd])),Zno h1];simp
  ·by_cases h2:c.ino=n
   ·subst h2;rw [Qew rfl,Qc1 (.inr (by omega)),Qx0 r _ (fun d hd=>by have:=hr1.1 d hd;omega),Zeu,hs,ho c (by simp)];simp [finW,List.map_map,Function.comp_def]
   ·have h3:c.ino>n:=by omega
    rw [Qds h2,Qfn rfl h3,Qx0 r _ (fun d hd=>by have:=hr1.1 d hd;omega),Zjg h3];simp [finW,List.map_map,Function.comp_def]
theorem Zc7 {l:List Chn} {n st:Int} {v:Ver} (hs:v.stamp=st) (hr:Qht l) (ho:∀ c∈l,Qbo st c.l=Qb9 c.l st):Qta n v l=putC l st n v:=by
 have h:=Zmo (n:=n) hs l [] hr ho;rw [List.map_nil,W1w] at h;rw [← h];unfold Qta Qs8 finW cwK;rw [W13]
def Zid (st:Int) (r:List Ver):Prop:=(∀ v∈r.take (r.length-1),v.stamp<st)∧∀ v∈r,v.stamp≤st
theorem Qp6 {st:Int} {r:List Ver} (h:∀ v∈r,v.stamp<st):Qbo st r=r:=by
 unfold Qbo;refine List.filter_eq_self.2 fun v hv=>?_;have:=h v hv;simp;omega
theorem Qiz {st:Int} {b:List Ver} {v:Ver} (h:∀ u∈b,u.stamp<st) (hv:v.stamp=st):Zid st (b++[v]):=by
 refine ⟨fun u hu=>?_,fun u hu=>?_⟩
 ·rw [W0e,List.length_singleton,Nat.add_sub_cancel,List.take_left'] at hu
  ·exact h u hu
  ·rfl
 ·rcases W05.1 hu with hu | hu
  ·have:=h u hu;omega
  ·obtain rfl:=W0z.1 hu;omega
theorem Qyt {st:Int} {r:List Ver} {v:Ver} (h:Zid st r) (hv:v.stamp=st):Zid st (Qb9 r st++[v])∧Qbo st r=Qb9 r st:=by
 rcases List.eq_nil_or_concat r with rfl | ⟨b,x,rfl⟩
 ·rw [Zal];exact ⟨Qiz (fun u hu=>by cases hu) hv,rfl⟩
 ·rw [List.concat_eq_append] at *;have hx:(b++[x])[(b++[x]).length-1]?=some x:=by simp
  have ht:(b++[x]).take ((b++[x]).length-1)=b:=by simp
  have hb:∀ u∈b,u.stamp<st:=fun u hu=>h.1 u (by rw [ht];exact hu);have hxs:=h.2 x (by simp);by_cases e:x.stamp=st
  ·rw [Qst hx e,ht];refine ⟨Qiz hb hv,?_⟩;have h1:=Qp6 hb;unfold Qbo at h1 ⊢;rw [W1k,h1];simp [e]
  ·have ha:∀ u∈b++[x],u.stamp<st:=fun u hu=>by
    rcases W05.1 hu with hu | hu
    ·exact hb u hu
    ·obtain rfl:=W0z.1 hu;omega
   rw [Qx9 hx e];exact ⟨Qiz ha hv,Qp6 ha⟩
theorem Quq {l:List Chn} {st:Int} {cs:List Chg} (hl:∀ c∈l,∀ v∈c.l,v.stamp<st):∀ c∈Qpj l st cs,Zid st c.l:=
 Qol (P:=fun c=>Zid st c.l) (fun c hc=>⟨fun v hv=>hl c hc v (W14 hv),fun v hv=>by have:=hl c hc v hv;omega⟩)
  (fun c _=>Qiz (b:=[]) (fun u hu=>by cases hu) (Qca c st))
  (fun c _ d hd=>(Qyt hd (Qca c st)).1)
theorem Qur {st:Int}:∀ {cs:List Chg} {l:List Chn},Qht l→Qht (Qpj l st cs)
 | [],_,h=>h
 | c :: r,l,h=>Qur (cs:=r) (l:=putC l st c.ino (Qal c st)) (Qnt h)
theorem Zgg (l:List Chn) (st:Int) (cs:List Chg) (k:Nat):Qas l st cs k=Qpj l st (cs.take k):=rfl
theorem Qs7 {s:Sto} {cs:List Chg} {k:Nat} {c:Chg} (hp:Qb7 s) (h:cs[k]?=some c):Qta c.ino (Qal c (s.stamp+1)) (Qas s.l (s.stamp+1) cs k)=Qas s.l (s.stamp+1) cs (k+1):=by
 rw [Qct h];refine Zc7 (Qca c _) (by rw [Zgg];exact Qur (Qnr hp)) fun d hd=>?_;rw [Zgg] at hd;refine (Qyt (Quq (fun c hc v hv=>?_) d hd) (Qca c _)).2;obtain ⟨i,hi⟩:=W0w hv;have:=((Qss hp hc).2.1.2.at hi).2.1;omega
end Go.Proofs.YtahlldgocpabjaaGreat
