import Derived.Test.YtahlldgocpabjaaGreatMrgAL
import Derived.Test.YtahlldgocpabjaaGreatMrgAF
import Derived.Test.YtahlldgocpabjaaGreatMrgAG
set_option linter.unusedVariables false
set_option linter.unusedSimpArgs false
namespace Go.Proofs.YtahlldgocpabjaaGreat
open Go Go.RowKit Copyhold
theorem Zgs {r:List Ver} {st:Int} (h:∀ v∈r,v.stamp<st):Qb3 r st=r:=by
 unfold Qb3
 split
 ·rename_i v hv;have:=h v (List.mem_of_getElem? hv);rw [if_neg (by omega)]
 ·rfl
def Qha (l:List Chn):Prop:=l.Pairwise fun c d=>c.ino<d.ino
theorem Qmz {s:Sto} (hp:Qch s):Qha s.l:=by
 have h:=hp.2.2.2;have key:∀ (i j:Nat) (c d:Chn),i<j→s.l[i]?=some c→s.l[j]?=some d→c.ino<d.ino:=by
  intro i j
  induction j with
  | zero=>intro c d h;omega
  | succ j ih=>
   intro c d hij hc hd;obtain ⟨e,he⟩:=Qdo (l:=s.l) (k:=j) (by have:=Qan hd;omega);have h1:=(h.at hd).2 e (by omega) (by simpa using he);rcases Nat.lt_or_ge i j with hij' | hij'
   ·have:=ih c e hij' hc he;omega
   ·obtain rfl:i=j:=by omega
    rw [hc] at he;obtain rfl:=Option.some.inj he;exact h1
 unfold Qha;rw [List.pairwise_iff_getElem];intro i j hi hj hij;exact key i j _ _ hij (List.getElem?_eq_getElem hi) (List.getElem?_eq_getElem hj)
theorem Qwf {n:Int}:∀ {l:List Chn},Qha l→Qcd l n=false→∀ c∈l,c.ino ≠ n
 | [],_,_,c,hc=>by cases hc
 | x :: r,hr,ht,c,hc=>by
  obtain ⟨h1,h2⟩:=List.pairwise_cons.1 hr;by_cases hx:x.ino<n
  ·have e:Qao (x :: r) n=Qao r n+1:=by unfold Qao;simp [hx]
   have ht':Qcd r n=false:=by
    unfold Qcd at ht ⊢;rw [e] at ht;simpa using ht
   rcases List.mem_cons.1 hc with rfl | hc
   ·omega
   ·exact Qwf h2 ht' c hc
  ·have e:Qao (x :: r) n=0:=by unfold Qao;simp [hx]
   have hne:x.ino ≠ n:=by
    unfold Qcd at ht;rw [e] at ht;simpa using ht
   rcases List.mem_cons.1 hc with rfl | hc
   ·exact hne
   ·have:=h1 c hc;omega
def Qbf (l:List Chn) (i:Int):Option Chn:=l.find? fun c=>c.ino==i
theorem Zgn {l:List Chn} {i:Int} {c:Chn} (h:Qbf l i=some c):c.ino=i:=by simpa using List.find?_some h
theorem Qh1 {l:List Chn} {i:Int} {c:Chn} (h:Qbf l i=some c):c∈l:=List.mem_of_find?_eq_some h
theorem Qmi:∀ {l:List Chn} {c:Chn},Qha l→c∈l→Qbf l c.ino=some c
 | x :: r,c,hr,hc=>by
  obtain ⟨h1,h2⟩:=List.pairwise_cons.1 hr;unfold Qbf;rw [List.find?_cons];rcases List.mem_cons.1 hc with rfl | hc
  ·simp
  ·have:=h1 c hc;have e:(x.ino==c.ino)=false:=by simp;omega
   rw [e];exact Qmi h2 hc
theorem Za7 {l:List Chn} {i:Int} (h:∀ c∈l,¬ c.ino=i):Qbf l i=none:=by
 unfold Qbf;rw [List.find?_eq_none];intro c hc;simpa using h c hc
theorem Qn9 {a b:List Chn} {x:Chn} (hr:Qha (a++x :: b)) (i:Int):Qbf (a++x :: b) i=if i=x.ino then some x else Qbf (a++b) i:=by
 by_cases hi:i=x.ino
 ·rw [if_pos hi,hi];exact Qmi hr (by simp)
 ·rw [if_neg hi];have e:(x.ino==i)=false:=by simp;exact fun h=>hi h.symm
  unfold Qbf;rw [List.find?_append,List.find?_append,List.find?_cons,e]
theorem Qm2 {l:List Chn} {st n:Int} {v:Ver} (hr:Qha l):Qha (putC l st n v):=by
 obtain ⟨c1,c2⟩:=Qup.cut (f:=Chn.ino) hr n;cases ht:Qcd l n with
 | false=>
  rw [Qim ht];refine List.pairwise_append.2 ⟨List.Pairwise.sublist (List.take_sublist _ _) hr,List.pairwise_cons.2 ⟨fun d hd=>?_,List.Pairwise.sublist (List.drop_sublist _ _) hr⟩,fun a ha b hb=>?_⟩
  ·have h1:¬ d.ino<n:=c2 d hd;have h2:=Qwf hr ht d (List.mem_of_mem_drop hd);show n<d.ino;omega
  ·have h1:a.ino<n:=c1 a ha;rcases List.mem_cons.1 hb with rfl | hb
   ·exact h1
   ·have h2:¬ b.ino<n:=c2 b hb;omega
 | true=>
  obtain ⟨c,hc,hn⟩:=Qic ht;rw [Qgb ht hc];have e:(l.set (Qao l n) ⟨c.ino,Qb3 c.l st++[v]⟩).map Chn.ino=l.map Chn.ino:=by
   rw [List.map_set];have hlt:=Qan hc;have:(l.map Chn.ino)[Qao l n]?=some c.ino:=by rw [List.getElem?_map,hc];rfl
   apply List.ext_getElem?;intro j;rw [List.getElem?_set]
   split
   ·rename_i hj;subst hj;rw [this,if_pos (by rw [List.length_map];exact hlt)]
   ·rfl
  unfold Qha at hr ⊢;have h1:((l.set (Qao l n) ⟨c.ino,Qb3 c.l st++[v]⟩).map Chn.ino).Pairwise (· < ·):=by rw [e,List.pairwise_map];exact hr
  rw [List.pairwise_map] at h1;exact h1
theorem Qt8 {l:List Chn} {st n:Int} {v:Ver} (hr:Qha l) (i:Int) :
  Qbf (putC l st n v) i=if i=n then some ⟨n,Qb3 ((Qbf l n).elim [] Chn.l) st++[v]⟩ else Qbf l i:=by
 have hr2:=Qm2 (st:=st) (n:=n) (v:=v) hr;cases ht:Qcd l n with
 | false=>
  rw [Qim ht] at hr2 ⊢;rw [Qn9 hr2,List.take_append_drop];have hnone:Qbf l n=none:=Za7 (Qwf hr ht);rw [hnone];rfl
 | true=>
  obtain ⟨c,hc,hn⟩:=Qic ht;have hlt:=Qan hc;have hcl:c=l[Qao l n]:=by
   rw [List.getElem?_eq_getElem hlt] at hc;exact (Option.some.inj hc).symm
  have hl:l=l.take (Qao l n)++c :: l.drop (Qao l n+1):=by
   rw [hcl,← List.drop_eq_getElem_cons hlt,List.take_append_drop]
  have hs:putC l st n v=l.take (Qao l n)++⟨c.ino,Qb3 c.l st++[v]⟩ :: l.drop (Qao l n+1):=by
   rw [Qgb ht hc,List.set_eq_take_append_cons_drop,if_pos hlt]
  rw [hs] at hr2 ⊢;rw [Qn9 hr2];have hat:Qbf l n=some c:=by
   have:=Qmi hr (List.mem_of_getElem? hc);rw [hn] at this;exact this
  rw [hat];show (if i=c.ino then _ else _)=_;rw [hn]
  split
  ·rfl
  ·rename_i hi;have h2:=Qn9 (x:=c) (a:=l.take (Qao l n)) (b:=l.drop (Qao l n+1)) (by rw [← hl];exact hr) i;rw [← hl,if_neg (by rw [hn];exact hi)] at h2;exact h2.symm
def OneC (cs:List Chg):Prop:=cs.Pairwise fun a b=>¬ a.ino=b.ino
def Qji (cs:List Chg) (i:Int):Option Chg:=cs.find? fun c=>c.ino==i
theorem Qt7 {cs:List Chg} {i:Int} {c:Chg} (h:Qji cs i=some c):c.ino=i∧c∈cs:=⟨by simpa using List.find?_some h,List.mem_of_find?_eq_some h⟩
theorem Qld {st:Int}:∀ {cs:List Chg} {l:List Chn},Qha l→OneC cs→Qha (Qoo l st cs)∧∀ i,Qbf (Qoo l st cs) i=match Qji cs i with
  | some c=>some ⟨i,Qb3 ((Qbf l i).elim [] Chn.l) st++[Qak c st]⟩
  | none=>Qbf l i
 | [],l,hr,_=>⟨hr,fun i=>rfl⟩
 | c :: r,l,hr,h1=>by
  obtain ⟨a1,a2⟩:=List.pairwise_cons.1 h1;have hr2:=Qm2 (st:=st) (n:=c.ino) (v:=Qak c st) hr;obtain ⟨b1,b2⟩:=Qld (st:=st) (cs:=r) (l:=putC l st c.ino (Qak c st)) hr2 a2;refine ⟨b1,fun i=>?_⟩;show Qbf (Qoo (putC l st c.ino (Qak c st)) st r) i=_;rw [b2 i];by_cases hi:c.ino=i
  ·have e1:Qji (c :: r) i=some c:=by unfold Qji;rw [List.find?_cons];simp [hi]
   have e2:Qji r i=none:=by
    unfold Qji;rw [List.find?_eq_none];intro d hd h;have h5:d.ino=i:=by simpa using h
    have:=a1 d hd;omega
   rw [e1,e2];show Qbf (putC l st c.ino (Qak c st)) i=_;rw [Qt8 hr,if_pos hi.symm,hi]
  ·have e1:Qji (c :: r) i=Qji r i:=by
    unfold Qji;rw [List.find?_cons,show (c.ino==i)=false from by simpa using hi]
   have e2:Qbf (putC l st c.ino (Qak c st)) i=Qbf l i:=by rw [Qt8 hr,if_neg (fun e=>hi e.symm)]
   rw [e1,e2]
theorem Qy2 {st nx i:Int}:∀ {l:List Chn},Qha l→(∀ c∈l,∀ n,Qb8 st c=some n→n.ino=c.ino)→atF ⟨l.filterMap (Qb8 st),nx⟩ i=(Qbf l i).bind (Qb8 st)
 | [],_,_=>rfl
 | x :: r,hr,hv=>by
  obtain ⟨h1,h2⟩:=List.pairwise_cons.1 hr;have ih:=Qy2 (st:=st) (nx:=nx) (i:=i) (l:=r) h2 (fun c hc=>hv c (by simp [hc]));unfold atF at ih ⊢;unfold Qbf at ih ⊢;rw [List.find?_cons];rw [List.filterMap_cons];cases hx:(x.ino==i) with
  | true=>
   have hxi:x.ino=i:=by simpa using hx
   cases hc:Qb8 st x with
   | none=>
    show List.find? (isNo i) (r.filterMap (Qb8 st))=(some x).bind (Qb8 st);show List.find? (isNo i) (r.filterMap (Qb8 st))=Qb8 st x;rw [hc,List.find?_eq_none];intro n hn;obtain ⟨d,hd,he⟩:=List.mem_filterMap.1 hn;have:=hv d (by simp [hd]) n he;have:=h1 d hd;simp [isNo];omega
   | some n=>
    have:=hv x (by simp) n hc;show List.find? (isNo i) (n :: r.filterMap (Qb8 st))=Qb8 st x;rw [hc,List.find?_cons];have e:isNo i n=true:=by simp [isNo];omega
    rw [e]
  | false=>
   have hxi:¬ x.ino=i:=by simpa using hx
   cases hc:Qb8 st x with
   | none=>exact ih
   | some n=>
    have:=hv x (by simp) n hc;show List.find? (isNo i) (n :: r.filterMap (Qb8 st))=_;rw [List.find?_cons];have e:isNo i n=false:=by simp [isNo];omega
    rw [e];exact ih
theorem Zgw {s:Sto} (hp:Qch s) (st i:Int):atF (Qck s st) i=(Qbf s.l i).bind (Qb8 st):=Qy2 (Qmz hp) (fun c hc n h=>Qsa hp hc h)
theorem Zbo {s:Sto} (hp:Qch s) (st:Int):Qbv (Qck s st).l:=by
 have hv:=fun c hc n h=>Qsa (st:=st) hp (c:=c) hc (n:=n) h;have hr:=Qmz hp;show Qup Nod.ino (s.l.filterMap (Qb8 st));have hr':s.l.Pairwise (fun c d:Chn=>(c∈s.l∧d∈s.l)∧c.ino<d.ino):=List.Pairwise.imp_of_mem (fun ha hb h=>⟨⟨ha,hb⟩,h⟩) (show s.l.Pairwise (fun c d:Chn=>c.ino<d.ino) from hr);refine List.Pairwise.filterMap _ (fun a b hab x hx y hy=>?_) hr';have:=hv a hab.1.1 x hx;have:=hv b hab.1.2 y hy;have:=hab.2;omega
theorem Qrq {s:Sto} (hp:Qch s) {c:Chn} (hc:c∈s.l):Qpv s.stamp c:=by
 obtain ⟨k,hk⟩:=List.getElem?_of_mem hc;exact (hp.2.2.2.at hk).1
theorem Qxe {α:Type} {f:α→Int} {m most:Int} {b:List α} {x:α} (hb:b=[]∨Qok f m b) (h1:m<f x) (h2:f x≤most) (h3:1≤f x):Qok f most (b++[x]):=by
 refine ⟨by simp,fun i y hy=>?_⟩;by_cases hi:i<b.length
 ·rw [List.getElem?_append_left hi] at hy;rcases hb with rfl | hb
  ·simp at hi
  ·have g:=hb.2.at hy;exact ⟨g.1,by have:=g.2.1;omega,fun d h0 hd=>g.2.2 d h0 (by rwa [List.getElem?_append_left (by omega)] at hd)⟩
 ·have he:i=b.length:=by have:=Qan hy;simp at this;omega
  subst he;rw [List.getElem?_append_right (Nat.le_refl _),Nat.sub_self] at hy;obtain rfl:=Option.some.inj hy;refine ⟨h3,h2,fun d h0 hd=>?_⟩;rw [List.getElem?_append_left (by omega)] at hd;rcases hb with rfl | hb
  ·simp at h0
  ·have:=(hb.2.at hd).2.1;omega
theorem Qsv {α:Type} {f:α→Int} {m most:Int} {b:List α} (hb:Qok f m b) (h:m≤most):Qok f most b:=⟨hb.1,fun i x hx=>by
 have g:=hb.2.at hx;exact ⟨g.1,by have:=g.2.1;omega,g.2.2⟩⟩
theorem Zhk {s:Sto} (h1:1≤s.stamp) (h2:Qok Cnt.stamp s.stamp s.nexts) (h3:AllQ (fun _ (c:Cnt)=>1≤c.next) s.nexts) (h4:Qha s.l) (h5:∀ c∈s.l,Qpv s.stamp c):Qch s:=
 ⟨h1,h2,h3,fun i c hc=>⟨h5 c (List.mem_of_getElem? hc),fun d h0 hd=>by
  have l1:=Qan hc;have l2:=Qan hd;have:=List.pairwise_iff_getElem.1 h4 (i-1) i l2 l1 (by omega);rw [List.getElem?_eq_getElem l1] at hc;rw [List.getElem?_eq_getElem l2] at hd;obtain rfl:=Option.some.inj hc;obtain rfl:=Option.some.inj hd;exact this⟩⟩
def mayC (cs:List Chg):Prop:=∀ c∈cs,1≤c.ino∧(c.gone=false→nodP (nodG c))
theorem Qy6 {c:Chg} {st:Int} (h:c.gone=false→nodP (nodG c)):verP c.ino (Qak c st):=by
 unfold Qak;cases hg:c.gone with
 | true=>exact ⟨fun _=>rfl,fun h=>(by cases h)⟩
 | false=>exact ⟨fun h=>(by cases h),fun _=>⟨h hg,rfl⟩⟩
theorem Qs3 {s:Sto} (hp:Qch s) (i:Int):((Qbf s.l i).elim [] Chn.l=[]∨(Qok Ver.stamp s.stamp ((Qbf s.l i).elim [] Chn.l)∧AllQ (fun _ v=>verP i v) ((Qbf s.l i).elim [] Chn.l)))∧Qb3 ((Qbf s.l i).elim [] Chn.l) (s.stamp+1)=(Qbf s.l i).elim [] Chn.l:=by
 cases hc:Qbf s.l i with
 | none=>exact ⟨.inl rfl,rfl⟩
 | some c=>
  have h:=Qrq hp (Qh1 hc);have hi:=Zgn hc;refine ⟨.inr ⟨h.2.1,hi ▸ h.2.2⟩,Zgs fun v hv=>?_⟩;have:=Qsk hp c (Qh1 hc) v hv;omega
theorem Ze1 {s:Sto} {cs:List Chg} {next:Int} (hp:Qch s) (h1:OneC cs) (i:Int):Qbf (Qdd s cs next).l i=match Qji cs i with
  | some c=>some ⟨i,(Qbf s.l i).elim [] Chn.l++[Qak c (s.stamp+1)]⟩
  | none=>Qbf s.l i:=by
 have h:=(Qld (st:=s.stamp+1) (Qmz hp) h1).2 i;rw [(Qs3 hp i).2] at h;show Qbf (Qas s.l (s.stamp+1) cs cs.length) i=_;rw [Qqx];exact h
theorem Qpf {s:Sto} (hp:Qch s):∃ c,s.nexts[s.nexts.length-1]?=some c∧Qj4 s s.stamp=c.next:=by
 have hl:=hp.2.1.1;obtain ⟨c,hc⟩:=Qdo (l:=s.nexts) (k:=s.nexts.length-1) (by omega);refine ⟨c,hc,?_⟩;rw [Zdx (Qxs hp),hc]
theorem Qlc {s:Sto} {cs:List Chg} {next:Int} (hp:Qch s) (h1:OneC cs) (hm:mayC cs) (hn:1≤next):Qch (Qdd s cs next):=by
 have hst:(Qdd s cs next).stamp=s.stamp+1:=rfl;have hs1:=hp.1;have hr:Qha (Qdd s cs next).l:=by
  show Qha (Qas s.l (s.stamp+1) cs cs.length);rw [Qqx];exact (Qld (Qmz hp) h1).1
 obtain ⟨c0,hc0,_⟩:=Qpf hp;refine Zhk (by rw [hst];omega) ?_ ?_ hr ?_
 ·show Qok Cnt.stamp (s.stamp+1) (Qc6 s next);unfold Qc6;rw [hc0];show Qok Cnt.stamp (s.stamp+1) (if next>c0.next then _ else _)
  split
  ·exact Qxe (m:=s.stamp) (.inr hp.2.1) (by show s.stamp<s.stamp+1;omega) (Int.le_refl _) (by show 1≤s.stamp+1;omega)
  ·exact Qsv hp.2.1 (by omega)
 ·show AllQ (fun _ (c:Cnt)=>1≤c.next) (Qc6 s next);intro i c hc;have hmem:=List.mem_of_getElem? hc;unfold Qc6 at hmem;rw [hc0] at hmem;have hmem:c∈(if next>c0.next then s.nexts++[⟨s.stamp+1,next⟩] else s.nexts):=hmem
  split at hmem
  ·rcases List.mem_append.1 hmem with h | h
   ·exact Qs6 hp c h
   ·obtain rfl:=List.mem_singleton.1 h;exact hn
  ·exact Qs6 hp c hmem
 ·intro c hc;have hat:=Qmi hr hc;rw [Ze1 hp h1] at hat
  split at hat
  ·rename_i g hg;obtain ⟨g1,g2⟩:=Qt7 hg;have he:=Option.some.inj hat;obtain ⟨o1,_⟩:=Qs3 hp c.ino;have hver:=Qy6 (st:=s.stamp+1) (hm g g2).2;rw [g1] at hver;have hcl:c.l=(Qbf s.l c.ino).elim [] Chn.l++[Qak g (s.stamp+1)]:=by rw [← he]
   refine ⟨by have:=(hm g g2).1;omega,?_,?_⟩
   ·rw [hcl,hst];exact Qxe (m:=s.stamp) (o1.imp id fun h=>h.1) (by rw [Qcc];omega) (by rw [Qcc];omega) (by rw [Qcc];omega)
   ·rw [hcl];intro j v hv;rcases List.mem_append.1 (List.mem_of_getElem? hv) with h | h
    ·rcases o1 with h0 | ⟨_,h0⟩
     ·rw [h0] at h;cases h
     ·obtain ⟨k,hk⟩:=List.getElem?_of_mem h;exact h0.at hk
    ·obtain rfl:=List.mem_singleton.1 h;exact hver
  ·have h:=Qrq hp (Qh1 hat);exact ⟨h.1,Qsv h.2.1 (by rw [hst];omega),h.2.2⟩
def nodC (c:Chg):Option Nod:=if c.gone=true then none else some (nodG c)
theorem Zhb {n st b:Int} {r:List Ver} {v:Ver} (h:∀ u∈r++[v],u.stamp≤b):Qb8 b ⟨n,r++[v]⟩=if v.gone=true then none else some v.n:=by
 rw [Qev (v:=v)]
 ·rw [show cutV Ver.stamp b (r++[v])=(r++[v]).length from Qrl h (Int.le_refl b)];simp
 ·show (r++[v])[cutV Ver.stamp b (r++[v])-1]?=some v;rw [show cutV Ver.stamp b (r++[v])=(r++[v]).length from Qrl h (Int.le_refl b)];simp
theorem Qsb (c:Chg) (st:Int):(if (Qak c st).gone=true then none else some (Qak c st).n)=nodC c:=by
 unfold Qak nodC nodG;cases c.gone<;>rfl
theorem old_le {s:Sto} (hp:Qch s) (i:Int):∀ v∈(Qbf s.l i).elim [] Chn.l,v.stamp≤s.stamp:=by
 cases hc:Qbf s.l i with
 | none=>intro v hv;cases hv
 | some c=>exact fun v hv=>Qsk hp c (Qh1 hc) v hv
theorem Zbp {s:Sto} {cs:List Chg} {next:Int} (hp:Qch s) (h1:OneC cs) (hm:mayC cs) (hn:1≤next) (i:Int):atF (Qck (Qdd s cs next) (s.stamp+1)) i=match Qji cs i with
  | some c=>nodC c
  | none=>atF (Qck s s.stamp) i:=by
 rw [Zgw (Qlc hp h1 hm hn),Ze1 hp h1,Zgw hp];have hle:=old_le hp i;cases hc:Qji cs i with
 | some c=>
  show Qb8 (s.stamp+1) ⟨i,_⟩=nodC c;rw [Zhb (st:=0) (fun u hu=>by
   rcases List.mem_append.1 hu with h | h
   ·have:=hle u h;omega
   ·obtain rfl:=List.mem_singleton.1 h;rw [Qcc];omega),Qsb]
 | none=>
  show (Qbf s.l i).bind (Qb8 (s.stamp+1))=(Qbf s.l i).bind (Qb8 s.stamp);cases hd:Qbf s.l i with
  | none=>rfl
  | some c=>exact (Zbn (by omega) (Zao hp (Qh1 hd))).symm
theorem Zdy {s:Sto} {cs:List Chg} {next:Int} (hp:Qch s):Qj4 (Qdd s cs next) (s.stamp+1)=maxD (Qj4 s s.stamp) next:=by
 obtain ⟨c0,hc0,he⟩:=Qpf hp;have hle:=Qxs hp;rw [he];unfold maxD;have hn:(Qdd s cs next).nexts=if next>c0.next then s.nexts++[⟨s.stamp+1,next⟩] else s.nexts:=by
  show Qc6 s next=_
  unfold Qc6;rw [hc0]
 have hb:∀ c∈(Qdd s cs next).nexts,c.stamp≤s.stamp+1:=by
  rw [hn];intro c hc
  split at hc
  ·rcases List.mem_append.1 hc with h | h
   ·have:=hle c h;omega
   ·obtain rfl:=List.mem_singleton.1 h;exact Int.le_refl _
  ·have:=hle c hc;omega
 rw [Zdx hb,hn];by_cases h:next>c0.next
 ·rw [if_pos h,if_pos h];simp
 ·rw [if_neg h,if_neg h,hc0]
theorem Qn7 (f g:Fsy):OneC (Qbj f g):=by
 refine List.Pairwise.filterMap _ (fun i j hij a ha b hb=>?_) (Qul f g);have:=(Qgo ha).1;have:=(Qgo hb).1;omega
theorem Qn8 {f g:Fsy} (hf:Qar f) (hg:Qar g):mayC (Qbj f g):=fun c hc=>by
 obtain ⟨i,hi,h⟩:=List.mem_filterMap.1 hc;obtain ⟨e,h1⟩:=Qgo h;have hi1:1≤i:=by
  rcases Qh6.1 hi with h | h
  ·obtain ⟨n,hn⟩:=Qpk.1 h;have:=Qbm hf hn;have:=this.1.1;omega
  ·obtain ⟨n,hn⟩:=Qpk.1 h;have:=Qbm hg hn;have:=this.1.1;omega
 refine ⟨by omega,fun hgo=>?_⟩;rcases h1 with h1 | h1
 ·rw [h1.1] at hgo;cases hgo
 ·obtain ⟨n1,n2,n3⟩:=Qbm hg h1.2;have:nodG c=c.n:=by unfold nodG;rw [e,← n3]
  rw [this];exact n1
theorem Qro {f g:Fsy} (hg:Qar g) (i:Int):(Qji (Qbj f g) i=none∧atF f i=atF g i)∨(∃ c,Qji (Qbj f g) i=some c∧nodC c=atF g i∧¬ atF f i=atF g i):=by
 cases hc:Qji (Qbj f g) i with
 | none=>
  left;refine ⟨rfl,Classical.byContradiction fun hne=>?_⟩;by_cases hi:i∈Qba f g
  ·cases hd:chgD f g i with
   | none=>
    obtain ⟨n,h1,h2⟩:=Qyx.1 hd;exact hne (h2.trans h1.symm)
   | some c=>
    have hm:c∈Qbj f g:=List.mem_filterMap.2 ⟨i,hi,hd⟩;have:=List.find?_eq_none.1 hc c hm;simp [(Qgo hd).1] at this
  ·obtain ⟨h1,h2⟩:=no_mem hi;exact hne (h1.trans h2.symm)
 | some c=>
  right;obtain ⟨c1,c2⟩:=Qt7 hc;have hne:=Za5 c2;rw [c1] at hne;obtain ⟨j,hj,hd⟩:=List.mem_filterMap.1 c2;obtain ⟨e,h1⟩:=Qgo hd;rw [c1] at e;subst e;refine ⟨c,rfl,?_,hne⟩;rcases h1 with h1 | h1
  ·unfold nodC;rw [if_pos h1.1,h1.2]
  ·obtain ⟨n1,n2,n3⟩:=Qbm hg h1.2;unfold nodC;rw [if_neg (by rw [h1.1];decide),h1.2];congr 1;unfold nodG;rw [c1,← n3]
end Go.Proofs.YtahlldgocpabjaaGreat
