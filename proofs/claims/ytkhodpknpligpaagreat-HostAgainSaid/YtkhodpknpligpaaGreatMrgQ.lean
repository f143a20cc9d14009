import Derived.Test.YtkhodpknpligpaaGreatAl
import Derived.Test.YtkhodpknpligpaaGreatMrgP
set_option linter.unusedVariables false
set_option linter.unusedSimpArgs false
namespace Go.Proofs.YtkhodpknpligpaaGreat
open Go Go.RowKit Copyhold
open Copyhold.Name (Srt insE delE getE isAt)
def KO (K:Nod→Nat):Option Nod→Nat
 | some n=>K n
 | none=>0
theorem Qev (K:Nod→Nat) (i:Int):∀ {l:List Nod},Qbm l→(l.map K).sum=((l.filter fun n=>!isNo i n).map K).sum+KO K (l.find? (isNo i))
 | [],_=>rfl
 | x :: r,h=>by
  obtain ⟨h1,h2⟩:=W1k.1 h;rw [W1e,W2k];cases hx:isNo i x with
  | true=>
   have hr:r.filter (fun n=>!isNo i n)=r:=List.filter_eq_self.2 fun y hy=>by
    have g:x.ino<y.ino:=h1 y hy;have e:x.ino=i:=by simpa [isNo] using hx
    simp [isNo];omega
   simp only [W0x,Bool.false_eq_true,if_false,hr,W1t,W1s,KO];omega
  | false=>
   have:=Qev K i h2;simp only [W0t,if_true,W1t,W1s];omega
theorem Qwz {f:Fsy} (hr:Qbm f.l) {x:Nod}:x∈f.l↔atF f x.ino=some x:=⟨Zag hr,Qdh⟩
theorem Qp5 {f g:Fsy} {i:Int} (hf:Qbm f.l) (hg:Qbm g.l) (h:∀ j,¬ j=i→atF g j=atF f j) (z:Int):nam g z+KO (namK z) (atF f i)=nam f z+KO (namK z) (atF g i):=by
 have e:(g.l.filter fun n=>!isNo i n)=f.l.filter fun n=>!isNo i n:=Qlc (List.Pairwise.filter _ hg) (List.Pairwise.filter _ hf) fun x=>by
  rw [W1l,W1l];by_cases hx:x.ino=i
  ·simp [isNo,hx]
  ·rw [Qwz hf,Qwz hg,h _ hx]
 unfold nam;rw [Qev (namK z) i hf,Qev (namK z) i hg,e];unfold atF;omega
theorem Qfb {f g:Fsy} {i:Int} (h:atF g i=atF f i):Qa4 g i=Qa4 f i:=by
 unfold Qa4;rw [at_N,at_N,h]
theorem Qmx {f:Fsy} {i:Int} (h:atF f i=none):Qa4 f i=[]:=by
 unfold Qa4;rw [(Qvu h).2];rfl
theorem Qen {f:Fsy} {i:Int} {n:Nod} (h:atF f i=some n) (hk:¬ n.kind=2∨n.l=[]):Qa4 f i=[]:=by
 unfold Qa4;rw [(Qke h).2];rcases hk with hk | hk
 ·rw [W1w hk]
 ·rw [hk];simp
theorem Qi8 {f:Fsy} {i z:Int} (h0:Qa4 f i=[]):KO (namK z) (atF f i)=0:=by
 cases hc:atF f i with
 | none=>rfl
 | some m=>
  show namK z m=0;refine Nat.eq_zero_of_not_pos fun hp=>?_;obtain ⟨q1,e,q2,q3⟩:=Qi7.1 hp;have:=Qgo hc q1 q2 q3;rw [h0] at this;cases this
theorem Qww {f g:Fsy} {i k:Int} (hr:Qbm f.l) (hgr:Qbm g.l) (hne:¬ i=k) (h:∀ j,¬ j=i→¬ j=k→atF g j=atF f j) (z:Int):nam g z+KO (namK z) (atF f i)+KO (namK z) (atF f k)=nam f z+KO (namK z) (atF g i)+KO (namK z) (atF g k):=by
 have e1:nam f z=((f.l.filter fun n=>!isNo i n).map (namK z)).sum+KO (namK z) (atF f i):=Qev (namK z) i hr;have e2:nam g z=((g.l.filter fun n=>!isNo i n).map (namK z)).sum+KO (namK z) (atF g i):=Qev (namK z) i hgr;have fa:∀ (h:Fsy) (j:Int),atF ⟨h.l.filter fun n=>!isNo i n,h.next⟩ j=if j=i then none else atF h j:=fun h j=>by
  unfold atF;show List.find? _ (List.filter _ h.l)=_;rw [List.find?_filter];by_cases hj:j=i
  ·rw [W1x hj,W10];intro x _;simp [isNo,hj]
  ·rw [W1w hj];congr 1;funext x;by_cases hx:x.ino=j
   ·simp [isNo,hx,hj]
   ·simp [isNo,hx]
 have hone:=Qp5 (f:=⟨f.l.filter fun n=>!isNo i n,f.next⟩) (g:=⟨g.l.filter fun n=>!isNo i n,g.next⟩) (i:=k) (List.Pairwise.filter _ hr) (List.Pairwise.filter _ hgr) (fun j hj=>by
  rw [fa f,fa g]
  split
  ·rfl
  ·rename_i hji;exact h j hji hj) z
 rw [fa f,fa g,W1w (fun e=>hne e.symm),W1w (fun e=>hne e.symm)] at hone;have n1:nam ⟨f.l.filter fun n=>!isNo i n,f.next⟩ z=((f.l.filter fun n=>!isNo i n).map (namK z)).sum:=rfl;have n2:nam ⟨g.l.filter fun n=>!isNo i n,g.next⟩ z=((g.l.filter fun n=>!isNo i n).map (namK z)).sum:=rfl;omega
theorem Qff {f g:Fsy} (h:∀ i z,z∈Qa4 f i→z∈Qa4 g i) {a b:Int} (hr:Reach f a b):Reach g a b:=by
 induction hr with
 | one hz=>exact .one (h _ _ hz)
 | more hy _ ih=>exact .more (h _ _ hy) ih
theorem Qxo {l:List Ent} {s:Txt} {n:Int} (he:entE l s n=0):entL l s n=l.take (posI l s)++⟨s,n⟩ :: l.drop (posI l s):=by unfold entL;rw [W1x he]
theorem Qu0 {l:List Ent} {s:Txt} {n z:Int} (he:entE l s n=0):z∈(entL l s n).map Ent.ino↔z=n∨z∈l.map Ent.ino:=by
 rw [Qxo he];have e:z∈l.map Ent.ino↔z∈((l.take (posI l s)).map Ent.ino)∨z∈((l.drop (posI l s)).map Ent.ino):=by
  rw [← W04,← W1r,W1g]
 rw [e,W1r,W04,W1t,W0y];show _∨z=n∨_↔_;constructor
 ·rintro (h | h | h)
  ·exact .inr (.inl h)
  ·exact .inl h
  ·exact .inr (.inr h)
 ·rintro (h | h | h)
  ·exact .inr (.inl h)
  ·exact .inl h
  ·exact .inr (.inr h)
theorem Qu1 {l:List Ent} {s:Txt} {n z:Int} (he:entE l s n=0):(entL l s n).countP (isE z)=l.countP (isE z)+if z=n then 1 else 0:=by
 rw [Qxo he];have e:l.countP (isE z)=(l.take (posI l s)).countP (isE z)+(l.drop (posI l s)).countP (isE z):=by
  rw [← List.countP_append,W1g]
 rw [e,List.countP_append,List.countP_cons];by_cases h:z=n
 ·have:isE z ⟨s,n⟩=true:=by unfold isE;simp [h]
  rw [this,W1x h];simp;omega
 ·have:isE z ⟨s,n⟩=false:=by unfold isE;simp;exact fun e=>h e.symm
  rw [this,W1w h];simp
theorem Zkt {l:List Ent} {s:Txt} {j:Int} (h:Srt (lI l)) (hg:getE (lI l) s=some j):∃ x,l[posI l s]?=some x∧x.ino=j∧delL l s=l.take (posI l s)++l.drop (posI l s+1):=by
 have hb:isB l s=true:=by rw [Qgp,hg];rfl
 have hlt:=Qpt h hb;refine ⟨l[posI l s],W0d hlt,?_,by unfold delL;rw [W1x hb]⟩;have:=Zdz h hb (W0d hlt);rw [← this,Qfy,hg];rfl
theorem Qwb {l:List Ent} {p:Nat} {x:Ent} (h:l[p]?=some x):l=l.take p++x :: l.drop (p+1):=by
 obtain ⟨hp,rfl⟩:=W0i.1 h;rw [← List.drop_eq_getElem_cons hp,W1g]
theorem Zes {l:List Ent} {s:Txt} {j z:Int} (h:Srt (lI l)) (hg:getE (lI l) s=some j) (hz:z∈l.map Ent.ino):z=j∨z∈(delL l s).map Ent.ino:=by
 obtain ⟨x,hx,hj,e⟩:=Zkt h hg;rw [Qwb hx,W1r,W04,W1t,W0y] at hz;rw [e,W1r,W04];rcases hz with hz | hz | hz
 ·exact .inr (.inl hz)
 ·exact .inl (hz.trans hj)
 ·exact .inr (.inr hz)
theorem Zeu {l:List Ent} {s:Txt} {j z:Int} (h:Srt (lI l)) (hg:getE (lI l) s=some j):(delL l s).countP (isE z)+(if z=j then 1 else 0)=l.countP (isE z):=by
 obtain ⟨x,hx,hj,e⟩:=Zkt h hg;have e2:l.countP (isE z)=(l.take (posI l s)).countP (isE z)+(x :: l.drop (posI l s+1)).countP (isE z):=by
  rw [← List.countP_append,← Qwb hx]
 rw [e2,e,List.countP_append,List.countP_cons];by_cases hz:z=j
 ·have:isE z x=true:=by unfold isE;simp [hz,hj]
  rw [this,W1x hz];simp;omega
 ·have:isE z x=false:=by unfold isE;simp;exact fun e=>hz (by rw [← e,hj])
  rw [this,W1w hz];simp
theorem Qu5 {l:List Ent} {s:Txt} {z:Int} (hz:z∈(delL l s).map Ent.ino):z∈l.map Ent.ino:=by
 obtain ⟨e,he,h⟩:=W1i.1 hz;exact W1i.2 ⟨e,Qqq e he,h⟩
theorem Quv {f:Fsy} {i j:Int} {d:Nod} {s:Txt} (hd:atF f i=some d) (hk:d.kind=2) (hg:getE (lI d.l) s=some j):j∈Qa4 f i:=by
 rw [Qbs hd hk];unfold getE at hg;cases hf:(lI d.l).find? (fun y=>y.1==s) with
 | none=>rw [hf] at hg;cases hg
 | some y=>
  rw [hf] at hg;have hm:=W1n hf;unfold lI at hm;obtain ⟨e,he,hy⟩:=W1i.1 hm;refine W1i.2 ⟨e,he,?_⟩;rw [← hy] at hg;exact W0c hg
theorem TreeP.put {f:Fsy} {i:Int} {n m:Nod} (T:TreeP f) (hn:atF f i=some n) (hi:m.ino=i) (hk:m.kind=n.kind) (hl:m.links=n.links) (he:m.l=n.l) (hm:nodP m):TreeP (putF f m):=by
 obtain ⟨p1,p2,p3,p4⟩:=Qiz T.rows hn hi hm;have hr:=Qah T.rows;have hkk:∀ x,Qa4 (putF f m) x=Qa4 f x:=fun x=>by
  by_cases hx:x=i
  ·subst hx;have a:atF (putF f m) x=some m:=by rw [p4,W1x rfl]
   unfold Qa4;rw [(Qke a).2,(Qke hn).2,hk,he]
  ·exact Qfb (by rw [p4,W1w hx])
 have hna:∀ z,nam (putF f m) z=nam f z:=fun z=>by
  have:=Qp5 (i:=i) hr (Qah p1) (fun j hj=>by rw [p4,W1w hj]) z;rw [p4,W1x rfl,hn] at this;simp only [KO,namK,cntE,hk,he] at this;omega
 have hat:∀ x y,atF (putF f m) x=some y→∃ y',atF f x=some y'∧y.kind=y'.kind∧y.links=y'.links:=fun x y hy=>by
  rw [p4] at hy
  split at hy
  ·rename_i hx;obtain rfl:=W0c hy;exact ⟨n,hx ▸ hn,hk,hl⟩
  ·exact ⟨y,hy,rfl,rfl⟩
 have hto:∀ x y,atF f x=some y→∃ y',atF (putF f m) x=some y'∧y'.kind=y.kind∧y'.links=y.links:=fun x y hy=>by
  rw [p4]
  split
  ·rename_i hx;subst hx;rw [hn] at hy;obtain rfl:=W0c hy;exact ⟨m,rfl,hk,hl⟩
  ·exact ⟨y,hy,rfl,rfl⟩
 refine ⟨p1,?_,fun x y hy=>?_,fun x z hz=>?_,fun x y hy hx=>?_,fun x y hy hk2 hx=>?_⟩
 ·obtain ⟨r,r1,r2,r3⟩:=T.root;obtain ⟨y,y1,y2,y3⟩:=hto 1 r r1;exact ⟨y,y1,y2.trans r2,y3.trans r3⟩
 ·obtain ⟨y',a,b,c⟩:=hat x y hy;rw [c,hna];exact T.cnt x y' a
 ·rw [hkk] at hz;obtain ⟨⟨y,hy⟩,h1⟩:=T.kid x z hz;obtain ⟨y',a,_⟩:=hto z y hy;exact ⟨⟨y',a⟩,h1⟩
 ·obtain ⟨y',a,b,c⟩:=hat x y hy;rw [c];exact T.pos x y' a hx
 ·obtain ⟨y',a,b,c⟩:=hat x y hy;obtain ⟨g1,g2⟩:=T.dir x y' a (b ▸ hk2) hx;exact ⟨c.trans g1,Qff (fun i z hz=>by rw [hkk];exact hz) g2⟩
theorem TreeP.grow {f g:Fsy} {dir i:Int} {d X:Nod} {l:List Ent} (T:TreeP f) (hg:Qat g) (hd:atF f dir=some d) (hk:d.kind=2) (hne:¬ i=dir) (hat:∀ j,atF g j=if j=i then some X else if j=dir then some (Qbj d l) else atF f j)
  (hcnt:∀ z,l.countP (isE z)=d.l.countP (isE z)+if z=i then 1 else 0) (hmem:∀ z,z∈l.map Ent.ino↔z=i∨z∈d.l.map Ent.ino) (h0:Qa4 f i=[]) (hX:¬ X.kind=2∨X.l=[]) (hXl:X.links=(nam f i:Int)+1)
  (hX2:X.kind=2→nam f i=0) (h1:¬ i=1):TreeP g:=by
 have hr:=Qah T.rows;have hgr:=Qah hg;have ai:atF g i=some X:=by rw [hat,W1x rfl]
 have ad:atF g dir=some (Qbj d l):=by rw [hat,W1w (fun e=>hne e.symm),W1x rfl]
 have ao:∀ j,¬ j=i→¬ j=dir→atF g j=atF f j:=fun j h2 h3=>by rw [hat,W1w h2,W1w h3]
 have kd:∀ z,z∈Qa4 g dir↔z=i∨z∈Qa4 f dir:=fun z=>by
  rw [Qbs ad hk,Qbs hd hk];exact hmem z
 have ki:Qa4 g i=[]:=Qen ai hX;have kg:∀ x z,z∈Qa4 g x→z∈Qa4 f x∨(x=dir∧z=i):=fun x z hz=>by
  by_cases hx:x=dir
  ·subst hx;rcases (kd z).1 hz with h | h
   ·exact .inr ⟨rfl,h⟩
   ·exact .inl h
  ·by_cases hx2:x=i
   ·subst hx2;rw [ki] at hz;cases hz
   ·rw [Qfb (ao x hx2 hx)] at hz;exact .inl hz
 have kf:∀ x z,z∈Qa4 f x→z∈Qa4 g x:=fun x z hz=>by
  by_cases hx:x=dir
  ·subst hx;exact (kd z).2 (.inr hz)
  ·by_cases hx2:x=i
   ·subst hx2;rw [h0] at hz;cases hz
   ·rw [Qfb (ao x hx2 hx)];exact hz
 have hna:∀ z,nam g z=nam f z+if z=i then 1 else 0:=fun z=>by
  have hz0:KO (namK z) (atF f i)=0:=Qi8 h0;have hzX:KO (namK z) (atF g i)=0:=Qi8 ki;have hone:=Qww hr hgr hne ao z;rw [hz0,hzX,hd,ad] at hone;have c1:KO (namK z) (some d)=d.l.countP (isE z):=W1x hk;have c2:KO (namK z) (some (Qbj d l))=l.countP (isE z):=W1x hk;rw [c1,c2,hcnt] at hone;omega
 have hdir1:¬ dir=1→Reach f 1 dir:=fun h=>T.reach hd h;refine ⟨hg,?_,fun x y hy=>?_,fun x z hz=>?_,fun x y hy hx=>?_,fun x y hy hk2 hx=>?_⟩
 ·obtain ⟨r,r1,r2,r3⟩:=T.root;by_cases hx:(1:Int)=dir
  ·rw [← hx] at hd ad;rw [hd] at r1;obtain rfl:=W0c r1;exact ⟨_,ad,r2,r3⟩
  ·exact ⟨r,(ao 1 (fun e=>h1 e.symm) hx).trans r1,r2,r3⟩
 ·rw [hna];by_cases hx:x=i
  ·subst hx;rw [ai] at hy;obtain rfl:=W0c hy;rw [W1x rfl,hXl];omega
  ·rw [W1w hx];by_cases hx2:x=dir
   ·subst hx2;rw [ad] at hy;obtain rfl:=W0c hy;exact T.cnt x d hd
   ·rw [ao x hx hx2] at hy;exact T.cnt x y hy
 ·have hex:∀ w,(∃ n,atF f w=some n)→∃ n,atF g w=some n:=fun w ⟨n,hn⟩=>by
   by_cases hw:w=i
   ·subst hw;exact ⟨_,ai⟩
   ·by_cases hw2:w=dir
    ·subst hw2;exact ⟨_,ad⟩
    ·exact ⟨n,(ao w hw hw2).trans hn⟩
  rcases kg x z hz with h | ⟨_,h⟩
  ·exact ⟨hex z (T.kid x z h).1,(T.kid x z h).2⟩
  ·subst h;exact ⟨⟨_,ai⟩,h1⟩
 ·by_cases hx3:x=i
  ·subst hx3;rw [ai] at hy;obtain rfl:=W0c hy;omega
  ·by_cases hx2:x=dir
   ·subst hx2;rw [ad] at hy;obtain rfl:=W0c hy;exact T.pos x d hd hx
   ·rw [ao x hx3 hx2] at hy;exact T.pos x y hy hx
 ·by_cases hx3:x=i
  ·subst hx3;rw [ai] at hy;obtain rfl:=W0c hy;have:=hX2 hk2;refine ⟨by omega,?_⟩;have hkid:x∈Qa4 g dir:=(kd x).2 (.inl rfl);by_cases hdd:dir=1
   ·rw [hdd] at hkid;exact .one hkid
   ·exact (Qff kf (hdir1 hdd)).snoc hkid
  ·by_cases hx2:x=dir
   ·subst hx2;rw [ad] at hy;obtain rfl:=W0c hy;obtain ⟨g1,g2⟩:=T.dir x d hd hk hx;exact ⟨g1,Qff kf g2⟩
   ·rw [ao x hx3 hx2] at hy;obtain ⟨g1,g2⟩:=T.dir x y hy hk2 hx;exact ⟨g1,Qff kf g2⟩
theorem TreeP.shrink {f g:Fsy} {dir i:Int} {d n:Nod} {l:List Ent} (T:TreeP f) (hg:Qat g) (hd:atF f dir=some d) (hk:d.kind=2) (hne:¬ i=dir) (hn:atF f i=some n) (hat:∀ j,atF g j=if j=i then (if n.links-1<1 then none else some (Qkd n)) else if j=dir then some (Qbj d l) else atF f j)
  (hcnt:∀ z,l.countP (isE z)+(if z=i then 1 else 0)=d.l.countP (isE z)) (hm1:∀ z,z∈l.map Ent.ino→z∈d.l.map Ent.ino) (hm2:∀ z,z∈d.l.map Ent.ino→z=i∨z∈l.map Ent.ino) (h0:Qa4 f i=[]) (h1:¬ i=1):TreeP g:=by
 have hr:=Qah T.rows;have hgr:=Qah hg;have ad:atF g dir=some (Qbj d l):=by rw [hat,W1w (fun e=>hne e.symm),W1x rfl]
 have ao:∀ j,¬ j=i→¬ j=dir→atF g j=atF f j:=fun j h2 h3=>by rw [hat,W1w h2,W1w h3]
 have ki:Qa4 g i=[]:=by
  have h2:=hat i;rw [W1x rfl] at h2
  split at h2
  ·exact Qmx h2
  ·refine Qen h2 ?_;by_cases hk2:n.kind=2
   ·right;rw [Qbs hn hk2] at h0;show n.l=[]
    exact List.map_eq_nil_iff.1 h0
   ·exact .inl hk2
 have kd:∀ z,z∈Qa4 g dir→z∈Qa4 f dir:=fun z hz=>by
  rw [Qbs ad hk] at hz;rw [Qbs hd hk];exact hm1 z hz
 have kg:∀ x z,z∈Qa4 g x→z∈Qa4 f x:=fun x z hz=>by
  by_cases hx:x=dir
  ·subst hx;exact kd z hz
  ·by_cases hx2:x=i
   ·subst hx2;rw [ki] at hz;cases hz
   ·rw [Qfb (ao x hx2 hx)] at hz;exact hz
 have kf:∀ x z,z∈Qa4 f x→z=i∨z∈Qa4 g x:=fun x z hz=>by
  by_cases hx:x=dir
  ·subst hx;rw [Qbs hd hk] at hz;rw [Qbs ad hk];exact hm2 z hz
  ·by_cases hx2:x=i
   ·subst hx2;rw [h0] at hz;cases hz
   ·rw [Qfb (ao x hx2 hx)];exact .inr hz
 have hna:∀ z,nam g z+(if z=i then 1 else 0)=nam f z:=fun z=>by
  have hz0:KO (namK z) (atF f i)=0:=Qi8 h0;have hzX:KO (namK z) (atF g i)=0:=Qi8 ki;have hone:=Qww hr hgr hne ao z;rw [hz0,hzX,hd,ad] at hone;have c1:KO (namK z) (some d)=d.l.countP (isE z):=W1x hk;have c2:KO (namK z) (some (Qbj d l))=l.countP (isE z):=W1x hk;rw [c1,c2,← hcnt] at hone;omega
 have hrch:∀ {a b:Int},Reach f a b→¬ b=i→Reach g a b:=fun {a b} hab=>by
  induction hab with
  | one hz=>exact fun hb=>.one ((kf _ _ hz).resolve_left hb)
  | @more p y z hy hyz ih=>
   refine fun hb=>.more ((kf _ _ hy).resolve_left fun e=>?_) (ih hb);obtain ⟨w,hw⟩:=Qfx hyz;rw [e,h0] at hw;cases hw
 have ai:∀ {y},atF g i=some y→y=Qkd n∧¬ n.links-1<1:=fun {y} hy=>by
  have h2:=hat i;rw [W1x rfl,hy] at h2
  split at h2
  ·cases h2
  ·rename_i hl;exact ⟨W0c h2,hl⟩
 refine ⟨hg,?_,fun x y hy=>?_,fun x z hz=>?_,fun x y hy hx=>?_,fun x y hy hk2 hx=>?_⟩
 ·obtain ⟨r,r1,r2,r3⟩:=T.root;by_cases hx:(1:Int)=dir
  ·rw [← hx] at hd ad;rw [hd] at r1;obtain rfl:=W0c r1;exact ⟨_,ad,r2,r3⟩
  ·exact ⟨r,(ao 1 (fun e=>h1 e.symm) hx).trans r1,r2,r3⟩
 ·have hq:=hna x;by_cases hx:x=i
  ·subst hx;obtain ⟨rfl,hl⟩:=ai hy;rw [W1x rfl] at hq;have:=T.cnt x n hn;show n.links-1=_;omega
  ·rw [W1w hx] at hq;by_cases hx2:x=dir
   ·subst hx2;rw [ad] at hy;obtain rfl:=W0c hy;have:d.links=_:=T.cnt x d hd;show d.links=_;omega
   ·rw [ao x hx hx2] at hy;have:=T.cnt x y hy;omega
 ·have hzf:=T.kid x z (kg x z hz);refine ⟨?_,hzf.2⟩;by_cases hzi:z=i
  ·subst hzi;have hp:=(Qp4 hgr).2 ⟨x,hz⟩;have hq:=hna z;rw [W1x rfl] at hq;have:=T.cnt z n hn;exact ⟨Qkd n,by rw [hat,W1x rfl,W1w (by omega)]⟩
  ·by_cases hz2:z=dir
   ·subst hz2;exact ⟨_,ad⟩
   ·obtain ⟨w,hw⟩:=hzf.1;exact ⟨w,(ao z hzi hz2).trans hw⟩
 ·by_cases hx3:x=i
  ·subst hx3;obtain ⟨rfl,hl⟩:=ai hy;show 1≤n.links-1;omega
  ·by_cases hx2:x=dir
   ·subst hx2;rw [ad] at hy;obtain rfl:=W0c hy;exact T.pos x d hd hx
   ·rw [ao x hx3 hx2] at hy;exact T.pos x y hy hx
 ·by_cases hx3:x=i
  ·subst hx3;obtain ⟨rfl,hl⟩:=ai hy;have:=(T.dir x n hn hk2 hx).1;omega
  ·by_cases hx2:x=dir
   ·subst hx2;rw [ad] at hy;obtain rfl:=W0c hy;obtain ⟨g1,g2⟩:=T.dir x d hd hk hx;exact ⟨g1,hrch g2 hx3⟩
   ·rw [ao x hx3 hx2] at hy;obtain ⟨g1,g2⟩:=T.dir x y hy hk2 hx;exact ⟨g1,hrch g2 hx3⟩
theorem TreeP.hop {f f1 g:Fsy} {a b j:Int} {d e n:Nod} {l1 l2:List Ent} (T:TreeP f) (h1:Qat f1) (hg:Qat g) (hd:atF f a=some d) (hk:d.kind=2) (he:atF f1 b=some e) (hke:e.kind=2) (hn:atF f j=some n)
  (at1:∀ x,atF f1 x=if x=a then some (Qbj d l1) else atF f x) (at2:∀ x,atF g x=if x=b then some (Qbj e l2) else atF f1 x)
  (c1:∀ z,l1.countP (isE z)+(if z=j then 1 else 0)=d.l.countP (isE z)) (c2:∀ z,l2.countP (isE z)=e.l.countP (isE z)+if z=j then 1 else 0)
  (m1:∀ z,z∈l1.map Ent.ino→z∈d.l.map Ent.ino) (m2:∀ z,z∈d.l.map Ent.ino→z=j∨z∈l1.map Ent.ino) (m3:∀ z,z∈l2.map Ent.ino↔z=j∨z∈e.l.map Ent.ino)
  (hja:j∈Qa4 f a) (hbj:¬ b=j) (hjb:¬ Reach f j b):TreeP g:=by
 have hr:=Qah T.rows;have hr1:=Qah h1;have hgr:=Qah hg;have a1:atF f1 a=some (Qbj d l1):=by rw [at1,W1x rfl]
 have a2:atF g b=some (Qbj e l2):=by rw [at2,W1x rfl]
 have k1:∀ x z,z∈Qa4 f1 x→z∈Qa4 f x:=fun x z hz=>by
  by_cases hx:x=a
  ·subst hx;rw [Qbs a1 hk] at hz;rw [Qbs hd hk];exact m1 z hz
  ·rw [Qfb (f:=f) (g:=f1) (by rw [at1,W1w hx])] at hz;exact hz
 have k2:∀ x z,z∈Qa4 f x→z∈Qa4 f1 x∨(x=a∧z=j):=fun x z hz=>by
  by_cases hx:x=a
  ·subst hx;rw [Qbs hd hk] at hz;rw [Qbs a1 hk];rcases m2 z hz with h | h
   ·exact .inr ⟨rfl,h⟩
   ·exact .inl h
  ·rw [Qfb (f:=f) (g:=f1) (by rw [at1,W1w hx])];exact .inl hz
 have k3:∀ x z,z∈Qa4 g x→z∈Qa4 f1 x∨(x=b∧z=j):=fun x z hz=>by
  by_cases hx:x=b
  ·subst hx;rw [Qbs a2 hke] at hz;rw [Qbs he hke];rcases (m3 z).1 hz with h | h
   ·exact .inr ⟨rfl,h⟩
   ·exact .inl h
  ·rw [Qfb (f:=f1) (g:=g) (by rw [at2,W1w hx])] at hz;exact .inl hz
 have k4:∀ x z,z∈Qa4 f1 x→z∈Qa4 g x:=fun x z hz=>by
  by_cases hx:x=b
  ·subst hx;rw [Qbs he hke] at hz;rw [Qbs a2 hke];exact (m3 z).2 (.inr hz)
  ·rw [Qfb (f:=f1) (g:=g) (by rw [at2,W1w hx])];exact hz
 have kj:j∈Qa4 g b:=by rw [Qbs a2 hke];exact (m3 j).2 (.inl rfl)
 have kfg:∀ x z,z∈Qa4 f x→z∈Qa4 g x∨(x=a∧z=j):=fun x z hz=>(k2 x z hz).imp (k4 x z) id;have hna:∀ z,nam g z=nam f z:=fun z=>by
  have q1:=Qp5 (i:=a) hr hr1 (fun j hj=>by rw [at1,W1w hj]) z;have q2:=Qp5 (i:=b) hr1 hgr (fun j hj=>by rw [at2,W1w hj]) z;rw [hd,a1] at q1;rw [he,a2] at q2;have e1:KO (namK z) (some d)=d.l.countP (isE z):=W1x hk;have e2:KO (namK z) (some (Qbj d l1))=l1.countP (isE z):=W1x hk;have e3:KO (namK z) (some e)=e.l.countP (isE z):=W1x hke;have e4:KO (namK z) (some (Qbj e l2))=l2.countP (isE z):=W1x hke;rw [e1,e2] at q1;rw [e3,e4] at q2;have:=c1 z;have:=c2 z;omega
 have hto1:∀ x y,atF f x=some y→∃ y',atF f1 x=some y'∧y'.kind=y.kind∧y'.links=y.links:=fun x y hy=>by
  rw [at1]
  split
  ·rename_i hx;subst hx;rw [hd] at hy;obtain rfl:=W0c hy;exact ⟨_,rfl,rfl,rfl⟩
  ·exact ⟨y,hy,rfl,rfl⟩
 have hto2:∀ x y,atF f1 x=some y→∃ y',atF g x=some y'∧y'.kind=y.kind∧y'.links=y.links:=fun x y hy=>by
  rw [at2]
  split
  ·rename_i hx;subst hx;rw [he] at hy;obtain rfl:=W0c hy;exact ⟨_,rfl,rfl,rfl⟩
  ·exact ⟨y,hy,rfl,rfl⟩
 have hto:∀ x y,atF f x=some y→∃ y',atF g x=some y'∧y'.kind=y.kind∧y'.links=y.links:=fun x y hy=>by
  obtain ⟨y1,b1,b2,b3⟩:=hto1 x y hy;obtain ⟨y2,d1,d2,d3⟩:=hto2 x y1 b1;exact ⟨y2,d1,d2.trans b2,d3.trans b3⟩
 have hof:∀ x y,atF g x=some y→∃ y',atF f x=some y'∧y.kind=y'.kind∧y.links=y'.links:=fun x y hy=>by
  cases hc:atF f x with
  | some y'=>
   obtain ⟨y2,d1,d2,d3⟩:=hto x y' hc;rw [d1] at hy;obtain rfl:=W0c hy;exact ⟨y',rfl,d2,d3⟩
  | none=>
   have hxa:¬ x=a:=fun h=>by rw [h,hd] at hc;cases hc
   have hf1:atF f1 x=none:=by rw [at1,W1w hxa];exact hc
   have hxb:¬ x=b:=fun h=>by rw [h,he] at hf1;cases hf1
   rw [at2,W1w hxb,hf1] at hy;cases hy
 have lem:∀ {p q:Int},Reach f p q→Reach g p q∨((p=a∨Reach f p a)∧(q=j∨Reach f j q)):=fun {p q} hpq=>by
  induction hpq with
  | one hz=>
   rcases kfg _ _ hz with h | ⟨h,h2⟩
   ·exact .inl (.one h)
   ·exact .inr ⟨.inl h,.inl h2⟩
  | @more i y z hy hyz ih=>
   rcases ih with ih | ⟨ih,ih2⟩
   ·rcases kfg _ _ hy with h | ⟨h,h2⟩
    ·exact .inl (.more h ih)
    ·exact .inr ⟨.inl h,.inr (h2 ▸ hyz)⟩
   ·refine .inr ⟨.inr ?_,ih2⟩;rcases ih with rfl | ih
    ·exact .one hy
    ·exact .more hy ih
 obtain ⟨e',he1,he2,he3⟩:∃ e',atF f b=some e'∧e'.kind=2∧True:=by
  obtain ⟨y,hy,hyk,_⟩:=hof b _ a2;exact ⟨y,hy,hyk.symm.trans hke,trivial⟩
 have hjr:¬ b=1→Reach g 1 b:=fun hb1=>by
  rcases lem (T.reach he1 hb1) with h | ⟨_,h | h⟩
  ·exact h
  ·exact absurd h hbj
  ·exact absurd h hjb
 have h1j:Reach g 1 j:=by
  by_cases hb1:b=1
  ·rw [hb1] at kj;exact .one kj
  ·exact (hjr hb1).snoc kj
 refine ⟨hg,?_,fun x y hy=>?_,fun x z hz=>?_,fun x y hy hx=>?_,fun x y hy hk2 hx=>?_⟩
 ·obtain ⟨r,r1,r2,r3⟩:=T.root;obtain ⟨y,y1,y2,y3⟩:=hto 1 r r1;exact ⟨y,y1,y2.trans r2,y3.trans r3⟩
 ·obtain ⟨y',p1,p2,p3⟩:=hof x y hy;rw [p3,hna];exact T.cnt x y' p1
 ·have hh:∀ w,(∃ n,atF f w=some n)→∃ n,atF g w=some n:=fun w ⟨n,hn⟩=>by
   obtain ⟨y,y1,_⟩:=hto w n hn;exact ⟨y,y1⟩
  rcases k3 x z hz with h | ⟨_,h⟩
  ·have:=T.kid x z (k1 x z h);exact ⟨hh z this.1,this.2⟩
  ·rw [h];have:=T.kid a j hja;exact ⟨hh j this.1,this.2⟩
 ·obtain ⟨y',p1,p2,p3⟩:=hof x y hy;rw [p3];exact T.pos x y' p1 hx
 ·obtain ⟨y',p1,p2,p3⟩:=hof x y hy;obtain ⟨g1,g2⟩:=T.dir x y' p1 (p2 ▸ hk2) hx;refine ⟨p3.trans g1,?_⟩;rcases lem g2 with h | ⟨_,h | h⟩
  ·exact h
  ·rw [h];exact h1j
  ·rcases lem h with h2 | ⟨h2,_⟩
   ·exact h1j.trans h2
   ·rcases h2 with rfl | h2
    ·exact absurd (.one hja) T.acyc
    ·exact absurd (h2.snoc hja) T.acyc
end Go.Proofs.YtkhodpknpligpaaGreat

namespace Go.Proofs.YtkhodpknpligpaaGreat
open Go Go.RowKit Copyhold
open Copyhold.Name (Srt insE delE getE isAt)
structure Goes (g:Fsy) (a:Int) (s:Txt) (b:Int) (t:Txt) (d e:Nod) (j:Int) (n:Nod):Prop where
 ok:OkF g
 rows:Qat g
 dir:atF g a=some d
 kind:d.kind=2
 chk:Qaj s=0
 ent:getE (lI d.l) s=some j
 to:atF g b=some e
 kinde:e.kind=2
 chkt:Qaj t=0
 none:getE (lI e.l) t=.none
 node:atF g j=some n
 room:¬ b=a→e.l.length<256
noncomputable def Goes.mid {g:Fsy} {a:Int} {s:Txt} {b:Int} {t:Txt} {d e:Nod} {j:Int} {n:Nod} (_:Goes g a s b t d e j n):Nod:=if b=a then Qbj d (delL d.l s) else e
structure Gone2 (g:Fsy) (a:Int) (s:Txt) (b:Int) (t:Txt) (d:Nod) (j:Int) (m:Nod):Prop where
 ok:OkF (enterF (leaveF g a s) b t j)
 rows:Qat (enterF (leaveF g a s) b t j)
 next:(enterF (leaveF g a s) b t j).next=g.next
 at0:∀ x,atF (leaveF g a s) x=if x=a then some (Qbj d (delL d.l s)) else atF g x
 rows0:Qat (leaveF g a s)
 ok0:OkF (leaveF g a s)
 next0:(leaveF g a s).next=g.next
 at1:∀ x,atF (enterF (leaveF g a s) b t j) x=if x=b then some (Qbj m (entL m.l t j)) else atF (leaveF g a s) x
 mid:atF (leaveF g a s) b=some m
 kind:m.kind=2
 mis:isB m.l t=false
 ment:entE m.l t j=0
 look:Qb8 (enterF (leaveF g a s) b t j) b t=0
 lookN:atF (enterF (leaveF g a s) b t j) j=some (lookN (enterF (leaveF g a s) b t j) b t)
 gone:Qb8 (enterF (leaveF g a s) b t j) a s=6
theorem Goes.go {g:Fsy} {a:Int} {s:Txt} {b:Int} {t:Txt} {d e:Nod} {j:Int} {n:Nod} (G:Goes g a s b t d e j n) (ht:t.length≤1000000):Gone2 g a s b t d j G.mid:=by
 obtain ⟨l1,l2,l3,l4,l5⟩:=Qfm (s:=s) G.ok G.rows G.dir G.kind;have hrow:=(Qdr (Qbf G.rows G.dir).1 G.kind).2;have hs:=Qc4 hrow;have hlen:=hrow.1;have hdl:=Qlq hs G.ent;have hm:atF (leaveF g a s) b=some G.mid:=by
  rw [l5];unfold Goes.mid
  split
  ·rfl
  ·exact G.to
 have hk:G.mid.kind=2:=by
  unfold Goes.mid
  split
  ·exact G.kind
  ·exact G.kinde
 have hde:b=a→d=e:=fun h=>by
  have h1:=G.dir;rw [← h,G.to] at h1;exact (W0c h1).symm
 have hg:getE (lI G.mid.l) t=.none:=by
  unfold Goes.mid
  split
  ·rename_i h;show getE (lI (delL d.l s)) t=_;rw [get_del hs]
   split
   ·rfl
   ·rw [hde h];exact G.none
  ·exact G.none
 have hb:isB G.mid.l t=false:=by rw [Qgp,hg];rfl
 have hml:G.mid.l.length<256:=by
  unfold Goes.mid
  split
  ·show (delL d.l s).length<256;omega
  ·rename_i h;exact G.room h
 obtain ⟨n1,n2,n3⟩:=Qbf G.rows G.node;have hj1:1≤j:=by have:=n1.1;omega
 have hj2:I64 j:=by have:=(G.ok.2.2 n (Qdh G.node)).1;rw [n3] at this;exact this
 obtain ⟨e1,e2,e3,e4,e5⟩:=Qsu l1 l2 hm hk G.chkt ht hj1 hj2 hb hml;have hmrow:=(Qdr (Qbf l2 hm).1 hk).2;have he0:=Qdg (n:=j) G.chkt hj1 hb hml;have hst:b=a→¬ s=t:=fun h h2=>by
  have h3:=G.ent;rw [hde h,h2,G.none] at h3;cases h3
 have hy:∃ y,atF (enterF (leaveF g a s) b t j) j=some y:=by
  rw [e5]
  split
  ·exact ⟨_,rfl⟩
  ·rw [l5]
   split
   ·exact ⟨_,rfl⟩
   ·exact ⟨_,G.node⟩
 obtain ⟨y,hy⟩:=hy;have hbb:atF (enterF (leaveF g a s) b t j) b=some (Qbj G.mid (entL G.mid.l t j)):=by rw [e5,W1x rfl]
 have hget:getE (lI (Qbj G.mid (entL G.mid.l t j)).l) t=some j:=by
  show getE (lI (entL G.mid.l t j)) t=_;rw [Qqf (Qc4 hmrow) he0 hb,W1x rfl]
 obtain ⟨k1,k2⟩:=Qj3 hbb hk G.chkt hget hy;refine ⟨e1,e2,by rw [e4,l4],l5,l2,l1,l4,e5,hm,hk,hb,he0,k1,by rw [k2];exact hy,?_⟩;by_cases h:b=a
 ·refine Qmq (d:=Qbj G.mid (entL G.mid.l t j)) e2 (by rw [e5,W1x h.symm]) hk G.chk ?_;show getE (lI (entL G.mid.l t j)) s=_;rw [Qqf (Qc4 hmrow) he0 hb,W1w (hst h)];unfold Goes.mid;rw [W1x h];show getE (lI (delL d.l s)) s=_;rw [get_del hs,W1x rfl]
 ·refine Qmq (d:=Qbj d (delL d.l s)) e2 (by rw [e5,W1w (fun e=>h e.symm),l5,W1x rfl]) G.kind G.chk ?_;show getE (lI (delL d.l s)) s=_;rw [get_del hs,W1x rfl]
theorem Goes.back {g:Fsy} {a:Int} {s:Txt} {b:Int} {t:Txt} {d e:Nod} {j:Int} {n:Nod} (G:Goes g a s b t d e j n) (ht:t.length≤1000000) (hs0:s.length≤1000000) (T:TreeP g) (hw:Qca g b n=false) :
  Qdt (enterF (leaveF g a s) b t j) b t a s=0∧movF (enterF (leaveF g a s) b t j) b t a s=g:=by
 have Z:=G.go ht;have hrow:=(Qdr (Qbf G.rows G.dir).1 G.kind).2;have hs:=Qc4 hrow;have hnj:=Qei G.node;have hkid:j∈Qa4 g a:=by
  obtain ⟨x,hx,_,hi⟩:=Qks hs G.ent;exact Qgo G.dir G.kind hx hi
 have hja:¬ j=a:=fun h=>T.acyc (w:=a) (.one (by rw [h] at hkid;exact hkid));have hjb:¬ j=b:=fun h=>by
  have h1:=G.node;rw [h,G.to] at h1;have h2:=W0c h1;unfold Qca at hw;rw [← h2,G.kinde,h2,hnj,h] at hw;simp at hw
 have hyn:lookN (enterF (leaveF g a s) b t j) b t=n:=by
  have h1:=Z.lookN;rw [Z.at1,W1w hjb,Z.at0,W1w hja,G.node] at h1;exact (W0c h1).symm
 have hmid:∀ x∈G.mid.l,x.ino∈Qa4 g b:=fun x hx=>by
  unfold Goes.mid at hx
  split at hx
  ·rename_i h;rw [h];exact Qgo G.dir G.kind (Qqq x hx) rfl
  ·exact Qgo G.to G.kinde hx rfl
 have hkids:∀ p z,z∈Qa4 (enterF (leaveF g a s) b t j) p→z∈Qa4 g p∨z=j:=fun p z hz=>by
  obtain ⟨d',hd',hk',x,hx,hxz⟩:=Qd8 hz;rw [Z.at1] at hd'
  split at hd'
  ·rename_i h;obtain rfl:=W0c hd';rcases Zed x hx with rfl | hx
   ·exact .inr hxz.symm
   ·left;rw [h,← hxz];exact hmid x hx
  ·rw [Z.at0] at hd'
   split at hd'
   ·rename_i h;obtain rfl:=W0c hd';left;rw [h];exact Qgo G.dir G.kind (Qqq x hx) hxz
   ·exact .inl (Qgo hd' hk' hx hxz)
 have hreach:∀ p w,Reach (enterF (leaveF g a s) b t j) p w→(p=j∨Reach g j p)→(w=j∨Reach g j w):=by
  have step:∀ p z,z∈Qa4 (enterF (leaveF g a s) b t j) p→(p=j∨Reach g j p)→(z=j∨Reach g j z):=fun p z hz hp=>by
   rcases hkids p z hz with h | h
   ·rcases hp with hp | hp
    ·rw [hp] at h;exact .inr (.one h)
    ·exact .inr (hp.snoc h)
   ·exact .inl h
  intro p w h
  induction h with
  | one h=>exact step _ _ h
  | more h _ ih=>exact fun hp=>ih (step _ _ h hp)
 have hwi:Qca (enterF (leaveF g a s) b t j) a n=false:=by
  unfold Qca;rw [hnj];by_cases hk:n.kind=2
  ·rw [show (a==j)=false from by simpa using fun h=>hja h.symm];cases hb:hasB (Qeh (enterF (leaveF g a s) b t j) j) a with
   | false=>simp
   | true=>
    exfalso;rcases hreach j a (Qro.1 hb) (.inl rfl) with h | h
    ·exact hja h.symm
    ·exact T.acyc (h.snoc hkid)
  ·simp [hk]
 have hda:∃ d3,atF (enterF (leaveF g a s) b t j) a=some d3∧d3.kind=2∧(¬ a=b→d3.l.length<256):=by
  rw [Z.at1];by_cases h:a=b
  ·rw [W1x h];exact ⟨_,rfl,Z.kind,fun h2=>absurd h h2⟩
  ·rw [W1w h,Z.at0,W1x rfl];refine ⟨_,rfl,G.kind,fun _=>?_⟩;show (delL d.l s).length<256;have:=Qlq hs G.ent;have:=hrow.1;omega
 obtain ⟨d3,hd3,hk3,hl3⟩:=hda;obtain ⟨q1,q2⟩:=Qsv hd3 hk3;have h1:mov1 (enterF (leaveF g a s) b t j) b t a s=0:=by
  unfold mov1;rw [Zkj,W1x Z.look,W1x q1,W1x G.chk,hyn,hwi];rfl
 have hB:movB (enterF (leaveF g a s) b t j) a s=false:=by
  unfold movB;rw [q2,Qgp];cases hg:getE (lI d3.l) s with
  | none=>rfl
  | some i=>
   exfalso;have hmem:=Qks (Qc4 (Qdr (Qbf Z.rows hd3).1 hk3).2) hg;obtain ⟨x,hx,_,hxi⟩:=hmem;have hkz:=Qgo hd3 hk3 hx hxi;have hat:∃ y,atF (enterF (leaveF g a s) b t j) i=some y:=by
    rcases hkids a i hkz with h | h
    ·obtain ⟨⟨y,hy⟩,_⟩:=T.kid a i h;rw [Z.at1]
     split
     ·exact ⟨_,rfl⟩
     ·rw [Z.at0]
      split
      ·exact ⟨_,rfl⟩
      ·exact ⟨_,hy⟩
    ·rw [h];exact ⟨_,Z.lookN⟩
   obtain ⟨y,hy⟩:=hat;have:=(Qj3 hd3 hk3 G.chk hg hy).1;rw [Z.gone] at this;cases this
 have h2:mov2 (enterF (leaveF g a s) b t j) b t a s=0:=by
  unfold mov2;rw [W1x hB,Qts (by decide),q2];by_cases h:a=b
  ·simp [h]
  ·have:=hl3 h;have e:decide ((d3.l.length:Int)≥256)=false:=decide_eq_false (by omega);rw [e];simp
 refine ⟨by unfold Qdt;rw [W1x h1,h2],?_⟩;unfold movF;rw [W1x h1,W1w (fun h=>by rw [hB] at h;cases h.1),W1x h2,hB,hyn];unfold mov0;rw [W1w (by decide),hnj];have hbb:atF (enterF (leaveF g a s) b t j) b=some (Qbj G.mid (entL G.mid.l t j)):=by rw [Z.at1,W1x rfl]
 obtain ⟨p1,p2,p3,p4,p5⟩:=Qfm (s:=t) Z.ok Z.rows hbb Z.kind;have hback:leaveF (enterF (leaveF g a s) b t j) b t=leaveF g a s:=by
  refine Quw (Qah p2) (Qah Z.rows0) (fun x=>?_) (by rw [p4,Z.next,Z.next0]);rw [p5];by_cases h:x=b
  ·rw [W1x h,h,Z.mid];show some (Qbj _ (delL (entL G.mid.l t j) t))=_;have hsm:=Qc4 (Qdr (Qbf Z.rows0 Z.mid).1 Z.kind).2;rw [Zet hsm Z.ment Z.mis];rfl
  ·rw [W1w h,Z.at1,W1w h]
 rw [hback];have haa:atF (leaveF g a s) a=some (Qbj d (delL d.l s)):=by rw [Z.at0,W1x rfl]
 rw [Qdq haa];obtain ⟨n1,n2,n3⟩:=Qbf G.rows G.node;show setL _ _ (entL (delL d.l s) s j)=g;rw [Zmj hrow G.chk (by have:=n1.1;omega) G.ent];obtain ⟨s1,s2,s3,s4⟩:=Qew Z.rows0 haa G.kind hrow;refine Quw (Qah s1) (Qah G.rows) (fun x=>?_) (by rw [s3,Z.next0]);rw [s4];by_cases h:x=a
 ·rw [W1x h,h,G.dir];rfl
 ·rw [W1w h,Z.at0,W1w h]
end Go.Proofs.YtkhodpknpligpaaGreat

namespace Go.Proofs.YtkhodpknpligpaaGreat
open Go Go.RowKit Copyhold
open Copyhold.Name (Srt insE delE getE isAt)
theorem Za4 (K:Nod→Nat) {f g:Fsy} {i:Int} (hf:Qbm f.l) (hg:Qbm g.l) (h:∀ j,¬ j=i→atF g j=atF f j):(g.l.map K).sum+KO K (atF f i)=(f.l.map K).sum+KO K (atF g i):=by
 have e:(g.l.filter fun n=>!isNo i n)=f.l.filter fun n=>!isNo i n:=Qlc (List.Pairwise.filter _ hg) (List.Pairwise.filter _ hf) fun x=>by
  rw [W1l,W1l];by_cases hx:x.ino=i
  ·simp [isNo,hx]
  ·rw [Qwz hf,Qwz hg,h _ hx]
 rw [Qev K i hf,Qev K i hg,e];unfold atF;omega
def wK (n:Nod):Nat:=1+n.l.length
def wF (f:Fsy):Nat:=(f.l.map wK).sum
theorem Zgf (f:Fsy):wF f=f.l.length+(f.l.map wN).sum:=by
 unfold wF
 induction f.l with
 | nil=>rfl
 | cons x r ih=>
  simp only [W1t,W1s,W0b];rw [ih];have:wK x=1+wN x:=rfl;omega
theorem Zap {f:Fsy} {n:Nod} (hr:Qbm f.l):wF (putF f n)+KO wK (atF f n.ino)=wF f+wK n:=by
 have:=Za4 wK (i:=n.ino) hr (Qhk (n:=n) hr) (fun j hj=>by rw [Qnr hr,W1w hj]);rw [Qnr hr,W1x rfl] at this;exact this
theorem Zao {f:Fsy} {i:Int} {d:Nod} {l:List Ent} (hr:Qbm f.l) (hd:atF f i=some d):wF (setL f d l)+d.l.length=wF f+l.length:=by
 have:=Zap (n:=Qbj d l) hr;rw [show (Qbj d l).ino=i from (show d.ino=i from Qei hd),hd] at this;have e1:KO wK (some d)=1+d.l.length:=rfl;have e2:wK (Qbj d l)=1+l.length:=rfl;unfold setL;omega
theorem w_out {f:Fsy} {i:Int} (hr:Qbm f.l) (h2:Qbm (outF f i).l):wF (outF f i)≤wF f:=by
 have:=Za4 wK (i:=i) hr h2 (fun j hj=>by rw [Qx5 hr,W1w hj]);rw [Qx5 hr,W1x rfl] at this;have e:KO wK none=0:=rfl;unfold wF;omega
structure Kept (f g:Fsy):Prop where
 ok:OkF g
 tree:TreeP g
 next:f.next≤g.next∧g.next≤f.next+1
 few:wF g≤wF f+2
theorem Kept.self {f:Fsy} (okf:OkF f) (T:TreeP f):Kept f f:=⟨okf,T,⟨W1q _,by omega⟩,by omega⟩
theorem Zh5 {f:Fsy} {dir:Int} {s:Txt} {n:Nod} (okf:OkF f) (T:TreeP f) (okn:OkN n) (hs:s.length≤1000000) (hx:f.next<4611686018427387904) (he:Qbq f dir s n=0):Kept f (addF f dir s (addN f n)):=by
 have hp:=T.rows;have hr:=Qah hp;obtain ⟨b1,_⟩:=Qpa hp he;have ho:=Zk0 okf hp okn hs he hx;obtain ⟨d,A⟩:=Qq1 he;obtain ⟨d1,d2,d3⟩:=Qbf hp A.dir;have hrow:=(Qdr d1 A.kind).2;have hn1:1≤f.next:=by have:=d1.1;omega
 have he0:=Qdg (n:=f.next) A.check hn1 A.away A.fewd;obtain ⟨s1,s2,s3,s4⟩:=Qew hp A.dir A.kind (Qqo hrow A.check hn1 A.away A.fewd);have hg:addF f dir s (addN f n)=putF (setL f d (entL d.l s f.next)) (Qbj (addN f n) []):=by
  unfold addF;rw [show (addN f n).ino=f.next from rfl,Qdq A.dir]
 have hat:∀ j,atF (addF f dir s (addN f n)) j=if j=f.next then some (Qbj (addN f n) []) else if j=dir then some (Qbj d (entL d.l s f.next)) else atF f j:=fun j=>by
  rw [hg,Qnr (Qah s1),s4];rfl
 have h0:=Zft hp;have hnm:nam f f.next=0:=Nat.eq_zero_of_not_pos fun h=>by
  obtain ⟨q,hq⟩:=(Qp4 hr).1 h;obtain ⟨⟨m,hm⟩,_⟩:=T.kid q _ hq;rw [h0] at hm;cases hm
 refine ⟨ho,T.grow b1 A.dir A.kind (fun e=>by omega) hat (fun z=>Qu1 he0) (fun z=>Qu0 he0) (Qmx h0) (.inr rfl) (by rw [hnm];rfl) (fun _=>hnm) (fun e=>?_),?_,?_⟩
 ·obtain ⟨r,hr1,_⟩:=T.root;have:=Qbf hp hr1;omega
 ·have hn:(addF f dir s (addN f n)).next=f.next+1:=by
   rw [hg,Qmd]
   ·rw [s3]
   ·rw [s3];rfl
  omega
 ·rw [hg];have w1:=Zao (l:=entL d.l s f.next) hr A.dir;have w2:=Zap (n:=Qbj (addN f n) []) (Qah s1);have:=Qne (l:=d.l) (s:=s) (n:=f.next);have e2:wK (Qbj (addN f n) [])=1:=rfl;omega
theorem Zdc {f:Fsy} {dir:Int} {s:Txt} {i:Int} (okf:OkF f) (T:TreeP f) (hs:s.length≤1000000) (he:Qdy f dir s i=0):Kept f (Qm3 f dir s i):=by
 have hp:=T.rows;have hr:=Qah hp;obtain ⟨d,n,G⟩:=Zib he;obtain ⟨n1,n2,n3⟩:=Qbf hp G.node;have okn:=okf.2.2 n (Qdh G.node);have hi1:1≤i:=by have:=n1.1;omega
 have hi2:I64 i:=n3 ▸ okn.1;have he0:=Qdg (n:=i) G.check hi1 G.away G.fewd;obtain ⟨e1,e2,e3,e4,e5⟩:=Qsu okf hp G.dir G.kind G.check hs hi1 hi2 G.away G.fewd;have hne:¬ i=dir:=fun e=>by
  have h:=G.node;rw [e,G.dir] at h;obtain rfl:=W0c h;exact G.file G.kind
 have hni:atF (enterF f dir s i) i=some n:=by rw [e5,W1w hne];exact G.node
 have hN:nodP (Qqe n):=⟨n1.1,by have:=n1.2.1;show 0≤n.links+1;omega,by have:=G.links;show n.links+1≤64;omega,n1.2.2.2⟩
 obtain ⟨p1,p2,p3,p4⟩:=Qiz (n:=Qqe n) e2 hni n3 hN;have hg:Qm3 f dir s i=putF (enterF f dir s i) (Qqe n):=by
  unfold Qm3;rw [W1x he,(Qke G.node).2];rfl
 have h256:(enterF f dir s i).l.length≤256:=e2.1;obtain ⟨hf,hf2⟩:=okf.1;rw [hg];have hl1:=n1.2.1;have hl2:=G.links;refine ⟨Qoi e1 ⟨okn.1,okn.2.1,⟨by show _≤n.links+1;omega,by show n.links+1≤_;omega⟩,okn.2.2.2⟩ (by show n.ino<_;omega) (by omega),
  T.grow (X:=Qqe n) p1 G.dir G.kind hne (fun j=>by rw [p4,e5]) (fun z=>Qu1 he0) (fun z=>Qu0 he0) (Qen G.node (.inl G.file)) (.inl G.file) (by have:=T.cnt i n G.node;show n.links+1=_;omega) (fun h=>absurd h G.file) (fun e=>?_),by rw [p3,e4];omega,?_⟩
 ·obtain ⟨r,r1,r2,_⟩:=T.root;have h:=G.node;rw [e,r1] at h;obtain rfl:=W0c h;exact G.file r2
 ·have w2:=Zap (n:=Qqe n) (Qah e2);rw [show (Qqe n).ino=i from n3,hni] at w2;have e6:KO wK (some n)=wK n:=rfl;have e7:wK (Qqe n)=wK n:=rfl;have w1:=Zao (l:=entL d.l s i) hr G.dir;rw [← Qdq G.dir] at w1;have:=Qne (l:=d.l) (s:=s) (n:=i);omega
theorem Qse {f:Fsy} {dir:Int} {s:Txt} {d n:Nod} {j:Int} (okf:OkF f) (T:TreeP f) (hd:atF f dir=some d) (hk:d.kind=2) (hg:getE (lI d.l) s=some j) (hn:atF f j=some n) (hf:Qdi n=false) :
  Kept f (Qb6 f dir s n)∧¬ j=dir∧(∀ x z,z∈Qa4 (Qb6 f dir s n) x→z∈Qa4 f x)∧wF (Qb6 f dir s n)≤wF f:=by
 have hp:=T.rows;have hr:=Qah hp;have hrow:=(Qdr (Qbf hp hd).1 hk).2;have hs:=Qc4 hrow;have hnj:=Qei hn;have hne:¬ j=dir:=fun e=>by
  rw [e,hd] at hn;obtain rfl:=W0c hn;rw [Qm5 hf hk] at hg;cases hg
 have h0:Qa4 f j=[]:=Qen hn (by
  by_cases h2:n.kind=2
  ·exact .inr (Qm5 hf h2)
  ·exact .inl h2)
 have hkid:=Quv hd hk hg;obtain ⟨w1,w2,w3,w4,w5⟩:=Qqy (s:=s) okf hp hd hk (n:=n) (.inl (by rw [hnj];exact hn));rw [hnj] at w5;have T2:TreeP (Qb6 f dir s n):=T.shrink w2 hd hk hne hn w5 (fun z=>Zeu hs hg) (fun z=>Qu5) (fun z=>Zes hs hg) h0 (T.kid dir j hkid).2;have hw:wF (Qb6 f dir s n)≤wF f:=by
  obtain ⟨l1,l2,l3,l4,l5⟩:=Qfm (s:=s) okf hp hd hk;have wl:=Zao (l:=delL d.l s) hr hd;rw [← Qjc hd] at wl;have:=Qu6 (l:=d.l) (s:=s);unfold Qb6
  split
  ·have:=w_out (i:=n.ino) (Qah l2) (Qah (Qwp l2));omega
  ·have wp:=Zap (n:=Qkd n) (Qah l2);rw [show (Qkd n).ino=j from hnj,l5,W1w hne,hn] at wp;have e6:KO wK (some n)=wK n:=rfl;have e7:wK (Qkd n)=wK n:=rfl;omega
 refine ⟨⟨w1,T2,by rw [w4];omega,by omega⟩,hne,fun x z hz=>?_,hw⟩;have ad:atF (Qb6 f dir s n) dir=some (Qbj d (delL d.l s)):=by rw [w5,W1w (fun e=>hne e.symm),W1x rfl]
 by_cases hx:x=dir
 ·subst hx;rw [Qbs ad hk] at hz;rw [Qbs hd hk];exact Qu5 hz
 ·by_cases hx2:x=j
  ·subst hx2;have h2:=w5 x;rw [W1x rfl] at h2
   split at h2
   ·rw [Qmx h2] at hz;cases hz
   ·rw [Qen h2 (by
     by_cases hk2:n.kind=2
     ·exact .inr (Qm5 hf hk2)
     ·exact .inl hk2)] at hz
    cases hz
  ·rw [Qfb (f:=f) (by rw [w5,W1w hx2,W1w hx])] at hz;exact hz
theorem Qsd {f:Fsy} {dir:Int} {s:Txt} (okf:OkF f) (T:TreeP f) (he:Qee f dir s=0):Kept f (Qkz f dir s):=by
 have h:=he;unfold Qee at h;rw [Zkk] at h
 split at h
 ·rename_i h1;rw [Qts (by decide)] at h;obtain ⟨d,j,n,a1,a2,a3,a4,a5⟩:=(Qw1 T.rows).1 h1;have hl:=(Qj3 a1 a2 a3 a4 a5).2;rw [hl] at h;unfold Qkz;rw [W1x he,hl];exact (Qse okf T a1 a2 a4 a5 h).1
 ·exact absurd h (by assumption)
theorem Zak {f:Fsy} {b j:Int} {n:Nod} (hp:Qat f) (hn:atF f j=some n) (h:Qca f b n=false) {e:Nod} (hb:atF f b=some e) (hk:e.kind=2):¬ b=j∧¬ Reach f j b:=by
 have hnj:=Qei hn;by_cases h2:n.kind=2
 ·unfold Qca at h;rw [h2,hnj] at h;simp only [beq_self_eq_true,Bool.true_and,Bool.or_eq_false_iff] at h;refine ⟨fun e=>?_,fun hr=>?_⟩
  ·rw [e] at h;simp at h
  ·rw [Qro.2 hr] at h;exact absurd h.2 (by decide)
 ·refine ⟨fun e=>?_,fun hr=>?_⟩
  ·rw [e,hn] at hb;obtain rfl:=W0c hb;exact h2 hk
  ·obtain ⟨y,hy⟩:=Qfx hr;rw [Qen hn (.inl h2)] at hy;cases hy
theorem Qw8 {g:Fsy} {a:Int} {s:Txt} {b:Int} {t:Txt} {d e:Nod} {j:Int} {n:Nod} (G:Goes g a s b t d e j n) (T:TreeP g) (ht:t.length≤1000000) (hbj:¬ b=j) (hjb:¬ Reach g j b):Kept g (enterF (leaveF g a s) b t j):=by
 have Z:=G.go ht;have hrow:=(Qdr (Qbf G.rows G.dir).1 G.kind).2;have hs:=Qc4 hrow;refine ⟨Z.ok,T.hop Z.rows0 Z.rows G.dir G.kind Z.mid Z.kind G.node Z.at0 Z.at1 (fun z=>Zeu hs G.ent) (fun z=>Qu1 Z.ment) (fun z=>Qu5) (fun z=>Zes hs G.ent) (fun z=>Qu0 Z.ment) (Quv G.dir G.kind G.ent) hbj hjb,by rw [Z.next];omega,?_⟩;have w1:=Zao (l:=delL d.l s) (Qah G.rows) G.dir;rw [← Qjc G.dir] at w1;have w2:=Zao (l:=entL G.mid.l t j) (Qah Z.rows0) Z.mid;rw [← Qdq Z.mid] at w2;have:=Qne (l:=G.mid.l) (s:=t) (n:=j);have:=Qu6 (l:=d.l) (s:=s);omega
theorem Zh4 {f:Fsy} {dir:Int} {s:Txt} {to:Int} {t:Txt} (okf:OkF f) (T:TreeP f) (ht0:t.length≤1000000) (h:Qdt f dir s to t=0):Kept f (movF f dir s to t):=by
 have hp:=T.rows;have h1:mov1 f dir s to t=0:=Classical.byContradiction fun hn=>by
  unfold Qdt at h;rw [W1w hn] at h;exact hn h
 have h2:mov2 f dir s to t=0:=by
  unfold Qdt at h
  rwa [W1x h1] at h
 obtain ⟨d,dt,n,j,A⟩:=Zj7 hp h1;obtain ⟨e1,e2,e3⟩:=A.mB;have hnj:=A.nino;have hst:=Qc4 (Qdr (Qbf hp A.to).1 A.kindt).2;have hrowt:=(Qdr (Qbf hp A.to).1 A.kindt).2;obtain ⟨hbj,hjb⟩:=Zak hp A.node A.apart A.to A.kindt;cases hb:isB dt.l t with
 | false=>
  have hg:getE (lI dt.l) t=.none:=by
   rw [Qgp] at hb;cases hg:getE (lI dt.l) t with
   | none=>rfl
   | some i=>rw [hg] at hb;cases hb
  have hm:movF f dir s to t=enterF (leaveF f dir s) to t j:=by
   unfold movF;rw [W1x h1,W1w (fun h=>by rw [e1,hb] at h;cases h.1),W1x h2,A.look];unfold mov0;rw [W1w (by rw [e1,hb];decide),hnj]
  have hroom:¬ to=dir→dt.l.length<256:=fun hne=>by
   unfold mov2 at h2;rw [W1x (by rw [e1,hb]),Qts (by decide),e3] at h2;have:(to != dir)=true:=by simpa using hne
   rw [this] at h2;simp only [Bool.true_and,decide_eq_false_iff_not] at h2;omega
  have G:Goes f dir s to t d dt j n:=⟨okf,hp,A.dir,A.kind,A.chk,A.ent,A.to,A.kindt,A.chkt,hg,A.node,hroom⟩
  rw [hm];exact Qw8 G T ht0 hbj hjb
 | true=>
  obtain ⟨i2,hg⟩:∃ i,getE (lI dt.l) t=some i:=by
   rw [Qgp] at hb;cases hg:getE (lI dt.l) t with
   | none=>rw [hg] at hb;cases hb
   | some i=>exact ⟨i,rfl⟩
  obtain ⟨⟨m,hm⟩,_⟩:=T.kid to i2 (Quv A.to A.kindt hg);have hmi:=Qei hm;have hI:getI dt.l t=i2:=by rw [Qfy,hg];rfl
  have hfm:Qab f (getI dt.l t)=m:=by rw [hI];exact (Qke hm).2
  by_cases hij:i2=j
  ·have:movF f dir s to t=f:=by
    unfold movF;rw [W1x h1,W1x ⟨by rw [e1,hb],by rw [e2,hI,A.look,hnj];exact hij⟩]
   rw [this];exact Kept.self okf T
  ·have ho:Qgm n m=0:=by
    unfold mov2 at h2;rw [W1w (by rw [e1,hb];decide),W1w (by rw [e2,hI,A.look,hnj];exact hij),A.look,e2,hfm] at h2;exact h2
   obtain ⟨hx1,hx2,hx3⟩:=Qr8 hp A hb (by rw [hfm];exact ho);rw [hfm] at hx1 hx2 hx3;obtain ⟨w1,w2,w3,w4,w5⟩:=Qqy (s:=t) okf hp A.to A.kindt hx1;obtain ⟨K,k2,k3,k4⟩:=Qse okf T A.to A.kindt hg hm (Qr4 ho).1;have hmv:movF f dir s to t=enterF (leaveF (Qb6 f to t m) dir s) to t j:=by
    unfold movF;rw [W1x h1,W1w (fun h=>hij (by have:=h.2;rw [e2,hI,A.look,hnj] at this;exact this)),W1x h2,A.look];unfold mov0;rw [W1x (by rw [e1,hb]),hnj,e2,hfm]
   have hto:atF (Qb6 f to t m) to=some (Qbj dt (delL dt.l t)):=by rw [w5,W1w (fun e=>hx3 e.symm),W1x rfl]
   have hdir:∃ d1,atF (Qb6 f to t m) dir=some d1∧d1.kind=2∧getE (lI d1.l) s=some j:=by
    rw [w5,W1w (fun e=>hx2 e.symm)]
    split
    ·rename_i hdt;have hd:d=dt:=by
      have h3:=A.dir;rw [hdt,A.to] at h3;exact (W0c h3).symm
     refine ⟨_,rfl,A.kindt,?_⟩;show getE (lI (delL dt.l t)) s=_;have hne:¬ s=t:=fun e=>by
      have h4:=A.ent;rw [hd,e,hg] at h4;exact hij (W0c h4)
     rw [get_del hst,W1w hne,← hd];exact A.ent
    ·exact ⟨d,A.dir,A.kind,A.ent⟩
   obtain ⟨d1,g1,g2,g3⟩:=hdir;have hn1:atF (Qb6 f to t m) j=some n:=by
    rw [w5,W1w (fun e=>hij (by rw [← hmi];exact e.symm)),W1w (fun e=>hbj e.symm)];exact A.node
   have G:Goes (Qb6 f to t m) dir s to t d1 (Qbj dt (delL dt.l t)) j n:=⟨w1,w2,g1,g2,A.chk,g3,hto,A.kindt,A.chkt,by
    show getE (lI (delL dt.l t)) t=_;rw [get_del hst,W1x rfl],hn1,fun _=>by
    show (delL dt.l t).length<256;have:=Qlq hst hg;have:=hrowt.1;omega⟩
   have Z:=Qw8 G K.tree ht0 hbj (fun h=>hjb (Qff k3 h));rw [hmv];refine ⟨Z.ok,Z.tree,?_,?_⟩
   ·have:=Z.next;have e:(enterF (leaveF (Qb6 f to t m) dir s) to t j).next=f.next:=by rw [(G.go ht0).next,w4]
    rw [e];omega
   ·have:=Z.few;omega
theorem Zh3 {f:Fsy} {i:Int} {n m:Nod} (okf:OkF f) (T:TreeP f) (hn:atF f i=some n) (hi:m.ino=i) (hk:m.kind=n.kind) (hl:m.links=n.links) (he:m.l=n.l) (hm:nodP m) (okm:OkN m):Kept f (putF f m):=by
 have hp:=T.rows;obtain ⟨p1,p2,p3,p4⟩:=Qiz hp hn hi hm;obtain ⟨n1,n2,n3⟩:=Qbf hp hn;obtain ⟨hf,hf2⟩:=okf.1;have h256:f.l.length≤256:=hp.1;refine ⟨Qoi okf okm (by omega) (by omega),T.put hn hi hk hl he hm,by rw [p3];omega,?_⟩;have w2:=Zap (n:=m) (Qah hp);rw [hi,hn] at w2;have e6:KO wK (some n)=1+n.l.length:=rfl;have e7:wK m=1+m.l.length:=rfl;rw [he] at e7;omega
end Go.Proofs.YtkhodpknpligpaaGreat
