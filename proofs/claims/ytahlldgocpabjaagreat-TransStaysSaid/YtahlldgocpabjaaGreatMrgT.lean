import Derived.Test.YtahlldgocpabjaaGreatMrgS
set_option linter.unusedVariables false
set_option linter.unusedSimpArgs false
namespace Go.Proofs.YtahlldgocpabjaaGreat
open Go Go.RowKit Copyhold
open Copyhold.Name (Srt insE delE getE isAt)
def KO (K:Nod→Nat):Option Nod→Nat
 | some n=>K n
 | none=>0
theorem Qek (K:Nod→Nat) (i:Int):∀ {l:List Nod},Qbs l→(l.map K).sum=((l.filter fun n=>!isNo i n).map K).sum+KO K (l.find? (isNo i))
 | [],_=>rfl
 | x :: r,h=>by
  obtain ⟨h1,h2⟩:=List.pairwise_cons.1 h
  rw [List.find?_cons,List.filter_cons]
  cases hx:isNo i x with
  | true=>
   have hr:r.filter (fun n=>!isNo i n)=r:=List.filter_eq_self.2 fun y hy=>by
    have g:x.ino<y.ino:=h1 y hy
    have e:x.ino=i:=by simpa [isNo] using hx
    simp [isNo];omega
   simp only [Bool.not_true,Bool.false_eq_true,if_false,hr,List.map_cons,List.sum_cons,KO]
   omega
  | false=>
   have:=Qek K i h2
   simp only [Bool.not_false,if_true,List.map_cons,List.sum_cons]
   omega
theorem Qun {f:Fsy} (hr:Qbs f.l) {x:Nod}:x∈f.l↔atF f x.ino=some x:=⟨Qtp hr,Qdg⟩
theorem Qot {f g:Fsy} {i:Int} (hf:Qbs f.l) (hg:Qbs g.l) (h:∀ j,¬ j=i→atF g j=atF f j) (z:Int):nam g z+KO (namK z) (atF f i)=nam f z+KO (namK z) (atF g i):=by
 have e:(g.l.filter fun n=>!isNo i n)=f.l.filter fun n=>!isNo i n:=Qkk (List.Pairwise.filter _ hg) (List.Pairwise.filter _ hf) fun x=>by
  rw [List.mem_filter,List.mem_filter]
  by_cases hx:x.ino=i
  ·simp [isNo,hx]
  ·rw [Qun hf,Qun hg,h _ hx]
 unfold nam
 rw [Qek (namK z) i hf,Qek (namK z) i hg,e]
 unfold atF
 omega
theorem Qe5 {f g:Fsy} {i:Int} (h:atF g i=atF f i):Qa3 g i=Qa3 f i:=by
 unfold Qa3
 rw [at_N,at_N,h]
theorem Qlw {f:Fsy} {i:Int} (h:atF f i=none):Qa3 f i=[]:=by
 unfold Qa3
 rw [(Qtq h).2]
 rfl
theorem Qef {f:Fsy} {i:Int} {n:Nod} (h:atF f i=some n) (hk:¬ n.kind=2∨n.l=[]):Qa3 f i=[]:=by
 unfold Qa3
 rw [(Qfo h).2]
 rcases hk with hk | hk
 ·rw [if_neg hk]
 ·rw [hk];simp
theorem Qii {f:Fsy} {i z:Int} (h0:Qa3 f i=[]):KO (namK z) (atF f i)=0:=by
 cases hc:atF f i with
 | none=>rfl
 | some m=>
  show namK z m=0
  refine Nat.eq_zero_of_not_pos fun hp=>?_
  obtain ⟨q1,e,q2,q3⟩:=Qih.1 hp
  have:=Qfy hc q1 q2 q3
  rw [h0] at this;cases this
theorem Quk {f g:Fsy} {i k:Int} (hr:Qbs f.l) (hgr:Qbs g.l) (hne:¬ i=k) (h:∀ j,¬ j=i→¬ j=k→atF g j=atF f j) (z:Int):nam g z+KO (namK z) (atF f i)+KO (namK z) (atF f k)=nam f z+KO (namK z) (atF g i)+KO (namK z) (atF g k):=by
 have e1:nam f z=((f.l.filter fun n=>!isNo i n).map (namK z)).sum+KO (namK z) (atF f i):=Qek (namK z) i hr
 have e2:nam g z=((g.l.filter fun n=>!isNo i n).map (namK z)).sum+KO (namK z) (atF g i):=Qek (namK z) i hgr
 have fa:∀ (h:Fsy) (j:Int),atF ⟨h.l.filter fun n=>!isNo i n,h.next⟩ j=if j=i then none else atF h j:=fun h j=>by
  unfold atF
  show List.find? _ (List.filter _ h.l)=_
  rw [List.find?_filter]
  by_cases hj:j=i
  ·rw [if_pos hj,List.find?_eq_none]
   intro x _
   simp [isNo,hj]
  ·rw [if_neg hj]
   congr 1
   funext x
   by_cases hx:x.ino=j
   ·simp [isNo,hx,hj]
   ·simp [isNo,hx]
 have hone:=Qot (f:=⟨f.l.filter fun n=>!isNo i n,f.next⟩) (g:=⟨g.l.filter fun n=>!isNo i n,g.next⟩) (i:=k) (List.Pairwise.filter _ hr) (List.Pairwise.filter _ hgr) (fun j hj=>by
  rw [fa f,fa g]
  split
  ·rfl
  ·rename_i hji;exact h j hji hj) z
 rw [fa f,fa g,if_neg (fun e=>hne e.symm),if_neg (fun e=>hne e.symm)] at hone
 have n1:nam ⟨f.l.filter fun n=>!isNo i n,f.next⟩ z=((f.l.filter fun n=>!isNo i n).map (namK z)).sum:=rfl
 have n2:nam ⟨g.l.filter fun n=>!isNo i n,g.next⟩ z=((g.l.filter fun n=>!isNo i n).map (namK z)).sum:=rfl
 omega
theorem Qff {f g:Fsy} (h:∀ i z,z∈Qa3 f i→z∈Qa3 g i) {a b:Int} (hr:Reach f a b):Reach g a b:=by
 induction hr with
 | one hz=>exact .one (h _ _ hz)
 | more hy _ ih=>exact .more (h _ _ hy) ih
theorem Qva {l:List Ent} {s:Txt} {n:Int} (he:entE l s n=0):entL l s n=l.take (posI l s)++⟨s,n⟩ :: l.drop (posI l s):=by unfold entL;rw [if_pos he]
theorem Qs7 {l:List Ent} {s:Txt} {n z:Int} (he:entE l s n=0):z∈(entL l s n).map Ent.ino↔z=n∨z∈l.map Ent.ino:=by
 rw [Qva he]
 have e:z∈l.map Ent.ino↔z∈((l.take (posI l s)).map Ent.ino)∨z∈((l.drop (posI l s)).map Ent.ino):=by
  rw [← List.mem_append,← List.map_append,List.take_append_drop]
 rw [e,List.map_append,List.mem_append,List.map_cons,List.mem_cons]
 show _∨z=n∨_↔_
 constructor
 ·rintro (h | h | h)
  ·exact .inr (.inl h)
  ·exact .inl h
  ·exact .inr (.inr h)
 ·rintro (h | h | h)
  ·exact .inr (.inl h)
  ·exact .inl h
  ·exact .inr (.inr h)
theorem Qs8 {l:List Ent} {s:Txt} {n z:Int} (he:entE l s n=0):(entL l s n).countP (isE z)=l.countP (isE z)+if z=n then 1 else 0:=by
 rw [Qva he]
 have e:l.countP (isE z)=(l.take (posI l s)).countP (isE z)+(l.drop (posI l s)).countP (isE z):=by
  rw [← List.countP_append,List.take_append_drop]
 rw [e,List.countP_append,List.countP_cons]
 by_cases h:z=n
 ·have:isE z ⟨s,n⟩=true:=by unfold isE;simp [h]
  rw [this,if_pos h];simp;omega
 ·have:isE z ⟨s,n⟩=false:=by unfold isE;simp;exact fun e=>h e.symm
  rw [this,if_neg h];simp
theorem Zg5 {l:List Ent} {s:Txt} {j:Int} (h:Srt (lI l)) (hg:getE (lI l) s=some j):∃ x,l[posI l s]?=some x∧x.ino=j∧delL l s=l.take (posI l s)++l.drop (posI l s+1):=by
 have hb:isB l s=true:=by rw [Qe6,hg];rfl
 have hlt:=Qok h hb
 refine ⟨l[posI l s],List.getElem?_eq_getElem hlt,?_,by unfold delL;rw [if_pos hb]⟩
 have:=Za6 h hb (List.getElem?_eq_getElem hlt)
 rw [← this,Qew,hg];rfl
theorem Qt1 {l:List Ent} {p:Nat} {x:Ent} (h:l[p]?=some x):l=l.take p++x :: l.drop (p+1):=by
 obtain ⟨hp,rfl⟩:=List.getElem?_eq_some_iff.1 h
 rw [← List.drop_eq_getElem_cons hp,List.take_append_drop]
theorem Zbw {l:List Ent} {s:Txt} {j z:Int} (h:Srt (lI l)) (hg:getE (lI l) s=some j) (hz:z∈l.map Ent.ino):z=j∨z∈(delL l s).map Ent.ino:=by
 obtain ⟨x,hx,hj,e⟩:=Zg5 h hg
 rw [Qt1 hx,List.map_append,List.mem_append,List.map_cons,List.mem_cons] at hz
 rw [e,List.map_append,List.mem_append]
 rcases hz with hz | hz | hz
 ·exact .inr (.inl hz)
 ·exact .inl (hz.trans hj)
 ·exact .inr (.inr hz)
theorem Zby {l:List Ent} {s:Txt} {j z:Int} (h:Srt (lI l)) (hg:getE (lI l) s=some j):(delL l s).countP (isE z)+(if z=j then 1 else 0)=l.countP (isE z):=by
 obtain ⟨x,hx,hj,e⟩:=Zg5 h hg
 have e2:l.countP (isE z)=(l.take (posI l s)).countP (isE z)+(x :: l.drop (posI l s+1)).countP (isE z):=by
  rw [← List.countP_append,← Qt1 hx]
 rw [e2,e,List.countP_append,List.countP_cons]
 by_cases hz:z=j
 ·have:isE z x=true:=by unfold isE;simp [hz,hj]
  rw [this,if_pos hz];simp;omega
 ·have:isE z x=false:=by unfold isE;simp;exact fun e=>hz (by rw [← e,hj])
  rw [this,if_neg hz];simp
theorem Qtb {l:List Ent} {s:Txt} {z:Int} (hz:z∈(delL l s).map Ent.ino):z∈l.map Ent.ino:=by
 obtain ⟨e,he,h⟩:=List.mem_map.1 hz
 exact List.mem_map.2 ⟨e,Qpe e he,h⟩
theorem Qo3 {f:Fsy} {i j:Int} {d:Nod} {s:Txt} (hd:atF f i=some d) (hk:d.kind=2) (hg:getE (lI d.l) s=some j):j∈Qa3 f i:=by
 rw [Qb0 hd hk]
 unfold getE at hg
 cases hf:(lI d.l).find? (fun y=>y.1==s) with
 | none=>rw [hf] at hg;cases hg
 | some y=>
  rw [hf] at hg
  have hm:=List.mem_of_find?_eq_some hf
  unfold lI at hm
  obtain ⟨e,he,hy⟩:=List.mem_map.1 hm
  refine List.mem_map.2 ⟨e,he,?_⟩
  rw [← hy] at hg
  exact Option.some.inj hg
theorem TreeP.put {f:Fsy} {i:Int} {n m:Nod} (T:TreeP f) (hn:atF f i=some n) (hi:m.ino=i) (hk:m.kind=n.kind) (hl:m.links=n.links) (he:m.l=n.l) (hm:nodP m):TreeP (putF f m):=by
 obtain ⟨p1,p2,p3,p4⟩:=Qia T.rows hn hi hm
 have hr:=Qad T.rows
 have hkk:∀ x,Qa3 (putF f m) x=Qa3 f x:=fun x=>by
  by_cases hx:x=i
  ·subst hx
   have a:atF (putF f m) x=some m:=by rw [p4,if_pos rfl]
   unfold Qa3
   rw [(Qfo a).2,(Qfo hn).2,hk,he]
  ·exact Qe5 (by rw [p4,if_neg hx])
 have hna:∀ z,nam (putF f m) z=nam f z:=fun z=>by
  have:=Qot (i:=i) hr (Qad p1) (fun j hj=>by rw [p4,if_neg hj]) z
  rw [p4,if_pos rfl,hn] at this
  simp only [KO,namK,cntE,hk,he] at this
  omega
 have hat:∀ x y,atF (putF f m) x=some y→∃ y',atF f x=some y'∧y.kind=y'.kind∧y.links=y'.links:=fun x y hy=>by
  rw [p4] at hy
  split at hy
  ·rename_i hx;obtain rfl:=Option.some.inj hy;exact ⟨n,hx ▸ hn,hk,hl⟩
  ·exact ⟨y,hy,rfl,rfl⟩
 have hto:∀ x y,atF f x=some y→∃ y',atF (putF f m) x=some y'∧y'.kind=y.kind∧y'.links=y.links:=fun x y hy=>by
  rw [p4]
  split
  ·rename_i hx;subst hx;rw [hn] at hy;obtain rfl:=Option.some.inj hy;exact ⟨m,rfl,hk,hl⟩
  ·exact ⟨y,hy,rfl,rfl⟩
 refine ⟨p1,?_,fun x y hy=>?_,fun x z hz=>?_,fun x y hy hx=>?_,fun x y hy hk2 hx=>?_⟩
 ·obtain ⟨r,r1,r2,r3⟩:=T.root
  obtain ⟨y,y1,y2,y3⟩:=hto 1 r r1
  exact ⟨y,y1,y2.trans r2,y3.trans r3⟩
 ·obtain ⟨y',a,b,c⟩:=hat x y hy
  rw [c,hna];exact T.cnt x y' a
 ·rw [hkk] at hz
  obtain ⟨⟨y,hy⟩,h1⟩:=T.kid x z hz
  obtain ⟨y',a,_⟩:=hto z y hy
  exact ⟨⟨y',a⟩,h1⟩
 ·obtain ⟨y',a,b,c⟩:=hat x y hy
  rw [c];exact T.pos x y' a hx
 ·obtain ⟨y',a,b,c⟩:=hat x y hy
  obtain ⟨g1,g2⟩:=T.dir x y' a (b ▸ hk2) hx
  exact ⟨c.trans g1,Qff (fun i z hz=>by rw [hkk];exact hz) g2⟩
theorem TreeP.grow {f g:Fsy} {dir i:Int} {d X:Nod} {l:List Ent} (T:TreeP f) (hg:Qal g) (hd:atF f dir=some d) (hk:d.kind=2) (hne:¬ i=dir) (hat:∀ j,atF g j=if j=i then some X else if j=dir then some (Qa0 d l) else atF f j)
  (hcnt:∀ z,l.countP (isE z)=d.l.countP (isE z)+if z=i then 1 else 0) (hmem:∀ z,z∈l.map Ent.ino↔z=i∨z∈d.l.map Ent.ino) (h0:Qa3 f i=[]) (hX:¬ X.kind=2∨X.l=[]) (hXl:X.links=(nam f i:Int)+1)
  (hX2:X.kind=2→nam f i=0) (h1:¬ i=1):TreeP g:=by
 have hr:=Qad T.rows
 have hgr:=Qad hg
 have ai:atF g i=some X:=by rw [hat,if_pos rfl]
 have ad:atF g dir=some (Qa0 d l):=by rw [hat,if_neg (fun e=>hne e.symm),if_pos rfl]
 have ao:∀ j,¬ j=i→¬ j=dir→atF g j=atF f j:=fun j h2 h3=>by rw [hat,if_neg h2,if_neg h3]
 have kd:∀ z,z∈Qa3 g dir↔z=i∨z∈Qa3 f dir:=fun z=>by
  rw [Qb0 ad hk,Qb0 hd hk];exact hmem z
 have ki:Qa3 g i=[]:=Qef ai hX
 have kg:∀ x z,z∈Qa3 g x→z∈Qa3 f x∨(x=dir∧z=i):=fun x z hz=>by
  by_cases hx:x=dir
  ·subst hx
   rcases (kd z).1 hz with h | h
   ·exact .inr ⟨rfl,h⟩
   ·exact .inl h
  ·by_cases hx2:x=i
   ·subst hx2;rw [ki] at hz;cases hz
   ·rw [Qe5 (ao x hx2 hx)] at hz;exact .inl hz
 have kf:∀ x z,z∈Qa3 f x→z∈Qa3 g x:=fun x z hz=>by
  by_cases hx:x=dir
  ·subst hx;exact (kd z).2 (.inr hz)
  ·by_cases hx2:x=i
   ·subst hx2;rw [h0] at hz;cases hz
   ·rw [Qe5 (ao x hx2 hx)];exact hz
 have hna:∀ z,nam g z=nam f z+if z=i then 1 else 0:=fun z=>by
  have hz0:KO (namK z) (atF f i)=0:=Qii h0
  have hzX:KO (namK z) (atF g i)=0:=Qii ki
  have hone:=Quk hr hgr hne ao z
  rw [hz0,hzX,hd,ad] at hone
  have c1:KO (namK z) (some d)=d.l.countP (isE z):=if_pos hk
  have c2:KO (namK z) (some (Qa0 d l))=l.countP (isE z):=if_pos hk
  rw [c1,c2,hcnt] at hone
  omega
 have hdir1:¬ dir=1→Reach f 1 dir:=fun h=>T.reach hd h
 refine ⟨hg,?_,fun x y hy=>?_,fun x z hz=>?_,fun x y hy hx=>?_,fun x y hy hk2 hx=>?_⟩
 ·obtain ⟨r,r1,r2,r3⟩:=T.root
  by_cases hx:(1:Int)=dir
  ·rw [← hx] at hd ad
   rw [hd] at r1
   obtain rfl:=Option.some.inj r1
   exact ⟨_,ad,r2,r3⟩
  ·exact ⟨r,(ao 1 (fun e=>h1 e.symm) hx).trans r1,r2,r3⟩
 ·rw [hna]
  by_cases hx:x=i
  ·subst hx
   rw [ai] at hy;obtain rfl:=Option.some.inj hy
   rw [if_pos rfl,hXl];omega
  ·rw [if_neg hx]
   by_cases hx2:x=dir
   ·subst hx2
    rw [ad] at hy;obtain rfl:=Option.some.inj hy
    exact T.cnt x d hd
   ·rw [ao x hx hx2] at hy;exact T.cnt x y hy
 ·have hex:∀ w,(∃ n,atF f w=some n)→∃ n,atF g w=some n:=fun w ⟨n,hn⟩=>by
   by_cases hw:w=i
   ·subst hw;exact ⟨_,ai⟩
   ·by_cases hw2:w=dir
    ·subst hw2;exact ⟨_,ad⟩
    ·exact ⟨n,(ao w hw hw2).trans hn⟩
  rcases kg x z hz with h | ⟨_,h⟩
  ·exact ⟨hex z (T.kid x z h).1,(T.kid x z h).2⟩
  ·subst h;exact ⟨⟨_,ai⟩,h1⟩
 ·by_cases hx3:x=i
  ·subst hx3
   rw [ai] at hy;obtain rfl:=Option.some.inj hy
   omega
  ·by_cases hx2:x=dir
   ·subst hx2
    rw [ad] at hy;obtain rfl:=Option.some.inj hy
    exact T.pos x d hd hx
   ·rw [ao x hx3 hx2] at hy;exact T.pos x y hy hx
 ·by_cases hx3:x=i
  ·subst hx3
   rw [ai] at hy;obtain rfl:=Option.some.inj hy
   have:=hX2 hk2
   refine ⟨by omega,?_⟩
   have hkid:x∈Qa3 g dir:=(kd x).2 (.inl rfl)
   by_cases hdd:dir=1
   ·rw [hdd] at hkid;exact .one hkid
   ·exact (Qff kf (hdir1 hdd)).snoc hkid
  ·by_cases hx2:x=dir
   ·subst hx2
    rw [ad] at hy;obtain rfl:=Option.some.inj hy
    obtain ⟨g1,g2⟩:=T.dir x d hd hk hx
    exact ⟨g1,Qff kf g2⟩
   ·rw [ao x hx3 hx2] at hy
    obtain ⟨g1,g2⟩:=T.dir x y hy hk2 hx
    exact ⟨g1,Qff kf g2⟩
theorem TreeP.shrink {f g:Fsy} {dir i:Int} {d n:Nod} {l:List Ent} (T:TreeP f) (hg:Qal g) (hd:atF f dir=some d) (hk:d.kind=2) (hne:¬ i=dir) (hn:atF f i=some n) (hat:∀ j,atF g j=if j=i then (if n.links-1<1 then none else some (Qdv n)) else if j=dir then some (Qa0 d l) else atF f j)
  (hcnt:∀ z,l.countP (isE z)+(if z=i then 1 else 0)=d.l.countP (isE z)) (hm1:∀ z,z∈l.map Ent.ino→z∈d.l.map Ent.ino) (hm2:∀ z,z∈d.l.map Ent.ino→z=i∨z∈l.map Ent.ino) (h0:Qa3 f i=[]) (h1:¬ i=1):TreeP g:=by
 have hr:=Qad T.rows
 have hgr:=Qad hg
 have ad:atF g dir=some (Qa0 d l):=by rw [hat,if_neg (fun e=>hne e.symm),if_pos rfl]
 have ao:∀ j,¬ j=i→¬ j=dir→atF g j=atF f j:=fun j h2 h3=>by rw [hat,if_neg h2,if_neg h3]
 have ki:Qa3 g i=[]:=by
  have h2:=hat i
  rw [if_pos rfl] at h2
  split at h2
  ·exact Qlw h2
  ·refine Qef h2 ?_
   by_cases hk2:n.kind=2
   ·right
    rw [Qb0 hn hk2] at h0
    show n.l=[]
    exact List.map_eq_nil_iff.1 h0
   ·exact .inl hk2
 have kd:∀ z,z∈Qa3 g dir→z∈Qa3 f dir:=fun z hz=>by
  rw [Qb0 ad hk] at hz;rw [Qb0 hd hk];exact hm1 z hz
 have kg:∀ x z,z∈Qa3 g x→z∈Qa3 f x:=fun x z hz=>by
  by_cases hx:x=dir
  ·subst hx;exact kd z hz
  ·by_cases hx2:x=i
   ·subst hx2;rw [ki] at hz;cases hz
   ·rw [Qe5 (ao x hx2 hx)] at hz;exact hz
 have kf:∀ x z,z∈Qa3 f x→z=i∨z∈Qa3 g x:=fun x z hz=>by
  by_cases hx:x=dir
  ·subst hx
   rw [Qb0 hd hk] at hz;rw [Qb0 ad hk];exact hm2 z hz
  ·by_cases hx2:x=i
   ·subst hx2;rw [h0] at hz;cases hz
   ·rw [Qe5 (ao x hx2 hx)];exact .inr hz
 have hna:∀ z,nam g z+(if z=i then 1 else 0)=nam f z:=fun z=>by
  have hz0:KO (namK z) (atF f i)=0:=Qii h0
  have hzX:KO (namK z) (atF g i)=0:=Qii ki
  have hone:=Quk hr hgr hne ao z
  rw [hz0,hzX,hd,ad] at hone
  have c1:KO (namK z) (some d)=d.l.countP (isE z):=if_pos hk
  have c2:KO (namK z) (some (Qa0 d l))=l.countP (isE z):=if_pos hk
  rw [c1,c2,← hcnt] at hone
  omega
 have hrch:∀ {a b:Int},Reach f a b→¬ b=i→Reach g a b:=fun {a b} hab=>by
  induction hab with
  | one hz=>exact fun hb=>.one ((kf _ _ hz).resolve_left hb)
  | @more p y z hy hyz ih=>
   refine fun hb=>.more ((kf _ _ hy).resolve_left fun e=>?_) (ih hb)
   obtain ⟨w,hw⟩:=Qfw hyz
   rw [e,h0] at hw;cases hw
 have ai:∀ {y},atF g i=some y→y=Qdv n∧¬ n.links-1<1:=fun {y} hy=>by
  have h2:=hat i
  rw [if_pos rfl,hy] at h2
  split at h2
  ·cases h2
  ·rename_i hl;exact ⟨Option.some.inj h2,hl⟩
 refine ⟨hg,?_,fun x y hy=>?_,fun x z hz=>?_,fun x y hy hx=>?_,fun x y hy hk2 hx=>?_⟩
 ·obtain ⟨r,r1,r2,r3⟩:=T.root
  by_cases hx:(1:Int)=dir
  ·rw [← hx] at hd ad
   rw [hd] at r1
   obtain rfl:=Option.some.inj r1
   exact ⟨_,ad,r2,r3⟩
  ·exact ⟨r,(ao 1 (fun e=>h1 e.symm) hx).trans r1,r2,r3⟩
 ·have hq:=hna x
  by_cases hx:x=i
  ·subst hx
   obtain ⟨rfl,hl⟩:=ai hy
   rw [if_pos rfl] at hq
   have:=T.cnt x n hn
   show n.links-1=_
   omega
  ·rw [if_neg hx] at hq
   by_cases hx2:x=dir
   ·subst hx2
    rw [ad] at hy;obtain rfl:=Option.some.inj hy
    have:d.links=_:=T.cnt x d hd
    show d.links=_
    omega
   ·rw [ao x hx hx2] at hy
    have:=T.cnt x y hy
    omega
 ·have hzf:=T.kid x z (kg x z hz)
  refine ⟨?_,hzf.2⟩
  by_cases hzi:z=i
  ·subst hzi
   have hp:=(Qjh hgr).2 ⟨x,hz⟩
   have hq:=hna z
   rw [if_pos rfl] at hq
   have:=T.cnt z n hn
   exact ⟨Qdv n,by rw [hat,if_pos rfl,if_neg (by omega)]⟩
  ·by_cases hz2:z=dir
   ·subst hz2;exact ⟨_,ad⟩
   ·obtain ⟨w,hw⟩:=hzf.1
    exact ⟨w,(ao z hzi hz2).trans hw⟩
 ·by_cases hx3:x=i
  ·subst hx3
   obtain ⟨rfl,hl⟩:=ai hy
   show 1≤n.links-1
   omega
  ·by_cases hx2:x=dir
   ·subst hx2
    rw [ad] at hy;obtain rfl:=Option.some.inj hy
    exact T.pos x d hd hx
   ·rw [ao x hx3 hx2] at hy;exact T.pos x y hy hx
 ·by_cases hx3:x=i
  ·subst hx3
   obtain ⟨rfl,hl⟩:=ai hy
   have:=(T.dir x n hn hk2 hx).1
   omega
  ·by_cases hx2:x=dir
   ·subst hx2
    rw [ad] at hy;obtain rfl:=Option.some.inj hy
    obtain ⟨g1,g2⟩:=T.dir x d hd hk hx
    exact ⟨g1,hrch g2 hx3⟩
   ·rw [ao x hx3 hx2] at hy
    obtain ⟨g1,g2⟩:=T.dir x y hy hk2 hx
    exact ⟨g1,hrch g2 hx3⟩
theorem TreeP.hop {f f1 g:Fsy} {a b j:Int} {d e n:Nod} {l1 l2:List Ent} (T:TreeP f) (h1:Qal f1) (hg:Qal g) (hd:atF f a=some d) (hk:d.kind=2) (he:atF f1 b=some e) (hke:e.kind=2) (hn:atF f j=some n)
  (at1:∀ x,atF f1 x=if x=a then some (Qa0 d l1) else atF f x) (at2:∀ x,atF g x=if x=b then some (Qa0 e l2) else atF f1 x)
  (c1:∀ z,l1.countP (isE z)+(if z=j then 1 else 0)=d.l.countP (isE z)) (c2:∀ z,l2.countP (isE z)=e.l.countP (isE z)+if z=j then 1 else 0)
  (m1:∀ z,z∈l1.map Ent.ino→z∈d.l.map Ent.ino) (m2:∀ z,z∈d.l.map Ent.ino→z=j∨z∈l1.map Ent.ino) (m3:∀ z,z∈l2.map Ent.ino↔z=j∨z∈e.l.map Ent.ino)
  (hja:j∈Qa3 f a) (hbj:¬ b=j) (hjb:¬ Reach f j b):TreeP g:=by
 have hr:=Qad T.rows
 have hr1:=Qad h1
 have hgr:=Qad hg
 have a1:atF f1 a=some (Qa0 d l1):=by rw [at1,if_pos rfl]
 have a2:atF g b=some (Qa0 e l2):=by rw [at2,if_pos rfl]
 have k1:∀ x z,z∈Qa3 f1 x→z∈Qa3 f x:=fun x z hz=>by
  by_cases hx:x=a
  ·subst hx;rw [Qb0 a1 hk] at hz;rw [Qb0 hd hk];exact m1 z hz
  ·rw [Qe5 (f:=f) (g:=f1) (by rw [at1,if_neg hx])] at hz;exact hz
 have k2:∀ x z,z∈Qa3 f x→z∈Qa3 f1 x∨(x=a∧z=j):=fun x z hz=>by
  by_cases hx:x=a
  ·subst hx
   rw [Qb0 hd hk] at hz;rw [Qb0 a1 hk]
   rcases m2 z hz with h | h
   ·exact .inr ⟨rfl,h⟩
   ·exact .inl h
  ·rw [Qe5 (f:=f) (g:=f1) (by rw [at1,if_neg hx])];exact .inl hz
 have k3:∀ x z,z∈Qa3 g x→z∈Qa3 f1 x∨(x=b∧z=j):=fun x z hz=>by
  by_cases hx:x=b
  ·subst hx
   rw [Qb0 a2 hke] at hz;rw [Qb0 he hke]
   rcases (m3 z).1 hz with h | h
   ·exact .inr ⟨rfl,h⟩
   ·exact .inl h
  ·rw [Qe5 (f:=f1) (g:=g) (by rw [at2,if_neg hx])] at hz;exact .inl hz
 have k4:∀ x z,z∈Qa3 f1 x→z∈Qa3 g x:=fun x z hz=>by
  by_cases hx:x=b
  ·subst hx
   rw [Qb0 he hke] at hz;rw [Qb0 a2 hke]
   exact (m3 z).2 (.inr hz)
  ·rw [Qe5 (f:=f1) (g:=g) (by rw [at2,if_neg hx])];exact hz
 have kj:j∈Qa3 g b:=by rw [Qb0 a2 hke];exact (m3 j).2 (.inl rfl)
 have kfg:∀ x z,z∈Qa3 f x→z∈Qa3 g x∨(x=a∧z=j):=fun x z hz=>(k2 x z hz).imp (k4 x z) id
 have hna:∀ z,nam g z=nam f z:=fun z=>by
  have q1:=Qot (i:=a) hr hr1 (fun j hj=>by rw [at1,if_neg hj]) z
  have q2:=Qot (i:=b) hr1 hgr (fun j hj=>by rw [at2,if_neg hj]) z
  rw [hd,a1] at q1
  rw [he,a2] at q2
  have e1:KO (namK z) (some d)=d.l.countP (isE z):=if_pos hk
  have e2:KO (namK z) (some (Qa0 d l1))=l1.countP (isE z):=if_pos hk
  have e3:KO (namK z) (some e)=e.l.countP (isE z):=if_pos hke
  have e4:KO (namK z) (some (Qa0 e l2))=l2.countP (isE z):=if_pos hke
  rw [e1,e2] at q1
  rw [e3,e4] at q2
  have:=c1 z
  have:=c2 z
  omega
 have hto1:∀ x y,atF f x=some y→∃ y',atF f1 x=some y'∧y'.kind=y.kind∧y'.links=y.links:=fun x y hy=>by
  rw [at1]
  split
  ·rename_i hx;subst hx;rw [hd] at hy;obtain rfl:=Option.some.inj hy;exact ⟨_,rfl,rfl,rfl⟩
  ·exact ⟨y,hy,rfl,rfl⟩
 have hto2:∀ x y,atF f1 x=some y→∃ y',atF g x=some y'∧y'.kind=y.kind∧y'.links=y.links:=fun x y hy=>by
  rw [at2]
  split
  ·rename_i hx;subst hx;rw [he] at hy;obtain rfl:=Option.some.inj hy;exact ⟨_,rfl,rfl,rfl⟩
  ·exact ⟨y,hy,rfl,rfl⟩
 have hto:∀ x y,atF f x=some y→∃ y',atF g x=some y'∧y'.kind=y.kind∧y'.links=y.links:=fun x y hy=>by
  obtain ⟨y1,b1,b2,b3⟩:=hto1 x y hy
  obtain ⟨y2,d1,d2,d3⟩:=hto2 x y1 b1
  exact ⟨y2,d1,d2.trans b2,d3.trans b3⟩
 have hof:∀ x y,atF g x=some y→∃ y',atF f x=some y'∧y.kind=y'.kind∧y.links=y'.links:=fun x y hy=>by
  cases hc:atF f x with
  | some y'=>
   obtain ⟨y2,d1,d2,d3⟩:=hto x y' hc
   rw [d1] at hy
   obtain rfl:=Option.some.inj hy
   exact ⟨y',rfl,d2,d3⟩
  | none=>
   have hxa:¬ x=a:=fun h=>by rw [h,hd] at hc;cases hc
   have hf1:atF f1 x=none:=by rw [at1,if_neg hxa];exact hc
   have hxb:¬ x=b:=fun h=>by rw [h,he] at hf1;cases hf1
   rw [at2,if_neg hxb,hf1] at hy
   cases hy
 have lem:∀ {p q:Int},Reach f p q→Reach g p q∨((p=a∨Reach f p a)∧(q=j∨Reach f j q)):=fun {p q} hpq=>by
  induction hpq with
  | one hz=>
   rcases kfg _ _ hz with h | ⟨h,h2⟩
   ·exact .inl (.one h)
   ·exact .inr ⟨.inl h,.inl h2⟩
  | @more i y z hy hyz ih=>
   rcases ih with ih | ⟨ih,ih2⟩
   ·rcases kfg _ _ hy with h | ⟨h,h2⟩
    ·exact .inl (.more h ih)
    ·exact .inr ⟨.inl h,.inr (h2 ▸ hyz)⟩
   ·refine .inr ⟨.inr ?_,ih2⟩
    rcases ih with rfl | ih
    ·exact .one hy
    ·exact .more hy ih
 obtain ⟨e',he1,he2,he3⟩:∃ e',atF f b=some e'∧e'.kind=2∧True:=by
  obtain ⟨y,hy,hyk,_⟩:=hof b _ a2
  exact ⟨y,hy,hyk.symm.trans hke,trivial⟩
 have hjr:¬ b=1→Reach g 1 b:=fun hb1=>by
  rcases lem (T.reach he1 hb1) with h | ⟨_,h | h⟩
  ·exact h
  ·exact absurd h hbj
  ·exact absurd h hjb
 have h1j:Reach g 1 j:=by
  by_cases hb1:b=1
  ·rw [hb1] at kj;exact .one kj
  ·exact (hjr hb1).snoc kj
 refine ⟨hg,?_,fun x y hy=>?_,fun x z hz=>?_,fun x y hy hx=>?_,fun x y hy hk2 hx=>?_⟩
 ·obtain ⟨r,r1,r2,r3⟩:=T.root
  obtain ⟨y,y1,y2,y3⟩:=hto 1 r r1
  exact ⟨y,y1,y2.trans r2,y3.trans r3⟩
 ·obtain ⟨y',p1,p2,p3⟩:=hof x y hy
  rw [p3,hna];exact T.cnt x y' p1
 ·have hh:∀ w,(∃ n,atF f w=some n)→∃ n,atF g w=some n:=fun w ⟨n,hn⟩=>by
   obtain ⟨y,y1,_⟩:=hto w n hn
   exact ⟨y,y1⟩
  rcases k3 x z hz with h | ⟨_,h⟩
  ·have:=T.kid x z (k1 x z h)
   exact ⟨hh z this.1,this.2⟩
  ·rw [h]
   have:=T.kid a j hja
   exact ⟨hh j this.1,this.2⟩
 ·obtain ⟨y',p1,p2,p3⟩:=hof x y hy
  rw [p3];exact T.pos x y' p1 hx
 ·obtain ⟨y',p1,p2,p3⟩:=hof x y hy
  obtain ⟨g1,g2⟩:=T.dir x y' p1 (p2 ▸ hk2) hx
  refine ⟨p3.trans g1,?_⟩
  rcases lem g2 with h | ⟨_,h | h⟩
  ·exact h
  ·rw [h];exact h1j
  ·rcases lem h with h2 | ⟨h2,_⟩
   ·exact h1j.trans h2
   ·rcases h2 with rfl | h2
    ·exact absurd (.one hja) T.acyc
    ·exact absurd (h2.snoc hja) T.acyc
end Go.Proofs.YtahlldgocpabjaaGreat

namespace Go.Proofs.YtahlldgocpabjaaGreat
open Go Go.RowKit Copyhold
open Copyhold.Name (Srt insE delE getE isAt)
structure Goes (g:Fsy) (a:Int) (s:Txt) (b:Int) (t:Txt) (d e:Nod) (j:Int) (n:Nod):Prop where
 ok:OkF g
 rows:Qal g
 dir:atF g a=some d
 kind:d.kind=2
 chk:Qah s=0
 ent:getE (lI d.l) s=some j
 to:atF g b=some e
 kinde:e.kind=2
 chkt:Qah t=0
 none:getE (lI e.l) t=.none
 node:atF g j=some n
 room:¬ b=a→e.l.length<256
noncomputable def Goes.mid {g:Fsy} {a:Int} {s:Txt} {b:Int} {t:Txt} {d e:Nod} {j:Int} {n:Nod} (_:Goes g a s b t d e j n):Nod:=if b=a then Qa0 d (delL d.l s) else e
structure Gone2 (g:Fsy) (a:Int) (s:Txt) (b:Int) (t:Txt) (d:Nod) (j:Int) (m:Nod):Prop where
 ok:OkF (enterF (leaveF g a s) b t j)
 rows:Qal (enterF (leaveF g a s) b t j)
 next:(enterF (leaveF g a s) b t j).next=g.next
 at0:∀ x,atF (leaveF g a s) x=if x=a then some (Qa0 d (delL d.l s)) else atF g x
 rows0:Qal (leaveF g a s)
 ok0:OkF (leaveF g a s)
 next0:(leaveF g a s).next=g.next
 at1:∀ x,atF (enterF (leaveF g a s) b t j) x=if x=b then some (Qa0 m (entL m.l t j)) else atF (leaveF g a s) x
 mid:atF (leaveF g a s) b=some m
 kind:m.kind=2
 mis:isB m.l t=false
 ment:entE m.l t j=0
 look:Qaz (enterF (leaveF g a s) b t j) b t=0
 lookN:atF (enterF (leaveF g a s) b t j) j=some (lookN (enterF (leaveF g a s) b t j) b t)
 gone:Qaz (enterF (leaveF g a s) b t j) a s=6
theorem Goes.go {g:Fsy} {a:Int} {s:Txt} {b:Int} {t:Txt} {d e:Nod} {j:Int} {n:Nod} (G:Goes g a s b t d e j n) (ht:t.length≤1000000):Gone2 g a s b t d j G.mid:=by
 obtain ⟨l1,l2,l3,l4,l5⟩:=Qdk (s:=s) G.ok G.rows G.dir G.kind
 have hrow:=(Qc3 (Qbn G.rows G.dir).1 G.kind).2
 have hs:=Qcs hrow
 have hlen:=hrow.1
 have hdl:=Qiw hs G.ent
 have hm:atF (leaveF g a s) b=some G.mid:=by
  rw [l5]
  unfold Goes.mid
  split
  ·rfl
  ·exact G.to
 have hk:G.mid.kind=2:=by
  unfold Goes.mid
  split
  ·exact G.kind
  ·exact G.kinde
 have hde:b=a→d=e:=fun h=>by
  have h1:=G.dir
  rw [← h,G.to] at h1
  exact (Option.some.inj h1).symm
 have hg:getE (lI G.mid.l) t=.none:=by
  unfold Goes.mid
  split
  ·rename_i h
   show getE (lI (delL d.l s)) t=_
   rw [get_del hs]
   split
   ·rfl
   ·rw [hde h];exact G.none
  ·exact G.none
 have hb:isB G.mid.l t=false:=by rw [Qe6,hg];rfl
 have hml:G.mid.l.length<256:=by
  unfold Goes.mid
  split
  ·show (delL d.l s).length<256
   omega
  ·rename_i h;exact G.room h
 obtain ⟨n1,n2,n3⟩:=Qbn G.rows G.node
 have hj1:1≤j:=by have:=n1.1;omega
 have hj2:I64 j:=by have:=(G.ok.2.2 n (Qdg G.node)).1;rw [n3] at this;exact this
 obtain ⟨e1,e2,e3,e4,e5⟩:=Qq8 l1 l2 hm hk G.chkt ht hj1 hj2 hb hml
 have hmrow:=(Qc3 (Qbn l2 hm).1 hk).2
 have he0:=Qdf (n:=j) G.chkt hj1 hb hml
 have hst:b=a→¬ s=t:=fun h h2=>by
  have h3:=G.ent
  rw [hde h,h2,G.none] at h3
  cases h3
 have hy:∃ y,atF (enterF (leaveF g a s) b t j) j=some y:=by
  rw [e5]
  split
  ·exact ⟨_,rfl⟩
  ·rw [l5]
   split
   ·exact ⟨_,rfl⟩
   ·exact ⟨_,G.node⟩
 obtain ⟨y,hy⟩:=hy
 have hbb:atF (enterF (leaveF g a s) b t j) b=some (Qa0 G.mid (entL G.mid.l t j)):=by rw [e5,if_pos rfl]
 have hget:getE (lI (Qa0 G.mid (entL G.mid.l t j)).l) t=some j:=by
  show getE (lI (entL G.mid.l t j)) t=_
  rw [Qo4 (Qcs hmrow) he0 hb,if_pos rfl]
 obtain ⟨k1,k2⟩:=Qe3 hbb hk G.chkt hget hy
 refine ⟨e1,e2,by rw [e4,l4],l5,l2,l1,l4,e5,hm,hk,hb,he0,k1,by rw [k2];exact hy,?_⟩
 by_cases h:b=a
 ·refine Qlq (d:=Qa0 G.mid (entL G.mid.l t j)) e2 (by rw [e5,if_pos h.symm]) hk G.chk ?_
  show getE (lI (entL G.mid.l t j)) s=_
  rw [Qo4 (Qcs hmrow) he0 hb,if_neg (hst h)]
  unfold Goes.mid
  rw [if_pos h]
  show getE (lI (delL d.l s)) s=_
  rw [get_del hs,if_pos rfl]
 ·refine Qlq (d:=Qa0 d (delL d.l s)) e2 (by rw [e5,if_neg (fun e=>h e.symm),l5,if_pos rfl]) G.kind G.chk ?_
  show getE (lI (delL d.l s)) s=_
  rw [get_del hs,if_pos rfl]
theorem Goes.back {g:Fsy} {a:Int} {s:Txt} {b:Int} {t:Txt} {d e:Nod} {j:Int} {n:Nod} (G:Goes g a s b t d e j n) (ht:t.length≤1000000) (hs0:s.length≤1000000) (T:TreeP g) (hw:Qbt g b n=false) :
  Qa8 (enterF (leaveF g a s) b t j) b t a s=0∧movF (enterF (leaveF g a s) b t j) b t a s=g:=by
 have Z:=G.go ht
 have hrow:=(Qc3 (Qbn G.rows G.dir).1 G.kind).2
 have hs:=Qcs hrow
 have hnj:=Qcy G.node
 have hkid:j∈Qa3 g a:=by
  obtain ⟨x,hx,_,hi⟩:=Qj1 hs G.ent
  exact Qfy G.dir G.kind hx hi
 have hja:¬ j=a:=fun h=>T.acyc (w:=a) (.one (by rw [h] at hkid;exact hkid))
 have hjb:¬ j=b:=fun h=>by
  have h1:=G.node
  rw [h,G.to] at h1
  have h2:=Option.some.inj h1
  unfold Qbt at hw
  rw [← h2,G.kinde,h2,hnj,h] at hw
  simp at hw
 have hyn:lookN (enterF (leaveF g a s) b t j) b t=n:=by
  have h1:=Z.lookN
  rw [Z.at1,if_neg hjb,Z.at0,if_neg hja,G.node] at h1
  exact (Option.some.inj h1).symm
 have hmid:∀ x∈G.mid.l,x.ino∈Qa3 g b:=fun x hx=>by
  unfold Goes.mid at hx
  split at hx
  ·rename_i h
   rw [h]
   exact Qfy G.dir G.kind (Qpe x hx) rfl
  ·exact Qfy G.to G.kinde hx rfl
 have hkids:∀ p z,z∈Qa3 (enterF (leaveF g a s) b t j) p→z∈Qa3 g p∨z=j:=fun p z hz=>by
  obtain ⟨d',hd',hk',x,hx,hxz⟩:=Qd4 hz
  rw [Z.at1] at hd'
  split at hd'
  ·rename_i h
   obtain rfl:=Option.some.inj hd'
   rcases Zbl x hx with rfl | hx
   ·exact .inr hxz.symm
   ·left;rw [h,← hxz];exact hmid x hx
  ·rw [Z.at0] at hd'
   split at hd'
   ·rename_i h
    obtain rfl:=Option.some.inj hd'
    left;rw [h]
    exact Qfy G.dir G.kind (Qpe x hx) hxz
   ·exact .inl (Qfy hd' hk' hx hxz)
 have hreach:∀ p w,Reach (enterF (leaveF g a s) b t j) p w→(p=j∨Reach g j p)→(w=j∨Reach g j w):=by
  have step:∀ p z,z∈Qa3 (enterF (leaveF g a s) b t j) p→(p=j∨Reach g j p)→(z=j∨Reach g j z):=fun p z hz hp=>by
   rcases hkids p z hz with h | h
   ·rcases hp with hp | hp
    ·rw [hp] at h;exact .inr (.one h)
    ·exact .inr (hp.snoc h)
   ·exact .inl h
  intro p w h
  induction h with
  | one h=>exact step _ _ h
  | more h _ ih=>exact fun hp=>ih (step _ _ h hp)
 have hwi:Qbt (enterF (leaveF g a s) b t j) a n=false:=by
  unfold Qbt
  rw [hnj]
  by_cases hk:n.kind=2
  ·rw [show (a==j)=false from by simpa using fun h=>hja h.symm]
   cases hb:hasB (Qdb (enterF (leaveF g a s) b t j) j) a with
   | false=>simp
   | true=>
    exfalso
    rcases hreach j a (Qgf.1 hb) (.inl rfl) with h | h
    ·exact hja h.symm
    ·exact T.acyc (h.snoc hkid)
  ·simp [hk]
 have hda:∃ d3,atF (enterF (leaveF g a s) b t j) a=some d3∧d3.kind=2∧(¬ a=b→d3.l.length<256):=by
  rw [Z.at1]
  by_cases h:a=b
  ·rw [if_pos h];exact ⟨_,rfl,Z.kind,fun h2=>absurd h h2⟩
  ·rw [if_neg h,Z.at0,if_pos rfl]
   refine ⟨_,rfl,G.kind,fun _=>?_⟩
   show (delL d.l s).length<256
   have:=Qiw hs G.ent
   have:=hrow.1
   omega
 obtain ⟨d3,hd3,hk3,hl3⟩:=hda
 obtain ⟨q1,q2⟩:=Qq9 hd3 hk3
 have h1:mov1 (enterF (leaveF g a s) b t j) b t a s=0:=by
  unfold mov1
  rw [Zgz,if_pos Z.look,if_pos q1,if_pos G.chk,hyn,hwi];rfl
 have hB:movB (enterF (leaveF g a s) b t j) a s=false:=by
  unfold movB
  rw [q2,Qe6]
  cases hg:getE (lI d3.l) s with
  | none=>rfl
  | some i=>
   exfalso
   have hmem:=Qj1 (Qcs (Qc3 (Qbn Z.rows hd3).1 hk3).2) hg
   obtain ⟨x,hx,_,hxi⟩:=hmem
   have hkz:=Qfy hd3 hk3 hx hxi
   have hat:∃ y,atF (enterF (leaveF g a s) b t j) i=some y:=by
    rcases hkids a i hkz with h | h
    ·obtain ⟨⟨y,hy⟩,_⟩:=T.kid a i h
     rw [Z.at1]
     split
     ·exact ⟨_,rfl⟩
     ·rw [Z.at0]
      split
      ·exact ⟨_,rfl⟩
      ·exact ⟨_,hy⟩
    ·rw [h];exact ⟨_,Z.lookN⟩
   obtain ⟨y,hy⟩:=hat
   have:=(Qe3 hd3 hk3 G.chk hg hy).1
   rw [Z.gone] at this
   cases this
 have h2:mov2 (enterF (leaveF g a s) b t j) b t a s=0:=by
  unfold mov2
  rw [if_pos hB,Qry (by decide),q2]
  by_cases h:a=b
  ·simp [h]
  ·have:=hl3 h
   have e:decide ((d3.l.length:Int)≥256)=false:=decide_eq_false (by omega)
   rw [e];simp
 refine ⟨by unfold Qa8;rw [if_pos h1,h2],?_⟩
 unfold movF
 rw [if_pos h1,if_neg (fun h=>by rw [hB] at h;cases h.1),if_pos h2,hB,hyn]
 unfold mov0
 rw [if_neg (by decide),hnj]
 have hbb:atF (enterF (leaveF g a s) b t j) b=some (Qa0 G.mid (entL G.mid.l t j)):=by rw [Z.at1,if_pos rfl]
 obtain ⟨p1,p2,p3,p4,p5⟩:=Qdk (s:=t) Z.ok Z.rows hbb Z.kind
 have hback:leaveF (enterF (leaveF g a s) b t j) b t=leaveF g a s:=by
  refine Qs4 (Qad p2) (Qad Z.rows0) (fun x=>?_) (by rw [p4,Z.next,Z.next0])
  rw [p5]
  by_cases h:x=b
  ·rw [if_pos h,h,Z.mid]
   show some (Qa0 _ (delL (entL G.mid.l t j) t))=_
   have hsm:=Qcs (Qc3 (Qbn Z.rows0 Z.mid).1 Z.kind).2
   rw [Zbx hsm Z.ment Z.mis]
   rfl
  ·rw [if_neg h,Z.at1,if_neg h]
 rw [hback]
 have haa:atF (leaveF g a s) a=some (Qa0 d (delL d.l s)):=by rw [Z.at0,if_pos rfl]
 rw [Qdn haa]
 obtain ⟨n1,n2,n3⟩:=Qbn G.rows G.node
 show setL _ _ (entL (delL d.l s) s j)=g
 rw [Zim hrow G.chk (by have:=n1.1;omega) G.ent]
 obtain ⟨s1,s2,s3,s4⟩:=Qel Z.rows0 haa G.kind hrow
 refine Qs4 (Qad s1) (Qad G.rows) (fun x=>?_) (by rw [s3,Z.next0])
 rw [s4]
 by_cases h:x=a
 ·rw [if_pos h,h,G.dir];rfl
 ·rw [if_neg h,Z.at0,if_neg h]
end Go.Proofs.YtahlldgocpabjaaGreat
