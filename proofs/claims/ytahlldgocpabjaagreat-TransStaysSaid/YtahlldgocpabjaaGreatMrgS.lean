import Derived.Test.YtahlldgocpabjaaGreatMrgR
set_option maxRecDepth 100000
set_option maxHeartbeats 8000000
set_option linter.unusedVariables false
set_option linter.unusedSimpArgs false
namespace Go.Proofs.YtahlldgocpabjaaGreat
open Go Go.RowKit Copyhold
open Copyhold.Name (Srt insE delE getE isAt)
theorem Qs3 {l:List NEnt} (h:Srt l) {x:NEnt}:x∈l↔getE l x.1=some x.2:=by
 unfold getE
 constructor
 ·intro hx
  have key:∀ l:List NEnt,Srt l→x∈l→l.find? (fun y=>y.1==x.1)=some x:=by
   intro l
   induction l with
   | nil=>intro _ h;cases h
   | cons a r ih=>
    intro hs hm
    rw [List.find?_cons]
    rcases List.mem_cons.1 hm with e | hm
    ·rw [← e];simp
    ·have hlt:=Name.Srt.head hs x hm
     have hne:(a.1==x.1)=false:=by
      cases hc:a.1==x.1 with
      | false=>rfl
      | true=>rw [beq_iff_eq.1 hc] at hlt;exact absurd hlt (fun h=>Name.ltI h)
     rw [hne]
     exact ih (Name.Srt.tail hs) hm
  rw [key l h hx];rfl
 ·intro hx
  cases hf:l.find? (fun y=>y.1==x.1) with
  | none=>rw [hf] at hx;cases hx
  | some y=>
   rw [hf] at hx
   have h1:y.1=x.1:=by simpa using List.find?_some hf
   have h2:y.2=x.2:=Option.some.inj hx
   have:y=x:=Prod.ext h1 h2
   exact this ▸ List.mem_of_find?_eq_some hf
theorem Qya:∀ {a b:List NEnt},Srt a→Srt b→(∀ x,x∈a↔x∈b)→a=b
 | [],[],_,_,_=>rfl
 | [],y :: s,_,_,h=>absurd ((h y).2 (by simp)) (by simp)
 | x :: r,[],_,_,h=>absurd ((h x).1 (by simp)) (by simp)
 | x :: r,y :: s,ha,hb,h=>by
  have e:x=y:=by
   rcases List.mem_cons.1 ((h x).1 (by simp)) with e | e
   ·exact e
   ·rcases List.mem_cons.1 ((h y).2 (by simp)) with e2 | e2
    ·exact e2.symm
    ·exact absurd (Name.ltT (Name.Srt.head hb x e) (Name.Srt.head ha y e2)) (fun h=>Name.ltI h)
  subst e
  rw [Qya (Name.Srt.tail ha) (Name.Srt.tail hb) fun z=>⟨fun hz=>?_,fun hz=>?_⟩]
  ·rcases List.mem_cons.1 ((h z).1 (by simp [hz])) with e | e
   ·have:=Name.Srt.head ha z hz;rw [e] at this;exact absurd this (fun h=>Name.ltI h)
   ·exact e
  ·rcases List.mem_cons.1 ((h z).2 (by simp [hz])) with e | e
   ·have:=Name.Srt.head hb z hz;rw [e] at this;exact absurd this (fun h=>Name.ltI h)
   ·exact e
theorem Zhz {a b:List Ent} (ha:Srt (lI a)) (hb:Srt (lI b)) (h:∀ t,getE (lI a) t=getE (lI b) t):a=b:=
 Zal (Qya ha hb fun x=>by rw [Qs3 ha,Qs3 hb,h])
theorem Qiw {l:List Ent} {s:Txt} {j:Int} (h:Srt (lI l)) (hj:getE (lI l) s=some j):(delL l s).length+1=l.length:=by
 have hi:isB l s=true:=by rw [Qe6,hj];rfl
 have:=Qok h hi
 unfold delL
 rw [if_pos hi]
 simp only [List.length_append,List.length_take,List.length_drop]
 omega
theorem Qtd {l:List Ent} {s:Txt} (h:Srt (lI l)):isB (delL l s) s=false:=by rw [Qe6,get_del h,if_pos rfl];rfl
theorem Zim {l:List Ent} {s:Txt} {j:Int} (h:rowP l) (hc:Qah s=0) (hn:1≤j) (hj:getE (lI l) s=some j):entL (delL l s) s j=l:=by
 have hs:=Qcs h
 have hd:=Qcs (Zbv (s:=s) h)
 have hl:=Qiw hs hj
 have hlen:=h.1
 have he:=Qdf (l:=delL l s) (n:=j) hc hn (Qtd hs) (by omega)
 refine Zhz ?_ hs fun t=>?_
 ·rw [Qqq hd he];exact Name.srt_ins hd (Qtd hs)
 ·rw [Qo4 hd he (Qtd hs),get_del hs]
  split
  ·rename_i e;rw [e,hj]
  ·rfl
theorem Qj1 {l:List Ent} {s:Txt} {j:Int} (h:Srt (lI l)) (hj:getE (lI l) s=some j):∃ e∈l,e.name=s∧e.ino=j:=by
 have:=(Qs3 h (x:=((s,j):NEnt))).2 hj
 unfold lI at this
 obtain ⟨e,he,h2⟩:=List.mem_map.1 this
 exact ⟨e,he,congrArg Prod.fst h2,congrArg Prod.snd h2⟩
theorem Qyg {f:Fsy} {i:Int} {d:Nod} {l:List Ent} (okf:OkF f) (hp:Qal f) (hd:atF f i=some d) (hl:l.length≤1000000) (he:∀ e∈l,OkE e):OkF (setL f d l):=by
 have okd:=okf.2.2 d (Qdg hd)
 have h2:=(Qbn hp hd).2.1
 obtain ⟨hf,hf2⟩:=okf.1
 have h256:f.l.length≤256:=hp.1
 exact Qnh okf ⟨okd.1,okd.2.1,okd.2.2.1,okd.2.2.2.1,by show l.length≤_;omega,he⟩ (by show d.ino<_;omega) (by omega)
theorem Qpe {l:List Ent} {s:Txt}:∀ e∈delL l s,e∈l:=fun e he=>by
 unfold delL at he
 split at he
 ·rcases List.mem_append.1 he with h | h
  ·exact List.mem_of_mem_take h
  ·exact List.mem_of_mem_drop h
 ·exact he
theorem Zbl {l:List Ent} {s:Txt} {n:Int}:∀ e∈entL l s n,e=⟨s,n⟩∨e∈l:=fun e he=>by
 unfold entL at he
 split at he
 ·rcases List.mem_append.1 he with h | h
  ·exact .inr (List.mem_of_mem_take h)
  ·rcases List.mem_cons.1 h with h | h
   ·exact .inl h
   ·exact .inr (List.mem_of_mem_drop h)
 ·exact .inr he
theorem Qdk {f:Fsy} {dir:Int} {s:Txt} {d:Nod} (okf:OkF f) (hp:Qal f) (hd:atF f dir=some d) (hk:d.kind=2) :
  OkF (leaveF f dir s)∧Qal (leaveF f dir s)∧(leaveF f dir s).l.length=f.l.length∧(leaveF f dir s).next=f.next∧∀ j,atF (leaveF f dir s) j=if j=dir then some (Qa0 d (delL d.l s)) else atF f j:=by
 have hrow:=(Qc3 (Qbn hp hd).1 hk).2
 have okd:=okf.2.2 d (Qdg hd)
 have hlen:=hrow.1
 have:=Qtc (l:=d.l) (s:=s)
 rw [Qio hd]
 obtain ⟨s1,s2,s3,s4⟩:=Qel hp hd hk (Zbv (s:=s) hrow)
 exact ⟨Qyg okf hp hd (by omega) (fun e he=>okd.2.2.2.2.2 e (Qpe e he)),s1,s2,s3,s4⟩
theorem Qq8 {f:Fsy} {dir:Int} {s:Txt} {i:Int} {d:Nod} (okf:OkF f) (hp:Qal f) (hd:atF f dir=some d) (hk:d.kind=2) (hc:Qah s=0) (hs:s.length≤1000000) (hi:1≤i) (hi2:I64 i) (hb:isB d.l s=false) (hl:d.l.length<256) :
  OkF (enterF f dir s i)∧Qal (enterF f dir s i)∧(enterF f dir s i).l.length=f.l.length∧(enterF f dir s i).next=f.next∧∀ j,atF (enterF f dir s i) j=if j=dir then some (Qa0 d (entL d.l s i)) else atF f j:=by
 have hrow:=(Qc3 (Qbn hp hd).1 hk).2
 have okd:=okf.2.2 d (Qdg hd)
 have:=Ql9 (l:=d.l) (s:=s) (n:=i)
 rw [Qdn hd]
 obtain ⟨s1,s2,s3,s4⟩:=Qel hp hd hk (Qpc hrow hc hi hb hl)
 exact ⟨Qyg okf hp hd (by omega) (fun e he=>by
  rcases Zbl e he with rfl | he
  ·exact ⟨by show s.length≤_;omega,hi2⟩
  ·exact okd.2.2.2.2.2 e he),s1,s2,s3,s4⟩
theorem Qkt {f:Fsy} {dir:Int} {s:Txt} {d n:Nod} (okf:OkF f) (hp:Qal f) (hd:atF f dir=some d) (hk:d.kind=2) (hn:atF f n.ino=some n∨n=nod0) :
  OkF (Qbc f dir s n)∧Qal (Qbc f dir s n)∧(Qbc f dir s n).l.length≤f.l.length∧(Qbc f dir s n).next=f.next∧∀ j,atF (Qbc f dir s n) j=if j=n.ino then (if n.links-1<1 then none else some (Qdv n)) else if j=dir then some (Qa0 d (delL d.l s)) else atF f j:=by
 obtain ⟨l1,l2,l3,l4,l5⟩:=Qdk (s:=s) okf hp hd hk
 unfold Qbc
 by_cases hl:n.links-1<1
 ·simp only [hl,if_true]
  refine ⟨out_ok l1 (Qad l2),Que l2,by have:=Qsq (leaveF f dir s).l n.ino;show (outN (leaveF f dir s).l n.ino).length≤_;omega,l4,fun j=>?_⟩
  rw [Qvn (Qad l2),l5]
 ·simp only [hl,if_false]
  have hnn:atF f n.ino=some n:=hn.resolve_right (fun e=>by rw [e] at hl;exact hl (by decide))
  obtain ⟨n1,n2,n3⟩:=Qbn hp hnn
  have hthere:∃ m,atF (leaveF f dir s) n.ino=some m:=by
   rw [l5]
   split
   ·exact ⟨_,rfl⟩
   ·exact ⟨_,hnn⟩
  obtain ⟨m,hm⟩:=hthere
  have hN:nodP (Qdv n):=⟨n1.1,by show 0≤n.links-1;omega,by have:=n1.2.2.1;show n.links-1≤64;omega,n1.2.2.2⟩
  obtain ⟨p1,p2,p3,p4⟩:=Qia (n:=Qdv n) l2 hm rfl hN
  have okn:=okf.2.2 n (Qdg hnn)
  obtain ⟨hf,hf2⟩:=okf.1
  have h256:(leaveF f dir s).l.length≤256:=l2.1
  refine ⟨Qnh l1 ⟨okn.1,okn.2.1,⟨by show _≤n.links-1;omega,by have:=n1.2.2.1;show n.links-1≤_;omega⟩,okn.2.2.2⟩ (by show n.ino<_;omega) (by omega),p1,by rw [p2,l3];exact Nat.le_refl _,by rw [p3,l4],fun j=>?_⟩
  rw [p4,l5]
end Go.Proofs.YtahlldgocpabjaaGreat

namespace Go.Proofs.YtahlldgocpabjaaGreat
open Go Go.RowKit Copyhold
open Copyhold.Name (Srt insE delE getE isAt)
noncomputable def mov0 (f:Fsy) (dir:Int) (s:Txt) (to:Int) (t:Txt) (n:Nod) (th:Bool) (m:Nod):Fsy:=enterF (leaveF (if th=true then Qbc f to t m else f) dir s) to t n.ino
noncomputable def mov1 (f:Fsy) (dir:Int) (s:Txt) (to:Int) (t:Txt):Int:=Qaq [Qaz f dir s,dirE f to,Qah t,Qab (Qbt f to (lookN f dir s)) 13]
def movI (f:Fsy) (to:Int) (t:Txt):Int:=getI (dirN f to).l t
def movB (f:Fsy) (to:Int) (t:Txt):Bool:=isB (dirN f to).l t
noncomputable def mov2 (f:Fsy) (dir:Int) (s:Txt) (to:Int) (t:Txt):Int:=if movB f to t=false then Qab ((to != dir)&&decide (((dirN f to).l.length:Int)≥256)) 12 else if movI f to t=(lookN f dir s).ino then 0 else Qcu (lookN f dir s) (Qaa f (movI f to t))
noncomputable def Qa8 (f:Fsy) (dir:Int) (s:Txt) (to:Int) (t:Txt):Int:=if mov1 f dir s to t=0 then mov2 f dir s to t else mov1 f dir s to t
noncomputable def movF (f:Fsy) (dir:Int) (s:Txt) (to:Int) (t:Txt):Fsy:=if mov1 f dir s to t=0 then (if movB f to t=true∧movI f to t=(lookN f dir s).ino then f else if mov2 f dir s to t=0 then mov0 f dir s to t (lookN f dir s) (movB f to t) (Qaa f (movI f to t)) else f) else f
def MovH (f:Fsy) (dir:Int) (s:Txt) (to:Int) (t:Txt) (th:Bool) (m:Nod):Prop:=
 (th=true→OkF (Qbc f to t m)∧Qal (Qbc f to t m)∧OkF (leaveF (Qbc f to t m) dir s)∧Qal (leaveF (Qbc f to t m) dir s))∧(th=false→OkF (leaveF f dir s)∧Qal (leaveF f dir s))
structure MovP (f:Fsy) (a:Int) (s:Txt) (b:Int) (t:Txt) (d dt n:Nod) (j:Int):Prop where
 dir:atF f a=some d
 kind:d.kind=2
 chk:Qah s=0
 ent:getE (lI d.l) s=some j
 node:atF f j=some n
 look:lookN f a s=n
 to:atF f b=some dt
 kindt:dt.kind=2
 chkt:Qah t=0
 apart:Qbt f b n=false
theorem Zgz {a b c d:Int}:Qaq [a,b,c,d]=if a=0 then (if b=0 then (if c=0 then d else c) else b) else a:=by
 unfold Qaq
 by_cases h:a=0<;>by_cases h2:b=0<;>by_cases h3:c=0<;>by_cases h4:d=0<;>simp [h,h2,h3,h4]
theorem Qul {f:Fsy} {dir:Int} {s:Txt} {to:Int} {t:Txt} (hp:Qal f) (h:mov1 f dir s to t=0):∃ d dt n j,MovP f dir s to t d dt n j:=by
 unfold mov1 at h
 rw [Zgz] at h
 split at h
 ·rename_i h1
  split at h
  ·rename_i h2
   split at h
   ·rename_i h3
    obtain ⟨d,j,n,a1,a2,a3,a4,a5⟩:=(Qin hp).1 h1
    obtain ⟨dt,b1,b2,_⟩:=Qvo h2
    have hn:=(Qe3 a1 a2 a3 a4 a5).2
    rw [Qry (by decide),hn] at h
    exact ⟨d,dt,n,j,a1,a2,a3,a4,a5,hn,b1,b2,h3,h⟩
   ·exact absurd h (by assumption)
  ·exact absurd h (by assumption)
 ·exact absurd h (by assumption)
theorem MovP.nino {f:Fsy} {dir:Int} {s:Txt} {to:Int} {t:Txt} {d dt n:Nod} {j:Int} (A:MovP f dir s to t d dt n j):n.ino=j:=Qcy A.node
theorem MovP.mB {f:Fsy} {dir:Int} {s:Txt} {to:Int} {t:Txt} {d dt n:Nod} {j:Int} (A:MovP f dir s to t d dt n j):movB f to t=isB dt.l t∧movI f to t=getI dt.l t∧dirN f to=dt:=by
 have e:=(Qq9 A.to A.kindt).2
 unfold movB movI
 rw [e]
 exact ⟨rfl,rfl,rfl⟩
theorem Qli {n m:Nod} (h:Qcu n m=0):Qcc m=false∧(m.kind=2↔n.kind=2):=by
 unfold Qcu at h
 rw [Qhj] at h
 split at h
 ·rename_i h1
  split at h
  ·rename_i h2
   rw [Qry (by decide)] at h h1 h2
   refine ⟨h,?_⟩
   by_cases hn:n.kind=2<;>by_cases hm:m.kind=2<;>simp_all
  ·exact absurd h (by assumption)
 ·exact absurd h (by assumption)
theorem Ql4 {m:Nod} (h:Qcc m=false) (hk:m.kind=2):m.l=[]:=by
 unfold Qcc at h
 simp only [hk,beq_self_eq_true,Bool.true_and,decide_eq_false_iff_not] at h
 exact List.eq_nil_of_length_eq_zero (by omega)
theorem Qqj {f:Fsy} {dir:Int} {s:Txt} {to:Int} {t:Txt} {d dt n:Nod} {j:Int} (hp:Qal f) (A:MovP f dir s to t d dt n j) (hb:isB dt.l t=true) (ho:Qcu n (Qaa f (getI dt.l t))=0) :
  (atF f (Qaa f (getI dt.l t)).ino=some (Qaa f (getI dt.l t))∨Qaa f (getI dt.l t)=nod0)∧¬ (Qaa f (getI dt.l t)).ino=dir∧¬ (Qaa f (getI dt.l t)).ino=to:=by
 obtain ⟨h1,h2⟩:=Qli ho
 have hx:atF f (Qaa f (getI dt.l t)).ino=some (Qaa f (getI dt.l t))∨Qaa f (getI dt.l t)=nod0:=by
  by_cases hf:Qar f (getI dt.l t)=true
  ·left
   have:=Qe8 hf
   rw [Qcy this]
   exact this
  ·right
   exact (Qtq (Qgr (by simpa using hf))).2
 refine ⟨hx,fun e=>?_,fun e=>?_⟩
 ·rcases hx with hx | hx
  ·rw [e,A.dir] at hx
   have hd:=Option.some.inj hx
   rw [← hd] at h1
   have:=Ql4 h1 A.kind
   have g:=A.ent
   rw [this] at g
   cases g
  ·have:=(Qbn hp A.dir).1.1
   have h3:=(Qbn hp A.dir).2.2
   rw [hx] at e
   have:nod0.ino=0:=rfl
   omega
 ·rcases hx with hx | hx
  ·rw [e,A.to] at hx
   have hd:=Option.some.inj hx
   rw [← hd] at h1
   have:=Ql4 h1 A.kindt
   rw [this] at hb
   cases hb
  ·have:=(Qbn hp A.to).1.1
   have h3:=(Qbn hp A.to).2.2
   rw [hx] at e
   have:nod0.ino=0:=rfl
   omega
theorem Zee {f:Fsy} {dir:Int} {s:Txt} {to:Int} {t:Txt} (okf:OkF f) (hp:Qal f) (h1:mov1 f dir s to t=0) (h2:movB f to t=true→Qcu (lookN f dir s) (Qaa f (movI f to t))=0):MovH f dir s to t (movB f to t) (Qaa f (movI f to t)):=by
 obtain ⟨d,dt,n,j,A⟩:=Qul hp h1
 obtain ⟨e1,e2,e3⟩:=A.mB
 refine ⟨fun hb=>?_,fun _=>?_⟩
 ·have ho:=h2 hb
  rw [e1] at hb
  rw [A.look,e2] at ho
  rw [e2]
  obtain ⟨hx,hd,ht⟩:=Qqj hp A hb ho
  obtain ⟨w1,w2,w3,w4,w5⟩:=Qkt (s:=t) okf hp A.to A.kindt hx
  have hdir:∃ d',atF (Qbc f to t (Qaa f (getI dt.l t))) dir=some d'∧d'.kind=2:=by
   rw [w5,if_neg (fun e=>hd e.symm)]
   split
   ·exact ⟨_,rfl,A.kindt⟩
   ·exact ⟨d,A.dir,A.kind⟩
  obtain ⟨d',g1,g2⟩:=hdir
  obtain ⟨l1,l2,_⟩:=Qdk (s:=s) w1 w2 g1 g2
  exact ⟨w1,w2,l1,l2⟩
 ·obtain ⟨l1,l2,_⟩:=Qdk (s:=s) okf hp A.dir A.kind
  exact ⟨l1,l2⟩
theorem Qwv (f:Fsy) (dir:Int) (s:Txt) (to:Int) (t:Txt) (n:Nod) (th:Bool) (m:Nod) (okf:OkF f) (hp:Qal f) (hs:s.length≤1000000) (ht:t.length≤1000000) (hn:I64 n.ino) (hm:I64 m.ino∧m.ino<9223372036854775807) (hk:0≤m.links∧m.links≤1000) (H:MovH f dir s to t th m):Qaj Tryz.prog 189 [.dptr (fsyA f),.dptr [aB th],.dptr [aI to],.dptr [aS t],.dptr (nodA m),.dptr [aI dir],.dptr [aS s],.dptr (nodA n)] (.agg (fsyA (mov0 f dir s to t n th m))):=by
 exact Qac (F:=Tryz.f189) 400 (
 .new fun b1=>.r 1<|.new fun b2=>.run 1 [b2=b2] rt1<|
 .r 1<|.br 11 (th) (fun q1=>have p1:=booT q1;.run 4 [b2=b2] rt1<|
 .call (Qrp f to t m okf hp ht hm hk)<|
 .run 1 [b2=b2] rt1<|
 .ord [0,1,2,4,5,6,7,3,8,9]<|.run 7 [b2=b2] rt1<|
 .call (Qhr (Qbc f to t m) dir s (H.1 q1).1 (H.1 q1).2.1 hs)<|
 .call (Qf2 (leaveF (Qbc f to t m) dir s) to t n.ino (H.1 q1).2.2.1 (H.1 q1).2.2.2 ht hn)<|
 .run 1 [b1=b1] rt1<|
 .fin (x:=.agg [.sl 5 false ((enterF (leaveF (Qbc f to t m) dir s) to t n.ino).l.map nodA),aI ((enterF (leaveF (Qbc f to t m) dir s) to t n.ino).next)]) (r:=.agg (fsyA (mov0 f dir s to t n th m))) [b1=b1] rt1 (by
  have e:mov0 f dir s to t n th m=enterF (leaveF (Qbc f to t m) dir s) to t n.ino:=by unfold mov0;rw [if_pos q1]
  rw [e]
  exact sR))
 <| fun q1=>have p1:=booF q1;.ord [0,1,2,4,5,6,7,3,8,9]<|.run 7 [b2=b2] rt1<|
 .call (Qhr f dir s okf hp hs)<|
 .call (Qf2 (leaveF f dir s) to t n.ino (H.2 q1).1 (H.2 q1).2 ht hn)<|
 .run 1 [b1=b1] rt1<|
 .fin (x:=.agg [.sl 5 false ((enterF (leaveF f dir s) to t n.ino).l.map nodA),aI ((enterF (leaveF f dir s) to t n.ino).next)]) (r:=.agg (fsyA (mov0 f dir s to t n th m))) [b1=b1] rt1 (by
  have e:mov0 f dir s to t n th m=enterF (leaveF f dir s) to t n.ino:=by unfold mov0;rw [if_neg (by rw [q1];decide)]
  rw [e]
  exact sR)) Tryz.func189 rfl (by kernel_rfl) (by kernel_rfl)
theorem Qgb (e:Int) (f:Fsy) (dir:Int) (s:Txt) (to:Int) (t:Txt) (n:Nod) (th:Bool) (m:Nod) (okf:OkF f) (hp:Qal f) (hs:s.length≤1000000) (ht:t.length≤1000000) (hn:I64 n.ino) (hm:I64 m.ino∧m.ino<9223372036854775807) (hk:0≤m.links∧m.links≤1000) (H:e=0→MovH f dir s to t th m):Qaj Tryz.prog 184 [.agg (fsyA f),aI e,.clo 189 [.dptr (fsyA f),.dptr [aB th],.dptr [aI to],.dptr [aS t],.dptr (nodA m),.dptr [aI dir],.dptr [aS s],.dptr (nodA n)]] (.tup [.agg (fsyA (if e=0 then mov0 f dir s to t n th m else f)),aI e]):=by
 exact Qac (F:=Tryz.f184) 400 (
 .new fun b1=>.new fun b2=>.r 1<|.r 2<|.br 9 (e != 0) (fun q1=>have p1:=bneT q1;.run 4 [b1=b1,b2=b2] rt2<|
 .fin (x:=.tup [.agg (fsyA f),aI e]) (r:=.tup [.agg (fsyA (if e=0 then mov0 f dir s to t n th m else f)),aI e]) [b2=b2] rt1 (by
  rw [if_neg (show ¬ e=0 from by omega)]
  exact sR))
 <| fun q1=>have p1:=bneF q1;.r 1<|.call (Qwv f dir s to t n th m okf hp hs ht hn hm hk (H (by simpa using q1)))<|
 .run 2 [b2=b2] rt1<|
 .fin (x:=.tup [.agg [.sl 5 false ((mov0 f dir s to t n th m).l.map nodA),aI ((mov0 f dir s to t n th m).next)],aI 0]) (r:=.tup [.agg (fsyA (if e=0 then mov0 f dir s to t n th m else f)),aI e]) [b2=b2] rt1 (by
  rw [if_pos (show e=0 from by omega),show e=0 from by omega]
  exact sR)) Tryz.func184 rfl (by kernel_rfl) (by kernel_rfl)
end Go.Proofs.YtahlldgocpabjaaGreat

namespace Go.Proofs.YtahlldgocpabjaaGreat
open Go Go.RowKit Copyhold
theorem Qz5 (f:Fsy) (dir:Int) (s:Txt) (to:Int) (t:Txt) (okf:OkF f) (hp:Qal f) (hs:s.length≤1000000) (ht:t.length≤1000000):Qaj Tryz.prog 145 [.agg (fsyA f),aI dir,aS s,aI to,aS t] (.tup [.agg (fsyA (movF f dir s to t)),aI (Qa8 f dir s to t)]):=by
 have hl:=hp.1
 have hr:=Qad hp
 exact Qac (F:=Tryz.f145) 400 (
 .new fun b1=>.new fun b2=>.new fun b3=>.new fun b4=>.new fun b5=>.new fun b6=>.r 1<|.run 3 [b1=b1,b2=b2,b3=b3] rt3<|
 .call (Qim f dir s hp hs)<|
 .r 3<|.new fun b7=>.run 2 [b7=b7] rt1<|
 .run 2 [b1=b1,b4=b4] rt2<|
 .call (Qhb f to hp)<|
 .r 3<|.new fun b8=>.run 2 [b8=b8] rt1<|
 .ord [0,1,2,4,5,6,3,7,8,9,10,11]<|.run 6 [b5=b5,b1=b1,b4=b4,b7=b7] rt4<|
 .call (Qei t (by omega))<|
 .call (Qrx f to (lookN f dir s) okf (by omega) hr)<|
 .call (Qbm (Qbt f to (lookN f dir s)) 13)<|
 .r 1<|.callS (args0:=[.sl 1 true ([[aI (Qaz f dir s)],[aI (dirE f to)],[aI (Qah t)],[aI (Qab (Qbt f to (lookN f dir s)) 13)]])]) (args:=[.sl 1 false ([(Qaz f dir s),(dirE f to),(Qah t),(Qab (Qbt f to (lookN f dir s)) 13)].map intA)]) ⟨Qw5 (Qaz f dir s) (dirE f to) (Qah t) (Qab (Qbt f to (lookN f dir s)) 13),trivial⟩ (Qci [(Qaz f dir s),(dirE f to),(Qah t),(Qab (Qbt f to (lookN f dir s)) 13)] (by simp))<|
 .r 1<|.r 2<|.br 45 ((Qaq [(Qaz f dir s),(dirE f to),(Qah t),(Qab (Qbt f to (lookN f dir s)) 13)]) != 0) (fun q1=>have p1:=bneT q1;.run 4 [b1=b1,b6=b6] rt2<|
 .fin (x:=.tup [.agg (fsyA f),aI (Qaq [(Qaz f dir s),(dirE f to),(Qah t),(Qab (Qbt f to (lookN f dir s)) 13)])]) (r:=.tup [.agg (fsyA (movF f dir s to t)),aI (Qa8 f dir s to t)]) [b6=b6] rt1 (by
  have h1:¬ mov1 f dir s to t=0:=(bneT q1)
  have e1:Qa8 f dir s to t=mov1 f dir s to t:=if_neg h1
  have e2:movF f dir s to t=f:=if_neg h1
  rw [e1,e2]
  exact sR))
 <| fun q1=>have p1:=bneF q1;.run 3 [b8=b8,b5=b5] rt2<|
 .call (Qfk ((dirN f to).l) t (by have:=(Qc2 hp to).2;omega) (Qc2 hp to).1)<|
 .r 3<|.new fun b9=>.run 2 [b9=b9] rt1<|
 .run 2 [b1=b1] rt1<|
 .call (Qce f (getI ((dirN f to).l) t) (by omega) hr)<|
 .r 3<|.new fun b10=>.run 2 [b10=b10] rt1<|
 .run 3 [b9=b9] rt1<|
 .br 64 (!(isB ((dirN f to).l) t)) (fun q2=>have q2:=notT q2;have p2:=booF q2;.run 4 [b4=b4,b2=b2] rt2<|
 .br 70 (to != dir) (fun q3=>have p3:=bneT q3;.run 3 [b8=b8] rt1<|
 .val 73 (show (aI (((dirN f to).l.map entA).length:Int):AV)=aI (((dirN f to).l).length:Int) from by rw [List.length_map])<|.r 2<|.call (Qbm (decide ((((dirN f to).l).length:Int)≥256)) 12)<|
 .r 1<|.frz 5 [5,6,7,8,9,10,11,12,13,17,18,45,64,70] [6,7,8,9,10,12,17,18] [b1=b1] rt1<|
 .frz 17 [5,6,7,8,9,10,11,12,13,17,18,45,64,70] [6,7,8,9,10,12,18] [b9=b9] rt1<|
 .frz 8 [5,6,7,8,9,10,11,12,13,17,18,45,64,70] [6,7,9,10,12,18] [b4=b4] rt1<|
 .frz 9 [5,6,7,8,9,10,11,12,13,17,18,45,64,70] [6,7,10,12,18] [b5=b5] rt1<|
 .frz 18 [5,6,7,8,9,10,11,12,13,17,18,45,64,70] [6,7,10,12] [b10=b10] rt1<|
 .frz 6 [5,6,7,8,9,10,11,12,13,17,18,45,64,70] [7,10,12] [b2=b2] rt1<|
 .frz 7 [5,6,7,8,9,10,11,12,13,17,18,45,64,70] [10,12] [b3=b3] rt1<|
 .frz 12 [5,6,7,8,9,10,11,12,13,17,18,45,64,70] [10] [b7=b7] rt1<|
 .r 3<|.callS (args0:=[.agg (fsyA f),aI (Qab (decide ((((dirN f to).l).length:Int)≥256)) 12),.clo 189 [.dptr (fsyA f),.dptr [aB (isB ((dirN f to).l) t)],.dptr [aI to],.dptr [aS t],.dptr [aI ((Qaa f (getI ((dirN f to).l) t)).ino),aI ((Qaa f (getI ((dirN f to).l) t)).kind),aI ((Qaa f (getI ((dirN f to).l) t)).links),aS ((Qaa f (getI ((dirN f to).l) t)).text),.sl 2 false ((Qaa f (getI ((dirN f to).l) t)).l.map entA)],.dptr [aI dir],.dptr [aS s],.dptr [aI ((lookN f dir s).ino),aI ((lookN f dir s).kind),aI ((lookN f dir s).links),aS ((lookN f dir s).text),.sl 2 false ((lookN f dir s).l.map entA)]]]) (args:=[.agg (fsyA f),aI (Qab (decide ((((dirN f to).l).length:Int)≥256)) 12),.clo 189 [.dptr (fsyA f),.dptr [aB (isB ((dirN f to).l) t)],.dptr [aI to],.dptr [aS t],.dptr [aI ((Qaa f (getI (dirN f to).l t)).ino),aI ((Qaa f (getI (dirN f to).l t)).kind),aI ((Qaa f (getI (dirN f to).l t)).links),aS ((Qaa f (getI (dirN f to).l t)).text),.sl 2 false ((Qaa f (getI (dirN f to).l t)).l.map entA)],.dptr [aI dir],.dptr [aS s],.dptr [aI ((lookN f dir s).ino),aI ((lookN f dir s).kind),aI ((lookN f dir s).links),aS ((lookN f dir s).text),.sl 2 false ((lookN f dir s).l.map entA)]]]) sr3 (Qgb (Qab (decide ((((dirN f to).l).length:Int)≥256)) 12) f dir s to t (lookN f dir s) (isB ((dirN f to).l) t) (Qaa f (getI (dirN f to).l t)) okf hp hs ht (Qd2 okf hp).1.1 (Qb4 okf hp _) (by have:=Qdt hp (getI (dirN f to).l t);omega) (fun he=>Zee okf hp (show mov1 f dir s to t=0 from bneF q1) (fun hb=>absurd hb (by show ¬ isB (dirN f to).l t=true;rw [q2];decide))))<|
 .run 4 [b6=b6] rt1<|
 .fin (x:=.tup [.agg [.sl 5 false ((if Qab (decide ((((dirN f to).l).length:Int)≥256)) 12=0 then mov0 f dir s to t (lookN f dir s) (isB ((dirN f to).l) t) (Qaa f (getI (dirN f to).l t)) else f).l.map nodA),aI ((if Qab (decide ((((dirN f to).l).length:Int)≥256)) 12=0 then mov0 f dir s to t (lookN f dir s) (isB ((dirN f to).l) t) (Qaa f (getI (dirN f to).l t)) else f).next)],aI (Qab (decide ((((dirN f to).l).length:Int)≥256)) 12)]) (r:=.tup [.agg (fsyA (movF f dir s to t)),aI (Qa8 f dir s to t)]) [b6=b6] rt1 (by
  have h1:mov1 f dir s to t=0:=(bneF q1)
  have e1:Qa8 f dir s to t=mov2 f dir s to t:=if_pos h1
  rw [e1]
  have hb:movB f to t=false:=q2
  have e3:mov2 f dir s to t=Qab (decide ((((dirN f to).l).length:Int)≥256)) 12:=by unfold mov2;rw [if_pos hb];simp only [q3];rfl
  have e2:movF f dir s to t=if mov2 f dir s to t=0 then mov0 f dir s to t (lookN f dir s) (movB f to t) (Qaa f (movI f to t)) else f:=by unfold movF;rw [if_pos h1,if_neg (fun h=>by rw [hb] at h;cases h.1)]
  rw [e2,e3]
  exact sR))
 <| fun q3=>have p3:=bneF q3;.r 5<|.call (Qbm false 12)<|
 .r 1<|.frz 5 [5,6,7,8,9,10,11,12,13,17,18,45,64,70,75] [6,7,8,9,10,12,17,18] [b1=b1] rt1<|
 .frz 17 [5,6,7,8,9,10,11,12,13,17,18,45,64,70,75] [6,7,8,9,10,12,18] [b9=b9] rt1<|
 .frz 8 [5,6,7,8,9,10,11,12,13,17,18,45,64,70,75] [6,7,9,10,12,18] [b4=b4] rt1<|
 .frz 9 [5,6,7,8,9,10,11,12,13,17,18,45,64,70,75] [6,7,10,12,18] [b5=b5] rt1<|
 .frz 18 [5,6,7,8,9,10,11,12,13,17,18,45,64,70,75] [6,7,10,12] [b10=b10] rt1<|
 .frz 6 [5,6,7,8,9,10,11,12,13,17,18,45,64,70,75] [7,10,12] [b2=b2] rt1<|
 .frz 7 [5,6,7,8,9,10,11,12,13,17,18,45,64,70,75] [10,12] [b3=b3] rt1<|
 .frz 12 [5,6,7,8,9,10,11,12,13,17,18,45,64,70,75] [10] [b7=b7] rt1<|
 .r 3<|.callS (args0:=[.agg (fsyA f),aI (Qab false 12),.clo 189 [.dptr (fsyA f),.dptr [aB (isB ((dirN f to).l) t)],.dptr [aI to],.dptr [aS t],.dptr [aI ((Qaa f (getI ((dirN f to).l) t)).ino),aI ((Qaa f (getI ((dirN f to).l) t)).kind),aI ((Qaa f (getI ((dirN f to).l) t)).links),aS ((Qaa f (getI ((dirN f to).l) t)).text),.sl 2 false ((Qaa f (getI ((dirN f to).l) t)).l.map entA)],.dptr [aI dir],.dptr [aS s],.dptr [aI ((lookN f dir s).ino),aI ((lookN f dir s).kind),aI ((lookN f dir s).links),aS ((lookN f dir s).text),.sl 2 false ((lookN f dir s).l.map entA)]]]) (args:=[.agg (fsyA f),aI (Qab false 12),.clo 189 [.dptr (fsyA f),.dptr [aB (isB ((dirN f to).l) t)],.dptr [aI to],.dptr [aS t],.dptr [aI ((Qaa f (getI (dirN f to).l t)).ino),aI ((Qaa f (getI (dirN f to).l t)).kind),aI ((Qaa f (getI (dirN f to).l t)).links),aS ((Qaa f (getI (dirN f to).l t)).text),.sl 2 false ((Qaa f (getI (dirN f to).l t)).l.map entA)],.dptr [aI dir],.dptr [aS s],.dptr [aI ((lookN f dir s).ino),aI ((lookN f dir s).kind),aI ((lookN f dir s).links),aS ((lookN f dir s).text),.sl 2 false ((lookN f dir s).l.map entA)]]]) sr3 (Qgb (Qab false 12) f dir s to t (lookN f dir s) (isB ((dirN f to).l) t) (Qaa f (getI (dirN f to).l t)) okf hp hs ht (Qd2 okf hp).1.1 (Qb4 okf hp _) (by have:=Qdt hp (getI (dirN f to).l t);omega) (fun he=>Zee okf hp (show mov1 f dir s to t=0 from bneF q1) (fun hb=>absurd hb (by show ¬ isB (dirN f to).l t=true;rw [q2];decide))))<|
 .run 4 [b6=b6] rt1<|
 .fin (x:=.tup [.agg [.sl 5 false ((if Qab false 12=0 then mov0 f dir s to t (lookN f dir s) (isB ((dirN f to).l) t) (Qaa f (getI (dirN f to).l t)) else f).l.map nodA),aI ((if Qab false 12=0 then mov0 f dir s to t (lookN f dir s) (isB ((dirN f to).l) t) (Qaa f (getI (dirN f to).l t)) else f).next)],aI (Qab false 12)]) (r:=.tup [.agg (fsyA (movF f dir s to t)),aI (Qa8 f dir s to t)]) [b6=b6] rt1 (by
  have h1:mov1 f dir s to t=0:=(bneF q1)
  have e1:Qa8 f dir s to t=mov2 f dir s to t:=if_pos h1
  rw [e1]
  have hb:movB f to t=false:=q2
  have e3:mov2 f dir s to t=Qab false 12:=by unfold mov2;rw [if_pos hb];simp only [q3];rfl
  have e2:movF f dir s to t=if mov2 f dir s to t=0 then mov0 f dir s to t (lookN f dir s) (movB f to t) (Qaa f (movI f to t)) else f:=by unfold movF;rw [if_pos h1,if_neg (fun h=>by rw [hb] at h;cases h.1)]
  rw [e2,e3]
  exact sR))
 <| fun q2=>have q2:=notF q2;have p2:=booT q2;.run 5 [b7=b7] rt1<|
 .br 77 ((getI ((dirN f to).l) t)==((lookN f dir s).ino)) (fun q4=>have p4:=beqT q4;.run 3 [b1=b1,b6=b6] rt2<|
 .fin (x:=.tup [.agg (fsyA f),aI 0]) (r:=.tup [.agg (fsyA (movF f dir s to t)),aI (Qa8 f dir s to t)]) [b6=b6] rt1 (by
  have h1:mov1 f dir s to t=0:=(bneF q1)
  have e1:Qa8 f dir s to t=mov2 f dir s to t:=if_pos h1
  rw [e1]
  have hb:movB f to t=true:=q2
  have hi:movI f to t=(lookN f dir s).ino:=(beqT q4)
  have e3:mov2 f dir s to t=0:=by unfold mov2;rw [if_neg (by rw [hb];decide),if_pos hi]
  have e2:movF f dir s to t=f:=by unfold movF;rw [if_pos h1,if_pos ⟨hb,hi⟩]
  rw [e2,e3]
  exact sR))
 <| fun q4=>have p4:=beqF q4;.run 2 [b7=b7,b10=b10] rt2<|
 .call (Qzp (lookN f dir s) (Qaa f (getI (dirN f to).l t)) (Qf0 okf _).2.2.2.2.1)<|
 .r 1<|.frz 5 [5,6,7,8,9,10,11,12,13,17,18,45,64,77] [6,7,8,9,10,12,17,18] [b1=b1] rt1<|
 .frz 17 [5,6,7,8,9,10,11,12,13,17,18,45,64,77] [6,7,8,9,10,12,18] [b9=b9] rt1<|
 .frz 8 [5,6,7,8,9,10,11,12,13,17,18,45,64,77] [6,7,9,10,12,18] [b4=b4] rt1<|
 .frz 9 [5,6,7,8,9,10,11,12,13,17,18,45,64,77] [6,7,10,12,18] [b5=b5] rt1<|
 .frz 18 [5,6,7,8,9,10,11,12,13,17,18,45,64,77] [6,7,10,12] [b10=b10] rt1<|
 .frz 6 [5,6,7,8,9,10,11,12,13,17,18,45,64,77] [7,10,12] [b2=b2] rt1<|
 .frz 7 [5,6,7,8,9,10,11,12,13,17,18,45,64,77] [10,12] [b3=b3] rt1<|
 .frz 12 [5,6,7,8,9,10,11,12,13,17,18,45,64,77] [10] [b7=b7] rt1<|
 .r 3<|.callS (args0:=[.agg (fsyA f),aI (Qcu (lookN f dir s) (Qaa f (getI (dirN f to).l t))),.clo 189 [.dptr (fsyA f),.dptr [aB (isB ((dirN f to).l) t)],.dptr [aI to],.dptr [aS t],.dptr [aI ((Qaa f (getI ((dirN f to).l) t)).ino),aI ((Qaa f (getI ((dirN f to).l) t)).kind),aI ((Qaa f (getI ((dirN f to).l) t)).links),aS ((Qaa f (getI ((dirN f to).l) t)).text),.sl 2 false ((Qaa f (getI ((dirN f to).l) t)).l.map entA)],.dptr [aI dir],.dptr [aS s],.dptr [aI ((lookN f dir s).ino),aI ((lookN f dir s).kind),aI ((lookN f dir s).links),aS ((lookN f dir s).text),.sl 2 false ((lookN f dir s).l.map entA)]]]) (args:=[.agg (fsyA f),aI (Qcu (lookN f dir s) (Qaa f (getI (dirN f to).l t))),.clo 189 [.dptr (fsyA f),.dptr [aB (isB ((dirN f to).l) t)],.dptr [aI to],.dptr [aS t],.dptr [aI ((Qaa f (getI (dirN f to).l t)).ino),aI ((Qaa f (getI (dirN f to).l t)).kind),aI ((Qaa f (getI (dirN f to).l t)).links),aS ((Qaa f (getI (dirN f to).l t)).text),.sl 2 false ((Qaa f (getI (dirN f to).l t)).l.map entA)],.dptr [aI dir],.dptr [aS s],.dptr [aI ((lookN f dir s).ino),aI ((lookN f dir s).kind),aI ((lookN f dir s).links),aS ((lookN f dir s).text),.sl 2 false ((lookN f dir s).l.map entA)]]]) sr3 (Qgb (Qcu (lookN f dir s) (Qaa f (getI (dirN f to).l t))) f dir s to t (lookN f dir s) (isB ((dirN f to).l) t) (Qaa f (getI (dirN f to).l t)) okf hp hs ht (Qd2 okf hp).1.1 (Qb4 okf hp _) (by have:=Qdt hp (getI (dirN f to).l t);omega) (fun he=>Zee okf hp (show mov1 f dir s to t=0 from bneF q1) (fun hb=>he)))<|
 .run 4 [b6=b6] rt1<|
 .fin (x:=.tup [.agg [.sl 5 false ((if Qcu (lookN f dir s) (Qaa f (getI (dirN f to).l t))=0 then mov0 f dir s to t (lookN f dir s) (isB ((dirN f to).l) t) (Qaa f (getI (dirN f to).l t)) else f).l.map nodA),aI ((if Qcu (lookN f dir s) (Qaa f (getI (dirN f to).l t))=0 then mov0 f dir s to t (lookN f dir s) (isB ((dirN f to).l) t) (Qaa f (getI (dirN f to).l t)) else f).next)],aI (Qcu (lookN f dir s) (Qaa f (getI (dirN f to).l t)))]) (r:=.tup [.agg (fsyA (movF f dir s to t)),aI (Qa8 f dir s to t)]) [b6=b6] rt1 (by
  have h1:mov1 f dir s to t=0:=(bneF q1)
  have e1:Qa8 f dir s to t=mov2 f dir s to t:=if_pos h1
  rw [e1]
  have hb:movB f to t=true:=q2
  have hi:¬ movI f to t=(lookN f dir s).ino:=(beqF q4)
  have e3:mov2 f dir s to t=Qcu (lookN f dir s) (Qaa f (movI f to t)):=by unfold mov2;rw [if_neg (by rw [hb];decide),if_neg hi]
  have e2:movF f dir s to t=if mov2 f dir s to t=0 then mov0 f dir s to t (lookN f dir s) (movB f to t) (Qaa f (movI f to t)) else f:=by unfold movF;rw [if_pos h1,if_neg (fun h=>hi h.2)]
  rw [e2,e3]
  exact sR)) Tryz.func145 rfl (by kernel_rfl) (by kernel_rfl)
end Go.Proofs.YtahlldgocpabjaaGreat
