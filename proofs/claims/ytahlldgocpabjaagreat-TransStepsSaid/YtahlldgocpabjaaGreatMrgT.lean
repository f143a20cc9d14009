import Derived.Test.YtahlldgocpabjaaGreatMrgS
import Derived.Test.YtahlldgocpabjaaGreatMrgR
set_option maxRecDepth 100000
set_option maxHeartbeats 8000000
set_option linter.unusedVariables false
set_option linter.unusedSimpArgs false
namespace Go.Proofs.YtahlldgocpabjaaGreat
open Go Go.RowKit Copyhold Go.Proofs.Tryz
open Copyhold.Name (Srt insE delE getE isAt)
theorem first5 {a b c d e:Int}:Qat [a,b,c,d,e]=if a=0 then (if b=0 then (if c=0 then (if d=0 then e else d) else c) else b) else a:=by
 unfold Qat;by_cases h:a=0<;>by_cases h2:b=0<;>by_cases h3:c=0<;>by_cases h4:d=0<;>by_cases h5:e=0<;>simp [h,h2,h3,h4,h5]
theorem first6 {a b c d e g:Int}:Qat [a,b,c,d,e,g]=if a=0 then (if b=0 then (if c=0 then (if d=0 then (if e=0 then g else e) else d) else c) else b) else a:=by
 unfold Qat;by_cases h:a=0<;>by_cases h2:b=0<;>by_cases h3:c=0<;>by_cases h4:d=0<;>by_cases h5:e=0<;>by_cases h6:g=0<;>simp [h,h2,h3,h4,h5,h6]
theorem Qts {b:Bool} {e:Int} (he:¬ e=0):Qae b e=0↔b=false:=by
 unfold Qae;cases b<;>simp [he]
theorem Qw5 {f:Fsy} {i:Int} {d:Nod} (h:atF f i=some d):Qaa f i=d:=(Qfl h).2
theorem Qzx {d:Nod} {l:List Ent} (h:nodP d) (hk:d.kind=2) (hl:rowP l):nodP (Qbk d l):=⟨h.1,h.2.1,h.2.2.1,.inl ⟨hk,(Qc6 h hk).1,hl⟩⟩
def setL (f:Fsy) (d:Nod) (l:List Ent):Fsy:=putF f (Qbk d l)
theorem Qes {f:Fsy} {i:Int} {d:Nod} {l:List Ent} (h:Qam f) (hd:atF f i=some d) (hk:d.kind=2) (hl:rowP l):Qam (setL f d l)∧(setL f d l).l.length=f.l.length∧(setL f d l).next=f.next∧∀ j,atF (setL f d l) j=if j=i then some (Qbk d l) else atF f j:=by
 obtain ⟨g1,g2,g3⟩:=Qbm h hd;have hb:Qau f (Qbk d l).ino=true:=by show Qau f d.ino=true;rw [g3];exact (Qfl hd).1
 refine ⟨Qrt h (Qzx g1 hk hl) hb,Quk (Qad h) hb,Qll g2,fun j=>?_⟩;have:=Qnq (n:=Qbk d l) (j:=j) (Qad h);rw [show (Qbk d l).ino=i from g3] at this;exact this
theorem Qi5 {f:Fsy} {n m:Nod} {i:Int} (h:Qam f) (hd:atF f i=some m) (hi:n.ino=i) (hn:nodP n):Qam (putF f n)∧(putF f n).l.length=f.l.length∧(putF f n).next=f.next∧∀ j,atF (putF f n) j=if j=i then some n else atF f j:=by
 obtain ⟨g1,g2,g3⟩:=Qbm h hd;have hb:Qau f n.ino=true:=by rw [hi];exact (Qfl hd).1
 exact ⟨Qrt h hn hb,Quk (Qad h) hb,Qll (by omega),fun j=>by rw [Qnq (Qad h),hi]⟩
structure AddsP (f:Fsy) (dir:Int) (s:Txt) (n:Nod) (d:Nod):Prop where
 dir:atF f dir=some d
 kind:d.kind=2
 check:Qah s=0
 away:isB d.l s=false
 few:f.l.length<256
 fewd:d.l.length<256
 node:nodP (addN f n)
 nol:n.l=[]
theorem Qq0 {f:Fsy} {dir:Int} {s:Txt} {n:Nod} (h:Qaq f dir s n=0):∃ d,AddsP f dir s n d:=by
 unfold Qaq at h;rw [first5] at h
 split at h
 ·rename_i h1
  split at h
  ·rename_i h2
   split at h
   ·rename_i h3
    split at h
    ·rename_i h4;obtain ⟨d,g1,g2,g3,_,_⟩:=Qtg h1;rw [g3] at h3 h4;rw [Qts (by decide)] at h h3 h4;simp only [Bool.or_eq_false_iff,decide_eq_false_iff_not,Bool.not_eq_false'] at h h4;refine ⟨d,g1,g2,h2,h3,by omega,by omega,Qas.1 h.1,List.eq_nil_of_length_eq_zero (by omega)⟩
    ·exact absurd h (by assumption)
   ·exact absurd h (by assumption)
  ·exact absurd h (by assumption)
 ·exact absurd h (by assumption)
theorem Qdp {f:Fsy} {dir:Int} {s:Txt} {i:Int} {d:Nod} (h:atF f dir=some d):enterF f dir s i=setL f d (entL d.l s i):=by unfold enterF setL;rw [Qw5 h]
theorem Qjk {f:Fsy} {dir:Int} {s:Txt} {d:Nod} (h:atF f dir=some d):leaveF f dir s=setL f d (delL d.l s):=by unfold leaveF setL;rw [Qw5 h]
theorem Zkd {f:Fsy} {dir:Int} {s:Txt} {d n:Nod} {j:Int} (h1:atF f dir=some d) (h2:d.kind=2) (h3:Qah s=0) (h4:getE (lI d.l) s=some j) (h5:atF f j=some n) (hf:Qcw n=false) :
  Qbf f dir s=0∧Qd6 f dir s=Qbd f dir s n:=by
 obtain ⟨g1,g2⟩:=Qfg h1 h2 h3 h4 h5;have e:Qbf f dir s=0:=by unfold Qbf;rw [Qso,if_pos g1,g2,hf];rfl
 exact ⟨e,by unfold Qd6;rw [if_pos e,g2]⟩
theorem Ze0 {f:Fsy} (h:Qam f):atF f f.next=none:=by
 cases hc:atF f f.next with
 | none=>rfl
 | some n=>have:=Qbm h hc;omega
theorem Qpc {f:Fsy} {dir:Int} {s:Txt} {n:Nod} (hp:Qam f) (he:Qaq f dir s n=0) :
  Qam (addF f dir s (addN f n))∧Qa3 (addF f dir s (addN f n)) dir s=0∧lookN (addF f dir s (addN f n)) dir s=Qbk (addN f n) []∧Qbf (addF f dir s (addN f n)) dir s=0 ∧
   Qd6 (addF f dir s (addN f n)) dir s=⟨f.l,f.next+1⟩∧Qam ⟨f.l,f.next+1⟩∧Qa3 ⟨f.l,f.next+1⟩ dir s=6:=by
 obtain ⟨d,A⟩:=Qq0 he;obtain ⟨g1,g2,g3⟩:=Qbm hp A.dir;have hr:=Qad hp;have hrow:=(Qc6 g1 A.kind).2;have hnx:1≤f.next:=hp.2.1;have hn:=Ze0 hp;have hne:¬ dir=f.next:=fun e=>by rw [← e,A.dir] at hn;cases hn
 have he0:=Qdh (n:=f.next) A.check hnx A.away A.fewd;have hrow2:=Qqn (n:=f.next) hrow A.check hnx A.away A.fewd;obtain ⟨s1,s2,s3,s4⟩:=Qes hp A.dir A.kind hrow2;have hX:nodP (Qbk (addN f n) []):=by
  have:=A.node;have hl:Qbk (addN f n) []=addN f n:=by unfold Qbk addN;rw [A.nol]
  rw [hl];exact this
 have hXi:(Qbk (addN f n) []).ino=f.next:=rfl;have eA:addF f dir s (addN f n)=putF (setL f d (entL d.l s f.next)) (Qbk (addN f n) []):=by
  unfold addF;rw [show (addN f n).ino=f.next from rfl,Qdp A.dir]
 have r1:Qam (addF f dir s (addN f n)):=by rw [eA];exact Zgg s1 hX (by rw [s2];exact A.few)
 have fA:∀ j,atF (addF f dir s (addN f n)) j=if j=f.next then some (Qbk (addN f n) []) else if j=dir then some (Qbk d (entL d.l s f.next)) else atF f j:=fun j=>by
  rw [eA,Qnq (Qad s1),hXi,s4]
 have nA:(addF f dir s (addN f n)).next=f.next+1:=by rw [eA,Qme (by rw [hXi,s3]),s3]
 have dA:atF (addF f dir s (addN f n)) dir=some (Qbk d (entL d.l s f.next)):=by rw [fA,if_neg hne,if_pos rfl]
 have xA:atF (addF f dir s (addN f n)) f.next=some (Qbk (addN f n) []):=by rw [fA,if_pos rfl]
 have gA:getE (lI (Qbk d (entL d.l s f.next)).l) s=some f.next:=by
  show getE (lI (entL d.l s f.next)) s=_;rw [Qqd (Qcu hrow) he0 A.away,if_pos rfl]
 obtain ⟨l1,l2⟩:=Qfg dA A.kind A.check gA xA;have hfull:Qcw (Qbk (addN f n) [])=false:=by unfold Qcw;simp [Qbk]
 obtain ⟨t1,t2⟩:=Zkd dA A.kind A.check gA xA hfull;have eL:leaveF (addF f dir s (addN f n)) dir s=setL (addF f dir s (addN f n)) (Qbk d (entL d.l s f.next)) d.l:=by
  rw [Qjk dA];show setL _ _ (delL (entL d.l s f.next) s)=_;rw [Zeb (Qcu hrow) he0 A.away]
 obtain ⟨u1,u2,u3,u4⟩:=Qes r1 dA A.kind hrow;have rN:Qam ⟨f.l,f.next+1⟩:=by
  obtain ⟨h1,h2,h3,h4⟩:=Qbg.1 hp;exact Qbg.2 ⟨h1,by show 1≤f.next+1;omega,fun x hx=>⟨(h3 x hx).1,by have:=(h3 x hx).2;show x.ino<f.next+1;omega⟩,h4⟩
 have eT:Qd6 (addF f dir s (addN f n)) dir s=⟨f.l,f.next+1⟩:=by
  rw [t2];unfold Qbd;rw [if_pos (by show (1:Int)-1<1;omega),eL,hXi];refine Qu3 (Qwf (Qad u1)) hr (fun j=>?_) (by show (setL _ _ _).next=f.next+1;rw [u3,nA]);rw [Qxq (Qad u1),u4,fA];show _=atF f j;by_cases hj:j=f.next
  ·rw [if_pos hj,hj,hn]
  ·rw [if_neg hj,if_neg hj];by_cases hd:j=dir
   ·rw [if_pos hd,hd,A.dir];rfl
   ·rw [if_neg hd,if_neg hd]
 refine ⟨r1,l1,l2,t1,eT,rN,?_⟩;refine Qmq (d:=d) rN A.dir A.kind A.check ?_;have:=A.away;rw [Qee] at this;cases hg:getE (lI d.l) s with
 | none=>rfl
 | some j=>rw [hg] at this;cases this
theorem Zka {f:Fsy} {dir:Int} {s:Txt} {n:Nod} (okf:OkF f) (hp:Qam f) (okn:OkN n) (hs:s.length≤1000000) (he:Qaq f dir s n=0) (hx:f.next<4611686018427387904):OkF (addF f dir s (addN f n)):=by
 obtain ⟨d,A⟩:=Qq0 he;have h1:f.l.length≤256:=hp.1;have h2:=(Qbm hp A.dir).2;have okd:=okf.2.2 d (Qdi A.dir);have hnx:1≤f.next:=hp.2.1;have he0:=Qdh (n:=f.next) A.check hnx A.away A.fewd;have okl:OkN (Qbk d (entL d.l s f.next)):=by
  refine ⟨okd.1,okd.2.1,okd.2.2.1,okd.2.2.2.1,?_,fun e hm=>?_⟩
  ·have:=Qnc (l:=d.l) (s:=s) (n:=f.next);have:=A.fewd;show (entL d.l s f.next).length≤_;omega
  ·have hm':e∈entL d.l s f.next:=hm;unfold entL at hm';rw [if_pos he0] at hm';rcases List.mem_append.1 hm' with h | h
   ·exact okd.2.2.2.2.2 e (List.mem_of_mem_take h)
   ·rcases List.mem_cons.1 h with rfl | h
    ·exact ⟨by show s.length≤_;omega,okf.1⟩
    ·exact okd.2.2.2.2.2 e (List.mem_of_mem_drop h)
 have hf:=okf.1;have hs1:=Qmf f.l (Qbk d (entL d.l s f.next));unfold addF;rw [show (addN f n).ino=f.next from rfl,Qdp A.dir];refine Qoo (Qoo okf okl (by show d.ino<_;omega) (by omega)) ?_ (by show f.next<_;omega) (by show (putN f.l _).length≤_;omega);have:=Qq1 (n:=n) okf okn;exact ⟨this.1,this.2.1,this.2.2.1,this.2.2.2.1,by show (0:Nat)≤_;omega,fun e h=>by cases h⟩
end Go.Proofs.YtahlldgocpabjaaGreat

namespace Go.Proofs.YtahlldgocpabjaaGreat
open Go Go.RowKit Copyhold Go.Proofs.Tryz
theorem Zme:Qah [97]=0:=Qqx ⟨by decide,by decide,by decide,by decide,by decide,by decide⟩
theorem Zl4:dirE newF 1=0:=rfl
def Qlb:Nod:=⟨0,1,0,[],[]⟩
theorem Zhx:OkN Qlb:=⟨⟨by decide,by decide⟩,⟨by decide,by decide⟩,⟨by decide,by decide⟩,by show (0:Nat)≤_;omega,by show (0:Nat)≤_;omega,fun e h=>by cases h⟩
theorem Qzb:nodP (addN newF Qlb):=⟨by decide,by decide,by decide,.inr ⟨.inl rfl,by decide,rfl⟩⟩
theorem Qkt:Qaq newF 1 [97] Qlb=0:=by
 unfold Qaq;rw [Zme,Zl4,Qas.2 Qzb];rfl
theorem Zmk:((if Qaq newF 1 [97] Qlb=0 then addF newF 1 [97] (addN newF Qlb) else newF).l.length:Int)=2:=by
 rw [if_pos Qkt];rfl
structure Dfi where
 f:Fsy
 i:Int
 s:Txt
 p:Txt
structure Dbk where
 f:Fsy
 i:Int
 s:Txt
 n:Nod
end Go.Proofs.YtahlldgocpabjaaGreat

namespace Go.Proofs.YtahlldgocpabjaaGreat
open Go Go.RowKit Copyhold Go.Proofs.Tryz
open Copyhold.Name (Srt insE delE getE isAt)
structure GivesP (f:Fsy) (dir:Int) (s:Txt) (i:Int) (d n:Nod):Prop where
 dir:atF f dir=some d
 kind:d.kind=2
 node:atF f i=some n
 file:¬ n.kind=2
 check:Qah s=0
 away:isB d.l s=false
 fewd:d.l.length<256
 links:n.links<64
theorem Zho {f:Fsy} {dir:Int} {s:Txt} {i:Int} (h:Qa6 f dir s i=0):∃ d n,GivesP f dir s i d n:=by
 unfold Qa6 at h;rw [first6] at h
 split at h
 ·rename_i h1
  split at h
  ·rename_i h2
   split at h
   ·rename_i h3
    split at h
    ·rename_i h4
     split at h
     ·rename_i h5;obtain ⟨d,g1,g2,g3,_,_⟩:=Qtg h1;rw [g3] at h h5;rw [Qts (by decide)] at h h2 h3 h5;simp only [Bool.or_eq_false_iff,decide_eq_false_iff_not,Bool.not_eq_false'] at h h2;have hn:=Qfk h2;refine ⟨d,Qaa f i,g1,g2,hn,by simpa using h3,h4,h5,by omega,by omega⟩
     ·exact absurd h (by assumption)
    ·exact absurd h (by assumption)
   ·exact absurd h (by assumption)
  ·exact absurd h (by assumption)
 ·exact absurd h (by assumption)
structure Dgv where
 f:Fsy
 i:Int
 s:Txt
 n:Int
end Go.Proofs.YtahlldgocpabjaaGreat

namespace Go.Proofs.YtahlldgocpabjaaGreat
open Go Go.RowKit Copyhold Go.Proofs.Tryz
theorem Qr2 {f:Fsy} (hp:Qam f) (z:Int):Qou f z=nam f z:=by
 unfold Qou nam;congr 1;refine List.map_congr_left fun n hn=>?_;unfold namK
 split
 ·rfl
 ·rename_i hk;rw [show cntE z n=0 from ?_];unfold cntE;rw [Qew ((Qbg.1 hp).2.2.1 n hn).1 hk];rfl
theorem Qgz {f:Fsy} (hp:Qam f) (i:Int):(Qaa f i).l.map Ent.ino=Qa4 f i:=by
 unfold Qa4
 split
 ·rfl
 ·rename_i hk;by_cases hb:Qau f i=true
  ·rw [Qew ((Qbg.1 hp).2.2.1 _ (Qfa hb)).1 hk];rfl
  ·rw [(Qtf (Qg8 (by simpa using hb))).2];rfl
theorem Qnr {l:List Ent}:∀ {U:List Int} {z:Int},hasB (addE U l) z=true↔hasB U z=true∨z∈l.map Ent.ino:=by
 induction l with
 | nil=>intro U z;simp [addE]
 | cons e r ih=>
  intro U z;show hasB (addE (if hasB U e.ino then U else U++[e.ino]) r) z=true↔_;rw [ih];simp only [List.map_cons,List.mem_cons]
  split
  ·rename_i h;constructor
   ·rintro (g | g)
    ·exact .inl g
    ·exact .inr (.inr g)
   ·rintro (g | g | g)
    ·exact .inl g
    ·rw [g];exact .inl h
    ·exact .inr g
  ·rw [Qd1];constructor
   ·rintro (g | g)
    ·rcases Bool.or_eq_true _ _ ▸ g with g | g
     ·exact .inl g
     ·exact .inr (.inl (by simpa using (beq_iff_eq.1 g).symm))
    ·exact .inr (.inr g)
   ·rintro (g | g | g)
    ·exact .inl (by rw [g];rfl)
    ·exact .inl (by rw [g];simp)
    ·exact .inr g
theorem Qm5 {f:Fsy} {i:Int} (hp:Qam f):∀ (n:Nat) {U:List Int} (p:Nat),(∀ z,hasB U z=true→Reach f i z)→∀ z,hasB (goU f n U p) z=true→Reach f i z
 | 0,U,p,h=>h
 | n+1,U,p,h=>by
  simp only [goU]
  split
  ·rename_i y hy;refine Qm5 hp n (p+1) fun z hz=>?_;rcases Qnr.1 hz with hz | hz
   ·exact h z hz
   ·rw [Qgz hp] at hz;exact (h y (Qhq.2 (List.mem_of_getElem? hy))).snoc hz
  ·exact h
theorem Qlu {l:List Ent}:∀ {U:List Int} {k:Nat} {z:Int},U[k]?=some z→(addE U l)[k]?=some z:=by
 induction l with
 | nil=>intro U k z h;exact h
 | cons e r ih=>
  intro U k z h;show (addE (if hasB U e.ino then U else U++[e.ino]) r)[k]?=some z;refine ih ?_
  split
  ·exact h
  ·rw [List.getElem?_append_left (Qan h)];exact h
theorem Qwz {f:Fsy} {i:Int} (hp:Qam f) (hf:fewF f):∀ (n:Nat) {U:List Int} (p:Nat),Dst f U→200≤n+p→(∀ y∈Qa4 f i,hasB U y=true)→(∀ k z,k<p→U[k]?=some z→∀ y∈Qa4 f z,hasB U y=true) →
  (∀ y∈Qa4 f i,hasB (goU f n U p) y=true)∧∀ z,hasB (goU f n U p) z=true→∀ y∈Qa4 f z,hasB (goU f n U p) y=true
 | 0,U,p,hd,hn,hi,h=>by
  have hl:=hd.le hf;refine ⟨hi,fun z hz=>?_⟩;obtain ⟨k,hk⟩:=List.getElem?_of_mem (Qhq.1 hz);have hk':U[k]?=some z:=hk;exact h k z (by have:=Qan hk';omega) hk'
 | n+1,U,p,hd,hn,hi,h=>by
  simp only [goU]
  split
  ·rename_i y hy;have mono:∀ z,hasB U z=true→hasB (addE U (Qaa f y).l) z=true:=fun z hz=>Qnr.2 (.inl hz);refine Qwz hp hf n (p+1) (Qfc hd fun e he=>Qfb he) (by omega) (fun z hz=>mono z (hi z hz)) fun k z hk hz w hw=>?_;by_cases hkp:k<p
   ·have hk2:k<U.length:=by have:=Qan hy;omega
    have e:U[k]?=some z:=by
     have:=Qlu (l:=(Qaa f y).l) (List.getElem?_eq_getElem hk2);rw [this] at hz;rw [List.getElem?_eq_getElem hk2];exact hz
    exact mono w (h k z hkp e w hw)
   ·have e:k=p:=by omega
    subst e;rw [Qlu hy] at hz;obtain rfl:=Option.some.inj hz;exact Qnr.2 (.inr (by rw [Qgz hp];exact hw))
  ·rename_i hnone;refine ⟨hi,fun z hz=>?_⟩;obtain ⟨k,hk⟩:=List.getElem?_of_mem (Qhq.1 hz);have:U.length≤p:=by
    cases Nat.lt_or_ge p U.length with
    | inl hlt=>rw [List.getElem?_eq_getElem hlt] at hnone;cases hnone
    | inr hge=>exact hge
   exact h k z (by have:=Qan hk;omega) hk
theorem Qz2 {f:Fsy} {i z:Int} (hp:Qam f) (hf:fewF f):hasB (Qcr f i) z=true↔Reach f i z:=by
 have h0:∀ y,hasB (addE [] (Qaa f i).l) y=true↔y∈Qa4 f i:=fun y=>by
  rw [Qnr,Qgz hp];simp [hasB]
 refine ⟨Qm5 hp 300 0 (fun y hy=>.one ((h0 y).1 hy)) z,fun h=>?_⟩;obtain ⟨g1,g2⟩:=Qwz (i:=i) hp hf 300 0 (Qfc (Dst.nil f) fun e he=>Qfb he) (by omega) (fun y hy=>(h0 y).2 hy) (fun k z hk=>absurd hk (Nat.not_lt_zero k));have main:∀ a b,Reach f a b→(∀ y∈Qa4 f a,hasB (Qcr f i) y=true)→hasB (Qcr f i) b=true:=by
  intro a b hab
  induction hab with
  | one h=>exact fun hk=>hk _ h
  | more h _ ih=>exact fun hk=>ih (g2 _ (hk _ h))
 exact main i z h g1
theorem Qie {f:Fsy} (hf:fewF f) (h:Qeu f):TreeP f:=by
 obtain ⟨h1,⟨n0,h2,h3,h4,h5⟩,h6⟩:=h;have hr:=Qad h1;have key:∀ i n,atF f i=some n→n.links=(nam f i:Int)∧(∀ e∈n.l,Qau f e.ino=true)∧(¬ i=1→1≤n.links∧(n.kind=2→n.links≤1∧Reach f 1 i)):=fun i n hn=>by
  obtain ⟨j,hj⟩:=List.getElem?_of_mem (Qdi hn);obtain ⟨a,b,c⟩:=h6 j n hj;rw [Qc1 hn,Qr2 h1] at a;refine ⟨a,fun e he=>by obtain ⟨k,hk⟩:=List.getElem?_of_mem he;exact c k e hk,fun hi=>?_⟩;unfold Qk9 at b;have hj0:¬ j=0:=fun e=>by
   rw [e,h2] at hj;obtain rfl:=Option.some.inj hj;exact hi ((Qc1 hn).symm.trans h3)
  rw [decide_eq_true (show (j:Int)>0 from by omega)] at b;simp only [Bool.true_and,Bool.not_eq_true',Bool.or_eq_false_iff,decide_eq_false_iff_not,Bool.and_eq_false_iff] at b;refine ⟨by omega,fun hk=>?_⟩;rcases b.2 with b2 | b2
  ·simp [hk] at b2
  ·have b3:=b2.2;rw [Qc1 hn] at b3;simp only [Bool.not_eq_false'] at b3;exact ⟨by omega,(Qz2 h1 hf).1 b3⟩
 refine ⟨h1,⟨n0,Qjq h2 h3 hr,h4,h5⟩,fun i n hn=>(key i n hn).1,fun i z hz=>?_,fun i n hn hi=>((key i n hn).2.2 hi).1,fun i n hn hk hi=>?_⟩
 ·obtain ⟨d,hd,hk,e,he,hez⟩:=Qeb hz;have hb:=(key i d hd).2.1 e he;rw [hez] at hb;refine ⟨⟨_,Qfk hb⟩,fun h1z=>?_⟩;have g:=(key 1 n0 (Qjq h2 h3 hr)).1;have:=(Qkg hr).2 ⟨i,hz⟩;rw [h1z] at this;omega
 ·have:=(key i n hn).2.2 hi;have h2:=this.2 hk;exact ⟨by omega,h2.2⟩
def Qbt (f:Fsy) (i:Int) (n:Nod):Bool:=n.kind==2&&(i==n.ino||hasB (Qcj f n.ino) i)
def Qcz (n m:Nod):Int:=Qat [Qae (((n.kind==2) != (m.kind==2))&&(n.kind==2)) 8,Qae (((n.kind==2) != (m.kind==2))&&!(n.kind==2)) 9,Qae (Qcw m) 11]
theorem Qtp (f:Fsy) (i:Int) (n:Nod) (okf:OkF f) (hl:f.l.length≤100000) (hr:Qbq f.l):Qaf prog 187 [.agg (fsyA f),aI i,.agg (nodA n)] (aB (Qbt f i n)):=by
 exact Qac func187 (
 .new fun b1=>.new fun b2=>.r 1<|.u 4 [b2]<|
 .be 10 n.kind 2 (fun p1=>.u 5 [b2]<|
 .be 15 i n.ino (fun p2=>.r 8<|.f (aB (Qbt f i n)) [] (aB true) (by exact Sub.of_eq (congrArg aB (by unfold Qbt;simp [*]))))
 <| fun p2=>.u 4 [b1,b2]<|
 .call (Qzo f i n.ino okf hl hr)<|
 .r 3<|.f (aB (Qbt f i n)) [] (aB (hasB (Qcj f n.ino) i)) (by exact Sub.of_eq (congrArg aB (by unfold Qbt;simp [*]))))
 <| fun p1=>.r 13<|.f (aB (Qbt f i n)) [] (aB false) (by exact Sub.of_eq (congrArg aB (by unfold Qbt;simp [*]))))
theorem Zbz (n m:Nod) (hm:m.l.length≤8796093022207):Qaf prog 188 [.agg (nodA n),.agg (nodA m)] (aI (Qcz n m)):=by
 exact Qac func188 (
 .new fun b1=>.new fun b2=>.r 1<|.ord [0,1,2,3,4,5,6,7,8,9,10,11]<|.u 12 [b1,b1,b2]<|
 .ord [0,1,2,3,5,11,4,6,7,8,9,10,12,13,14,15,16]<|.r 2<|.br 18 (!((n.kind==2)==(m.kind==2))) (fun q1=>have q1:=notT q1;have p1:=beqF q1;.u 4 [b2]<|
 .call (Qbl (n.kind==2) 8)<|
 .r 1<|.is 23 (show (!((n.kind==2)==(m.kind==2)))=true from by rw [q1];rfl)<|.r 3<|.call (Qbl (!(n.kind==2)) 9)<|
 .call (Qm6 m hm)<|
 .call (Qbl (Qcw m) 11)<|
 .r 1<|.cs (args0:=[.sl 1 true ([[aI (Qae (n.kind==2) 8)],[aI (Qae (!(n.kind==2)) 9)],[aI (Qae (Qcw m) 11)]])]) (Qcc [(Qae (n.kind==2) 8),(Qae (!(n.kind==2)) 9),(Qae (Qcw m) 11)] (by simp)) ⟨Qm9 (Qae (n.kind==2) 8) (Qae (!(n.kind==2)) 9) (Qae (Qcw m) 11),trivial⟩<|
 .r 1<|.f (aI (Qcz n m)) [] (aI (Qat [(Qae (n.kind==2) 8),(Qae (!(n.kind==2)) 9),(Qae (Qcw m) 11)])) (by exact Sub.of_eq (congrArg aI (by unfold Qcz;simp only [bne,q1];rfl))))
 <| fun q1=>have q1:=notF q1;have p1:=beqT q1;.u 4 [b2]<|
 .call (Qbl false 8)<|
 .r 1<|.is 23 (show (!((n.kind==2)==(m.kind==2)))=false from by rw [q1];rfl)<|.r 3<|.call (Qbl false 9)<|
 .call (Qm6 m hm)<|
 .call (Qbl (Qcw m) 11)<|
 .r 1<|.cs (args0:=[.sl 1 true ([[aI (Qae false 8)],[aI (Qae false 9)],[aI (Qae (Qcw m) 11)]])]) (Qcc [(Qae false 8),(Qae false 9),(Qae (Qcw m) 11)] (by simp)) ⟨Qm9 (Qae false 8) (Qae false 9) (Qae (Qcw m) 11),trivial⟩<|
 .r 1<|.f (aI (Qcz n m)) [] (aI (Qat [(Qae false 8),(Qae false 9),(Qae (Qcw m) 11)])) (by exact Sub.of_eq (congrArg aI (by unfold Qcz;simp only [bne,q1];rfl))))
end Go.Proofs.YtahlldgocpabjaaGreat

namespace Go.Proofs.YtahlldgocpabjaaGreat
open Go Go.RowKit Copyhold Go.Proofs.Tryz
open Copyhold.Name (Srt insE delE getE isAt)
theorem Qu2 {l:List NEnt} (h:Srt l) {x:NEnt}:x∈l↔getE l x.1=some x.2:=by
 unfold getE;constructor
 ·intro hx;have key:∀ l:List NEnt,Srt l→x∈l→l.find? (fun y=>y.1==x.1)=some x:=by
   intro l
   induction l with
   | nil=>intro _ h;cases h
   | cons a r ih=>
    intro hs hm;rw [List.find?_cons];rcases List.mem_cons.1 hm with e | hm
    ·rw [← e];simp
    ·have hlt:=Name.Srt.head hs x hm;have hne:(a.1==x.1)=false:=by
      cases hc:a.1==x.1 with
      | false=>rfl
      | true=>rw [beq_iff_eq.1 hc] at hlt;exact absurd hlt (fun h=>Name.ltI h)
     rw [hne];exact ih (Name.Srt.tail hs) hm
  rw [key l h hx];rfl
 ·intro hx;cases hf:l.find? (fun y=>y.1==x.1) with
  | none=>rw [hf] at hx;cases hx
  | some y=>
   rw [hf] at hx;have h1:y.1=x.1:=by simpa using List.find?_some hf
   have h2:y.2=x.2:=Option.some.inj hx;have:y=x:=Prod.ext h1 h2;exact this ▸ List.mem_of_find?_eq_some hf
theorem Zaf:∀ {a b:List NEnt},Srt a→Srt b→(∀ x,x∈a↔x∈b)→a=b
 | [],[],_,_,_=>rfl
 | [],y :: s,_,_,h=>absurd ((h y).2 (by simp)) (by simp)
 | x :: r,[],_,_,h=>absurd ((h x).1 (by simp)) (by simp)
 | x :: r,y :: s,ha,hb,h=>by
  have e:x=y:=by
   rcases List.mem_cons.1 ((h x).1 (by simp)) with e | e
   ·exact e
   ·rcases List.mem_cons.1 ((h y).2 (by simp)) with e2 | e2
    ·exact e2.symm
    ·exact absurd (Name.ltT (Name.Srt.head hb x e) (Name.Srt.head ha y e2)) (fun h=>Name.ltI h)
  subst e;rw [Zaf (Name.Srt.tail ha) (Name.Srt.tail hb) fun z=>⟨fun hz=>?_,fun hz=>?_⟩]
  ·rcases List.mem_cons.1 ((h z).1 (by simp [hz])) with e | e
   ·have:=Name.Srt.head ha z hz;rw [e] at this;exact absurd this (fun h=>Name.ltI h)
   ·exact e
  ·rcases List.mem_cons.1 ((h z).2 (by simp [hz])) with e | e
   ·have:=Name.Srt.head hb z hz;rw [e] at this;exact absurd this (fun h=>Name.ltI h)
   ·exact e
theorem Zky {a b:List Ent} (ha:Srt (lI a)) (hb:Srt (lI b)) (h:∀ t,getE (lI a) t=getE (lI b) t):a=b:=
 Zc1 (Zaf ha hb fun x=>by rw [Qu2 ha,Qu2 hb,h])
theorem Qjt {l:List Ent} {s:Txt} {j:Int} (h:Srt (lI l)) (hj:getE (lI l) s=some j):(delL l s).length+1=l.length:=by
 have hi:isB l s=true:=by rw [Qee,hj];rfl
 have:=Qpv h hi;unfold delL;rw [if_pos hi];simp only [List.length_append,List.length_take,List.length_drop];omega
theorem Qvc {l:List Ent} {s:Txt} (h:Srt (lI l)):isB (delL l s) s=false:=by rw [Qee,get_del h,if_pos rfl];rfl
theorem Zls {l:List Ent} {s:Txt} {j:Int} (h:rowP l) (hc:Qah s=0) (hn:1≤j) (hj:getE (lI l) s=some j):entL (delL l s) s j=l:=by
 have hs:=Qcu h;have hd:=Qcu (Zd9 (s:=s) h);have hl:=Qjt hs hj;have hlen:=h.1;have he:=Qdh (l:=delL l s) (n:=j) hc hn (Qvc hs) (by omega);refine Zky ?_ hs fun t=>?_
 ·rw [Qr9 hd he];exact Name.srt_ins hd (Qvc hs)
 ·rw [Qqd hd he (Qvc hs),get_del hs]
  split
  ·rename_i e;rw [e,hj]
  ·rfl
theorem Qk4 {l:List Ent} {s:Txt} {j:Int} (h:Srt (lI l)) (hj:getE (lI l) s=some j):∃ e∈l,e.name=s∧e.ino=j:=by
 have:=(Qu2 h (x:=((s,j):NEnt))).2 hj;unfold lI at this;obtain ⟨e,he,h2⟩:=List.mem_map.1 this;exact ⟨e,he,congrArg Prod.fst h2,congrArg Prod.snd h2⟩
theorem Zal {f:Fsy} {i:Int} {d:Nod} {l:List Ent} (okf:OkF f) (hp:Qam f) (hd:atF f i=some d) (hl:l.length≤1000000) (he:∀ e∈l,OkE e):OkF (setL f d l):=by
 have okd:=okf.2.2 d (Qdi hd);have h2:=(Qbm hp hd).2.1;obtain ⟨hf,hf2⟩:=okf.1;have h256:f.l.length≤256:=hp.1;exact Qoo okf ⟨okd.1,okd.2.1,okd.2.2.1,okd.2.2.2.1,by show l.length≤_;omega,he⟩ (by show d.ino<_;omega) (by omega)
theorem Qqp {l:List Ent} {s:Txt}:∀ e∈delL l s,e∈l:=fun e he=>by
 unfold delL at he
 split at he
 ·rcases List.mem_append.1 he with h | h
  ·exact List.mem_of_mem_take h
  ·exact List.mem_of_mem_drop h
 ·exact he
theorem Zdz {l:List Ent} {s:Txt} {n:Int}:∀ e∈entL l s n,e=⟨s,n⟩∨e∈l:=fun e he=>by
 unfold entL at he
 split at he
 ·rcases List.mem_append.1 he with h | h
  ·exact .inr (List.mem_of_mem_take h)
  ·rcases List.mem_cons.1 h with h | h
   ·exact .inl h
   ·exact .inr (List.mem_of_mem_drop h)
 ·exact .inr he
theorem Qdl {f:Fsy} {dir:Int} {s:Txt} {d:Nod} (okf:OkF f) (hp:Qam f) (hd:atF f dir=some d) (hk:d.kind=2) :
  OkF (leaveF f dir s)∧Qam (leaveF f dir s)∧(leaveF f dir s).l.length=f.l.length∧(leaveF f dir s).next=f.next∧∀ j,atF (leaveF f dir s) j=if j=dir then some (Qbk d (delL d.l s)) else atF f j:=by
 have hrow:=(Qc6 (Qbm hp hd).1 hk).2;have okd:=okf.2.2 d (Qdi hd);have hlen:=hrow.1;have:=Qvb (l:=d.l) (s:=s);rw [Qjk hd];obtain ⟨s1,s2,s3,s4⟩:=Qes hp hd hk (Zd9 (s:=s) hrow);exact ⟨Zal okf hp hd (by omega) (fun e he=>okd.2.2.2.2.2 e (Qqp e he)),s1,s2,s3,s4⟩
theorem Qsq {f:Fsy} {dir:Int} {s:Txt} {i:Int} {d:Nod} (okf:OkF f) (hp:Qam f) (hd:atF f dir=some d) (hk:d.kind=2) (hc:Qah s=0) (hs:s.length≤1000000) (hi:1≤i) (hi2:I64 i) (hb:isB d.l s=false) (hl:d.l.length<256) :
  OkF (enterF f dir s i)∧Qam (enterF f dir s i)∧(enterF f dir s i).l.length=f.l.length∧(enterF f dir s i).next=f.next∧∀ j,atF (enterF f dir s i) j=if j=dir then some (Qbk d (entL d.l s i)) else atF f j:=by
 have hrow:=(Qc6 (Qbm hp hd).1 hk).2;have okd:=okf.2.2 d (Qdi hd);have:=Qnc (l:=d.l) (s:=s) (n:=i);rw [Qdp hd];obtain ⟨s1,s2,s3,s4⟩:=Qes hp hd hk (Qqn hrow hc hi hb hl);exact ⟨Zal okf hp hd (by omega) (fun e he=>by
  rcases Zdz e he with rfl | he
  ·exact ⟨by show s.length≤_;omega,hi2⟩
  ·exact okd.2.2.2.2.2 e he),s1,s2,s3,s4⟩
theorem Qlt {f:Fsy} {dir:Int} {s:Txt} {d n:Nod} (okf:OkF f) (hp:Qam f) (hd:atF f dir=some d) (hk:d.kind=2) (hn:atF f n.ino=some n∨n=nod0) :
  OkF (Qbd f dir s n)∧Qam (Qbd f dir s n)∧(Qbd f dir s n).l.length≤f.l.length∧(Qbd f dir s n).next=f.next∧∀ j,atF (Qbd f dir s n) j=if j=n.ino then (if n.links-1<1 then none else some (Qg7 n)) else if j=dir then some (Qbk d (delL d.l s)) else atF f j:=by
 obtain ⟨l1,l2,l3,l4,l5⟩:=Qdl (s:=s) okf hp hd hk;unfold Qbd;by_cases hl:n.links-1<1
 ·simp only [hl,if_true];refine ⟨out_ok l1 (Qad l2),Qwe l2,by have:=Qun (leaveF f dir s).l n.ino;show (outN (leaveF f dir s).l n.ino).length≤_;omega,l4,fun j=>?_⟩;rw [Qxq (Qad l2),l5]
 ·simp only [hl,if_false];have hnn:atF f n.ino=some n:=hn.resolve_right (fun e=>by rw [e] at hl;exact hl (by decide));obtain ⟨n1,n2,n3⟩:=Qbm hp hnn;have hthere:∃ m,atF (leaveF f dir s) n.ino=some m:=by
   rw [l5]
   split
   ·exact ⟨_,rfl⟩
   ·exact ⟨_,hnn⟩
  obtain ⟨m,hm⟩:=hthere;have hN:nodP (Qg7 n):=⟨n1.1,by show 0≤n.links-1;omega,by have:=n1.2.2.1;show n.links-1≤64;omega,n1.2.2.2⟩
  obtain ⟨p1,p2,p3,p4⟩:=Qi5 (n:=Qg7 n) l2 hm rfl hN;have okn:=okf.2.2 n (Qdi hnn);obtain ⟨hf,hf2⟩:=okf.1;have h256:(leaveF f dir s).l.length≤256:=l2.1;refine ⟨Qoo l1 ⟨okn.1,okn.2.1,⟨by show _≤n.links-1;omega,by have:=n1.2.2.1;show n.links-1≤_;omega⟩,okn.2.2.2⟩ (by show n.ino<_;omega) (by omega),p1,by rw [p2,l3];exact Nat.le_refl _,by rw [p3,l4],fun j=>?_⟩;rw [p4,l5]
end Go.Proofs.YtahlldgocpabjaaGreat

namespace Go.Proofs.YtahlldgocpabjaaGreat
open Go Go.RowKit Copyhold Go.Proofs.Tryz
open Copyhold.Name (Srt insE delE getE isAt)
noncomputable def mov0 (f:Fsy) (dir:Int) (s:Txt) (to:Int) (t:Txt) (n:Nod) (th:Bool) (m:Nod):Fsy:=enterF (leaveF (if th=true then Qbd f to t m else f) dir s) to t n.ino
noncomputable def mov1 (f:Fsy) (dir:Int) (s:Txt) (to:Int) (t:Txt):Int:=Qat [Qa3 f dir s,dirE f to,Qah t,Qae (Qbt f to (lookN f dir s)) 13]
def movI (f:Fsy) (to:Int) (t:Txt):Int:=getI (dirN f to).l t
def movB (f:Fsy) (to:Int) (t:Txt):Bool:=isB (dirN f to).l t
noncomputable def mov2 (f:Fsy) (dir:Int) (s:Txt) (to:Int) (t:Txt):Int:=if movB f to t=false then Qae ((to != dir)&&decide (((dirN f to).l.length:Int)≥256)) 12 else if movI f to t=(lookN f dir s).ino then 0 else Qcz (lookN f dir s) (Qaa f (movI f to t))
noncomputable def Qa8 (f:Fsy) (dir:Int) (s:Txt) (to:Int) (t:Txt):Int:=if mov1 f dir s to t=0 then mov2 f dir s to t else mov1 f dir s to t
noncomputable def movF (f:Fsy) (dir:Int) (s:Txt) (to:Int) (t:Txt):Fsy:=if mov1 f dir s to t=0 then (if movB f to t=true∧movI f to t=(lookN f dir s).ino then f else if mov2 f dir s to t=0 then mov0 f dir s to t (lookN f dir s) (movB f to t) (Qaa f (movI f to t)) else f) else f
def MovH (f:Fsy) (dir:Int) (s:Txt) (to:Int) (t:Txt) (th:Bool) (m:Nod):Prop:=
 (th=true→OkF (Qbd f to t m)∧Qam (Qbd f to t m)∧OkF (leaveF (Qbd f to t m) dir s)∧Qam (leaveF (Qbd f to t m) dir s))∧(th=false→OkF (leaveF f dir s)∧Qam (leaveF f dir s))
structure MovP (f:Fsy) (a:Int) (s:Txt) (b:Int) (t:Txt) (d dt n:Nod) (j:Int):Prop where
 dir:atF f a=some d
 kind:d.kind=2
 chk:Qah s=0
 ent:getE (lI d.l) s=some j
 node:atF f j=some n
 look:lookN f a s=n
 to:atF f b=some dt
 kindt:dt.kind=2
 chkt:Qah t=0
 apart:Qbt f b n=false
theorem Zjw {a b c d:Int}:Qat [a,b,c,d]=if a=0 then (if b=0 then (if c=0 then d else c) else b) else a:=by
 unfold Qat;by_cases h:a=0<;>by_cases h2:b=0<;>by_cases h3:c=0<;>by_cases h4:d=0<;>simp [h,h2,h3,h4]
theorem Qwm {f:Fsy} {dir:Int} {s:Txt} {to:Int} {t:Txt} (hp:Qam f) (h:mov1 f dir s to t=0):∃ d dt n j,MovP f dir s to t d dt n j:=by
 unfold mov1 at h;rw [Zjw] at h
 split at h
 ·rename_i h1
  split at h
  ·rename_i h2
   split at h
   ·rename_i h3;obtain ⟨d,j,n,a1,a2,a3,a4,a5⟩:=(Qjj hp).1 h1;obtain ⟨dt,b1,b2,_⟩:=Qtg h2;have hn:=(Qfg a1 a2 a3 a4 a5).2;rw [Qts (by decide),hn] at h;exact ⟨d,dt,n,j,a1,a2,a3,a4,a5,hn,b1,b2,h3,h⟩
   ·exact absurd h (by assumption)
  ·exact absurd h (by assumption)
 ·exact absurd h (by assumption)
theorem MovP.nino {f:Fsy} {dir:Int} {s:Txt} {to:Int} {t:Txt} {d dt n:Nod} {j:Int} (A:MovP f dir s to t d dt n j):n.ino=j:=Qc1 A.node
theorem MovP.mB {f:Fsy} {dir:Int} {s:Txt} {to:Int} {t:Txt} {d dt n:Nod} {j:Int} (A:MovP f dir s to t d dt n j):movB f to t=isB dt.l t∧movI f to t=getI dt.l t∧dirN f to=dt:=by
 have e:=(Qo3 A.to A.kindt).2;unfold movB movI;rw [e];exact ⟨rfl,rfl,rfl⟩
theorem Qmj {n m:Nod} (h:Qcz n m=0):Qcw m=false∧(m.kind=2↔n.kind=2):=by
 unfold Qcz at h;rw [Qh7] at h
 split at h
 ·rename_i h1
  split at h
  ·rename_i h2;rw [Qts (by decide)] at h h1 h2;refine ⟨h,?_⟩;by_cases hn:n.kind=2<;>by_cases hm:m.kind=2<;>simp_all
  ·exact absurd h (by assumption)
 ·exact absurd h (by assumption)
theorem Qm7 {m:Nod} (h:Qcw m=false) (hk:m.kind=2):m.l=[]:=by
 unfold Qcw at h;simp only [hk,beq_self_eq_true,Bool.true_and,decide_eq_false_iff_not] at h;exact List.eq_nil_of_length_eq_zero (by omega)
theorem Qr3 {f:Fsy} {dir:Int} {s:Txt} {to:Int} {t:Txt} {d dt n:Nod} {j:Int} (hp:Qam f) (A:MovP f dir s to t d dt n j) (hb:isB dt.l t=true) (ho:Qcz n (Qaa f (getI dt.l t))=0) :
  (atF f (Qaa f (getI dt.l t)).ino=some (Qaa f (getI dt.l t))∨Qaa f (getI dt.l t)=nod0)∧¬ (Qaa f (getI dt.l t)).ino=dir∧¬ (Qaa f (getI dt.l t)).ino=to:=by
 obtain ⟨h1,h2⟩:=Qmj ho;have hx:atF f (Qaa f (getI dt.l t)).ino=some (Qaa f (getI dt.l t))∨Qaa f (getI dt.l t)=nod0:=by
  by_cases hf:Qau f (getI dt.l t)=true
  ·left;have:=Qfk hf;rw [Qc1 this];exact this
  ·right;exact (Qtf (Qg8 (by simpa using hf))).2
 refine ⟨hx,fun e=>?_,fun e=>?_⟩
 ·rcases hx with hx | hx
  ·rw [e,A.dir] at hx;have hd:=Option.some.inj hx;rw [← hd] at h1;have:=Qm7 h1 A.kind;have g:=A.ent;rw [this] at g;cases g
  ·have:=(Qbm hp A.dir).1.1;have h3:=(Qbm hp A.dir).2.2;rw [hx] at e;have:nod0.ino=0:=rfl;omega
 ·rcases hx with hx | hx
  ·rw [e,A.to] at hx;have hd:=Option.some.inj hx;rw [← hd] at h1;have:=Qm7 h1 A.kindt;rw [this] at hb;cases hb
  ·have:=(Qbm hp A.to).1.1;have h3:=(Qbm hp A.to).2.2;rw [hx] at e;have:nod0.ino=0:=rfl;omega
theorem Zg4 {f:Fsy} {dir:Int} {s:Txt} {to:Int} {t:Txt} (okf:OkF f) (hp:Qam f) (h1:mov1 f dir s to t=0) (h2:movB f to t=true→Qcz (lookN f dir s) (Qaa f (movI f to t))=0):MovH f dir s to t (movB f to t) (Qaa f (movI f to t)):=by
 obtain ⟨d,dt,n,j,A⟩:=Qwm hp h1;obtain ⟨e1,e2,e3⟩:=A.mB;refine ⟨fun hb=>?_,fun _=>?_⟩
 ·have ho:=h2 hb;rw [e1] at hb;rw [A.look,e2] at ho;rw [e2];obtain ⟨hx,hd,ht⟩:=Qr3 hp A hb ho;obtain ⟨w1,w2,w3,w4,w5⟩:=Qlt (s:=t) okf hp A.to A.kindt hx;have hdir:∃ d',atF (Qbd f to t (Qaa f (getI dt.l t))) dir=some d'∧d'.kind=2:=by
   rw [w5,if_neg (fun e=>hd e.symm)]
   split
   ·exact ⟨_,rfl,A.kindt⟩
   ·exact ⟨d,A.dir,A.kind⟩
  obtain ⟨d',g1,g2⟩:=hdir;obtain ⟨l1,l2,_⟩:=Qdl (s:=s) w1 w2 g1 g2;exact ⟨w1,w2,l1,l2⟩
 ·obtain ⟨l1,l2,_⟩:=Qdl (s:=s) okf hp A.dir A.kind;exact ⟨l1,l2⟩
theorem Qyy (f:Fsy) (dir:Int) (s:Txt) (to:Int) (t:Txt) (n:Nod) (th:Bool) (m:Nod) (okf:OkF f) (hp:Qam f) (hs:s.length≤1000000) (ht:t.length≤1000000) (hn:I64 n.ino) (hm:I64 m.ino∧m.ino<9223372036854775807) (hk:0≤m.links∧m.links≤1000) (H:MovH f dir s to t th m):Qaf prog 189 [.dptr (fsyA f),.dptr [aB th],.dptr [aI to],.dptr [aS t],.dptr (nodA m),.dptr [aI dir],.dptr [aS s],.dptr (nodA n)] (.agg (fsyA (mov0 f dir s to t n th m))):=by
 exact Qac func189 (
 .new fun b1=>.r 1<|.new fun b2=>.u 1 [b2]<|
 .r 1<|.br 11 (th) (fun q1=>have p1:=booT q1;.u 4 [b2]<|
 .call (Qte f to t m okf hp ht hm hk)<|
 .u 1 [b2]<|
 .ord [0,1,2,4,5,6,7,3,8,9]<|.u 7 [b2]<|
 .call (Qim (Qbd f to t m) dir s (H.1 q1).1 (H.1 q1).2.1 hs)<|
 .call (Qf8 (leaveF (Qbd f to t m) dir s) to t n.ino (H.1 q1).2.2.1 (H.1 q1).2.2.2 ht hn)<|
 .u 1 [b1]<|
 .f (.agg (fsyA (mov0 f dir s to t n th m))) [b1] (.agg [.sl 5 false ((enterF (leaveF (Qbd f to t m) dir s) to t n.ino).l.map nodA),aI ((enterF (leaveF (Qbd f to t m) dir s) to t n.ino).next)]) (by
  have e:mov0 f dir s to t n th m=enterF (leaveF (Qbd f to t m) dir s) to t n.ino:=by unfold mov0;rw [if_pos q1]
  rw [e];exact sR))
 <| fun q1=>have p1:=booF q1;.ord [0,1,2,4,5,6,7,3,8,9]<|.u 7 [b2]<|
 .call (Qim f dir s okf hp hs)<|
 .call (Qf8 (leaveF f dir s) to t n.ino (H.2 q1).1 (H.2 q1).2 ht hn)<|
 .u 1 [b1]<|
 .f (.agg (fsyA (mov0 f dir s to t n th m))) [b1] (.agg [.sl 5 false ((enterF (leaveF f dir s) to t n.ino).l.map nodA),aI ((enterF (leaveF f dir s) to t n.ino).next)]) (by
  have e:mov0 f dir s to t n th m=enterF (leaveF f dir s) to t n.ino:=by unfold mov0;rw [if_neg (by rw [q1];decide)]
  rw [e];exact sR))
theorem Qgh (e:Int) (f:Fsy) (dir:Int) (s:Txt) (to:Int) (t:Txt) (n:Nod) (th:Bool) (m:Nod) (okf:OkF f) (hp:Qam f) (hs:s.length≤1000000) (ht:t.length≤1000000) (hn:I64 n.ino) (hm:I64 m.ino∧m.ino<9223372036854775807) (hk:0≤m.links∧m.links≤1000) (H:e=0→MovH f dir s to t th m):Qaf prog 184 [.agg (fsyA f),aI e,.clo 189 [.dptr (fsyA f),.dptr [aB th],.dptr [aI to],.dptr [aS t],.dptr (nodA m),.dptr [aI dir],.dptr [aS s],.dptr (nodA n)]] (.tup [.agg (fsyA (if e=0 then mov0 f dir s to t n th m else f)),aI e]):=by
 exact Qac func184 (
 .new fun b1=>.new fun b2=>.r 1<|.r 2<|.br 9 (e != 0) (fun q1=>have p1:=bneT q1;.u 4 [b1,b2]<|
 .f (.tup [.agg (fsyA (if e=0 then mov0 f dir s to t n th m else f)),aI e]) [b2] (.tup [.agg (fsyA f),aI e]) (by
  rw [if_neg (show ¬ e=0 from by omega)];exact sR))
 <| fun q1=>have p1:=bneF q1;.r 1<|.call (Qyy f dir s to t n th m okf hp hs ht hn hm hk (H (by simpa using q1)))<|
 .u 2 [b2]<|
 .f (.tup [.agg (fsyA (if e=0 then mov0 f dir s to t n th m else f)),aI e]) [b2] (.tup [.agg [.sl 5 false ((mov0 f dir s to t n th m).l.map nodA),aI ((mov0 f dir s to t n th m).next)],aI 0]) (by
  rw [if_pos (show e=0 from by omega),show e=0 from by omega];exact sR))
end Go.Proofs.YtahlldgocpabjaaGreat
