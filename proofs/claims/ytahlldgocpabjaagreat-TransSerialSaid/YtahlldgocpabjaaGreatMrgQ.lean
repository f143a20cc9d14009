import Derived.Test.YtahlldgocpabjaaGreatAl
import Derived.Test.YtahlldgocpabjaaGreatMrgP
import Derived.Laws.FloatArith
import Derived.Laws.ComplexArith
import Derived.Test.YtahlldgocpabjaaGreatRows
import Derived.Test.YtahlldgocpabjaaGreatMrgA
import Derived.Lib.BufferWrite
import Derived.Laws.IdiomStrings
import Derived.Laws.MakeOwn
set_option maxRecDepth 100000
set_option maxHeartbeats 8000000
set_option linter.unusedVariables false
set_option linter.unusedSimpArgs false
namespace Go.Proofs.YtahlldgocpabjaaGreat
open Go Go.RowKit Copyhold Go.Proofs.Tryz
open Copyhold.Name (Srt insE delE getE isAt)
structure Goes (g:Fsy) (a:Int) (s:Txt) (b:Int) (t:Txt) (d e:Nod) (j:Int) (n:Nod):Prop where
 ok:OkF g
 rows:Qan g
 dir:atF g a=some d
 kind:d.kind=2
 chk:Qak s=0
 ent:getE (lI d.l) s=some j
 to:atF g b=some e
 kinde:e.kind=2
 chkt:Qak t=0
 none:getE (lI e.l) t=.none
 node:atF g j=some n
 room:¬ b=a→e.l.length<256
noncomputable def Goes.mid {g:Fsy} {a:Int} {s:Txt} {b:Int} {t:Txt} {d e:Nod} {j:Int} {n:Nod} (_:Goes g a s b t d e j n):Nod:=if b=a then Qbr d (delL d.l s) else e
structure Gone2 (g:Fsy) (a:Int) (s:Txt) (b:Int) (t:Txt) (d:Nod) (j:Int) (m:Nod):Prop where
 ok:OkF (enterF (leaveF g a s) b t j)
 rows:Qan (enterF (leaveF g a s) b t j)
 next:(enterF (leaveF g a s) b t j).next=g.next
 at0:∀ x,atF (leaveF g a s) x=if x=a then some (Qbr d (delL d.l s)) else atF g x
 rows0:Qan (leaveF g a s)
 ok0:OkF (leaveF g a s)
 next0:(leaveF g a s).next=g.next
 at1:∀ x,atF (enterF (leaveF g a s) b t j) x=if x=b then some (Qbr m (entL m.l t j)) else atF (leaveF g a s) x
 mid:atF (leaveF g a s) b=some m
 kind:m.kind=2
 mis:isB m.l t=false
 ment:entE m.l t j=0
 look:Qa4 (enterF (leaveF g a s) b t j) b t=0
 lookN:atF (enterF (leaveF g a s) b t j) j=some (lookN (enterF (leaveF g a s) b t j) b t)
 gone:Qa4 (enterF (leaveF g a s) b t j) a s=6
theorem Goes.go {g:Fsy} {a:Int} {s:Txt} {b:Int} {t:Txt} {d e:Nod} {j:Int} {n:Nod} (G:Goes g a s b t d e j n) (ht:t.length≤1000000):Gone2 g a s b t d j G.mid:=by
 obtain ⟨l1,l2,l3,l4,l5⟩:=Qd8 (s:=s) G.ok G.rows G.dir G.kind;have hrow:=(Qdp (Qbh G.rows G.dir).1 G.kind).2;have hs:=Qdc hrow;have hlen:=hrow.1;have hdl:=Qk5 hs G.ent;have hm:atF (leaveF g a s) b=some G.mid:=by
  rw [l5];unfold Goes.mid
  split
  ·rfl
  ·exact G.to
 have hk:G.mid.kind=2:=by
  unfold Goes.mid
  split
  ·exact G.kind
  ·exact G.kinde
 have hde:b=a→d=e:=fun h=>by
  have h1:=G.dir;rw [← h,G.to] at h1;exact (W0c h1).symm
 have hg:getE (lI G.mid.l) t=.none:=by
  unfold Goes.mid
  split
  ·rename_i h;show getE (lI (delL d.l s)) t=_;rw [get_del hs]
   split
   ·rfl
   ·rw [hde h];exact G.none
  ·exact G.none
 have hb:isB G.mid.l t=false:=by rw [Qer,hg];rfl
 have hml:G.mid.l.length<256:=by
  unfold Goes.mid
  split
  ·show (delL d.l s).length<256;omega
  ·rename_i h;exact G.room h
 obtain ⟨n1,n2,n3⟩:=Qbh G.rows G.node;have hj1:1≤j:=by have:=n1.1;omega
 have hj2:I64 j:=by have:=(G.ok.2.2 n (Qdk G.node)).1;rw [n3] at this;exact this
 obtain ⟨e1,e2,e3,e4,e5⟩:=Qox l1 l2 hm hk G.chkt ht hj1 hj2 hb hml;have hmrow:=(Qdp (Qbh l2 hm).1 hk).2;have he0:=Qd1 (n:=j) G.chkt hj1 hb hml;have hst:b=a→¬ s=t:=fun h h2=>by
  have h3:=G.ent;rw [hde h,h2,G.none] at h3;cases h3
 have hy:∃ y,atF (enterF (leaveF g a s) b t j) j=some y:=by
  rw [e5]
  split
  ·exact ⟨_,rfl⟩
  ·rw [l5]
   split
   ·exact ⟨_,rfl⟩
   ·exact ⟨_,G.node⟩
 obtain ⟨y,hy⟩:=hy;have hbb:atF (enterF (leaveF g a s) b t j) b=some (Qbr G.mid (entL G.mid.l t j)):=by rw [e5,W1y rfl]
 have hget:getE (lI (Qbr G.mid (entL G.mid.l t j)).l) t=some j:=by
  show getE (lI (entL G.mid.l t j)) t=_;rw [Qr6 (Qdc hmrow) he0 hb,W1y rfl]
 obtain ⟨k1,k2⟩:=Qfm hbb hk G.chkt hget hy;refine ⟨e1,e2,by rw [e4,l4],l5,l2,l1,l4,e5,hm,hk,hb,he0,k1,by rw [k2];exact hy,?_⟩;by_cases h:b=a
 ·refine Qoa (d:=Qbr G.mid (entL G.mid.l t j)) e2 (by rw [e5,W1y h.symm]) hk G.chk ?_;show getE (lI (entL G.mid.l t j)) s=_;rw [Qr6 (Qdc hmrow) he0 hb,W1x (hst h)];unfold Goes.mid;rw [W1y h];show getE (lI (delL d.l s)) s=_;rw [get_del hs,W1y rfl]
 ·refine Qoa (d:=Qbr d (delL d.l s)) e2 (by rw [e5,W1x (fun e=>h e.symm),l5,W1y rfl]) G.kind G.chk ?_;show getE (lI (delL d.l s)) s=_;rw [get_del hs,W1y rfl]
theorem Goes.back {g:Fsy} {a:Int} {s:Txt} {b:Int} {t:Txt} {d e:Nod} {j:Int} {n:Nod} (G:Goes g a s b t d e j n) (ht:t.length≤1000000) (hs0:s.length≤1000000) (T:TreeP g) (hw:Qb6 g b n=false) :
  Qbc (enterF (leaveF g a s) b t j) b t a s=0∧movF (enterF (leaveF g a s) b t j) b t a s=g:=by
 have Z:=G.go ht;have hrow:=(Qdp (Qbh G.rows G.dir).1 G.kind).2;have hs:=Qdc hrow;have hnj:=Qc7 G.node;have hkid:j∈Qa9 g a:=by
  obtain ⟨x,hx,_,hi⟩:=Qmi hs G.ent;exact Qid G.dir G.kind hx hi
 have hja:¬ j=a:=fun h=>T.acyc (w:=a) (.one (by rw [h] at hkid;exact hkid));have hjb:¬ j=b:=fun h=>by
  have h1:=G.node;rw [h,G.to] at h1;have h2:=W0c h1;unfold Qb6 at hw;rw [← h2,G.kinde,h2,hnj,h] at hw;simp at hw
 have hyn:lookN (enterF (leaveF g a s) b t j) b t=n:=by
  have h1:=Z.lookN;rw [Z.at1,W1x hjb,Z.at0,W1x hja,G.node] at h1;exact (W0c h1).symm
 have hmid:∀ x∈G.mid.l,x.ino∈Qa9 g b:=fun x hx=>by
  unfold Goes.mid at hx
  split at hx
  ·rename_i h;rw [h];exact Qid G.dir G.kind (Qsh x hx) rfl
  ·exact Qid G.to G.kinde hx rfl
 have hkids:∀ p z,z∈Qa9 (enterF (leaveF g a s) b t j) p→z∈Qa9 g p∨z=j:=fun p z hz=>by
  obtain ⟨d',hd',hk',x,hx,hxz⟩:=Qe4 hz;rw [Z.at1] at hd'
  split at hd'
  ·rename_i h;obtain rfl:=W0c hd';rcases Zg4 x hx with rfl | hx
   ·exact .inr hxz.symm
   ·left;rw [h,← hxz];exact hmid x hx
  ·rw [Z.at0] at hd'
   split at hd'
   ·rename_i h;obtain rfl:=W0c hd';left;rw [h];exact Qid G.dir G.kind (Qsh x hx) hxz
   ·exact .inl (Qid hd' hk' hx hxz)
 have hreach:∀ p w,Reach (enterF (leaveF g a s) b t j) p w→(p=j∨Reach g j p)→(w=j∨Reach g j w):=by
  have step:∀ p z,z∈Qa9 (enterF (leaveF g a s) b t j) p→(p=j∨Reach g j p)→(z=j∨Reach g j z):=fun p z hz hp=>by
   rcases hkids p z hz with h | h
   ·rcases hp with hp | hp
    ·rw [hp] at h;exact .inr (.one h)
    ·exact .inr (hp.snoc h)
   ·exact .inl h
  intro p w h
  induction h with
  | one h=>exact step _ _ h
  | more h _ ih=>exact fun hp=>ih (step _ _ h hp)
 have hwi:Qb6 (enterF (leaveF g a s) b t j) a n=false:=by
  unfold Qb6;rw [hnj];by_cases hk:n.kind=2
  ·rw [show (a==j)=false from by simpa using fun h=>hja h.symm];cases hb:hasB (Qek (enterF (leaveF g a s) b t j) j) a with
   | false=>simp
   | true=>
    exfalso;rcases hreach j a (Qh6.1 hb) (.inl rfl) with h | h
    ·exact hja h.symm
    ·exact T.acyc (h.snoc hkid)
  ·simp [hk]
 have hda:∃ d3,atF (enterF (leaveF g a s) b t j) a=some d3∧d3.kind=2∧(¬ a=b→d3.l.length<256):=by
  rw [Z.at1];by_cases h:a=b
  ·rw [W1y h];exact ⟨_,rfl,Z.kind,fun h2=>absurd h h2⟩
  ·rw [W1x h,Z.at0,W1y rfl];refine ⟨_,rfl,G.kind,fun _=>?_⟩;show (delL d.l s).length<256;have:=Qk5 hs G.ent;have:=hrow.1;omega
 obtain ⟨d3,hd3,hk3,hl3⟩:=hda;obtain ⟨q1,q2⟩:=Qoz hd3 hk3;have h1:mov1 (enterF (leaveF g a s) b t j) b t a s=0:=by
  unfold mov1;rw [Zmg,W1y Z.look,W1y q1,W1y G.chk,hyn,hwi];rfl
 have hB:movB (enterF (leaveF g a s) b t j) a s=false:=by
  unfold movB;rw [q2,Qer];cases hg:getE (lI d3.l) s with
  | none=>rfl
  | some i=>
   exfalso;have hmem:=Qmi (Qdc (Qdp (Qbh Z.rows hd3).1 hk3).2) hg;obtain ⟨x,hx,_,hxi⟩:=hmem;have hkz:=Qid hd3 hk3 hx hxi;have hat:∃ y,atF (enterF (leaveF g a s) b t j) i=some y:=by
    rcases hkids a i hkz with h | h
    ·obtain ⟨⟨y,hy⟩,_⟩:=T.kid a i h;rw [Z.at1]
     split
     ·exact ⟨_,rfl⟩
     ·rw [Z.at0]
      split
      ·exact ⟨_,rfl⟩
      ·exact ⟨_,hy⟩
    ·rw [h];exact ⟨_,Z.lookN⟩
   obtain ⟨y,hy⟩:=hat;have:=(Qfm hd3 hk3 G.chk hg hy).1;rw [Z.gone] at this;cases this
 have h2:mov2 (enterF (leaveF g a s) b t j) b t a s=0:=by
  unfold mov2;rw [W1y hB,Qv4 (by decide),q2];by_cases h:a=b
  ·simp [h]
  ·have:=hl3 h;have e:decide ((d3.l.length:Int)≥256)=false:=decide_eq_false (by omega);rw [e];simp
 refine ⟨by unfold Qbc;rw [W1y h1,h2],?_⟩;unfold movF;rw [W1y h1,W1x (fun h=>by rw [hB] at h;cases h.1),W1y h2,hB,hyn];unfold mov0;rw [W1x (by decide),hnj];have hbb:atF (enterF (leaveF g a s) b t j) b=some (Qbr G.mid (entL G.mid.l t j)):=by rw [Z.at1,W1y rfl]
 obtain ⟨p1,p2,p3,p4,p5⟩:=Qd8 (s:=t) Z.ok Z.rows hbb Z.kind;have hback:leaveF (enterF (leaveF g a s) b t j) b t=leaveF g a s:=by
  refine Ql0 (Qaf p2) (Qaf Z.rows0) (fun x=>?_) (by rw [p4,Z.next,Z.next0]);rw [p5];by_cases h:x=b
  ·rw [W1y h,h,Z.mid];show some (Qbr _ (delL (entL G.mid.l t j) t))=_;have hsm:=Qdc (Qdp (Qbh Z.rows0 Z.mid).1 Z.kind).2;rw [Zhg hsm Z.ment Z.mis];rfl
  ·rw [W1x h,Z.at1,W1x h]
 rw [hback];have haa:atF (leaveF g a s) a=some (Qbr d (delL d.l s)):=by rw [Z.at0,W1y rfl]
 rw [Qee haa];obtain ⟨n1,n2,n3⟩:=Qbh G.rows G.node;show setL _ _ (entL (delL d.l s) s j)=g;rw [Zod hrow G.chk (by have:=n1.1;omega) G.ent];obtain ⟨s1,s2,s3,s4⟩:=Qfk Z.rows0 haa G.kind hrow;refine Ql0 (Qaf s1) (Qaf G.rows) (fun x=>?_) (by rw [s3,Z.next0]);rw [s4];by_cases h:x=a
 ·rw [W1y h,h,G.dir];rfl
 ·rw [W1x h,Z.at0,W1x h]
end Go.Proofs.YtahlldgocpabjaaGreat

namespace Go.Proofs.YtahlldgocpabjaaGreat
open Go Go.RowKit Copyhold Go.Proofs.Tryz
open Copyhold.Name (Srt insE delE getE isAt)
theorem Zdk (K:Nod→Nat) {f g:Fsy} {i:Int} (hf:Qb1 f.l) (hg:Qb1 g.l) (h:∀ j,¬ j=i→atF g j=atF f j):(g.l.map K).sum+KO K (atF f i)=(f.l.map K).sum+KO K (atF g i):=by
 have e:(g.l.filter fun n=>!isNo i n)=f.l.filter fun n=>!isNo i n:=Qmz (List.Pairwise.filter _ hg) (List.Pairwise.filter _ hf) fun x=>by
  rw [W1m,W1m];by_cases hx:x.ino=i
  ·simp [isNo,hx]
  ·rw [Qzg hf,Qzg hg,h _ hx]
 rw [Qfi K i hf,Qfi K i hg,e];unfold atF;omega
def wK (n:Nod):Nat:=1+n.l.length
def wF (f:Fsy):Nat:=(f.l.map wK).sum
theorem Zau (f:Fsy):wF f=f.l.length+(f.l.map wN).sum:=by
 unfold wF
 induction f.l with
 | nil=>rfl
 | cons x r ih=>
  simp only [W1u,List.sum_cons,W0b];rw [ih];have:wK x=1+wN x:=rfl;omega
theorem Zc9 {f:Fsy} {n:Nod} (hr:Qb1 f.l):wF (putF f n)+KO wK (atF f n.ino)=wF f+wK n:=by
 have:=Zdk wK (i:=n.ino) hr (Qi3 (n:=n) hr) (fun j hj=>by rw [Qmm hr,W1x hj]);rw [Qmm hr,W1y rfl] at this;exact this
theorem Zc8 {f:Fsy} {i:Int} {d:Nod} {l:List Ent} (hr:Qb1 f.l) (hd:atF f i=some d):wF (setL f d l)+d.l.length=wF f+l.length:=by
 have:=Zc9 (n:=Qbr d l) hr;rw [show (Qbr d l).ino=i from (show d.ino=i from Qc7 hd),hd] at this;have e1:KO wK (some d)=1+d.l.length:=rfl;have e2:wK (Qbr d l)=1+l.length:=rfl;unfold setL;omega
theorem w_out {f:Fsy} {i:Int} (hr:Qb1 f.l) (h2:Qb1 (outF f i).l):wF (outF f i)≤wF f:=by
 have:=Zdk wK (i:=i) hr h2 (fun j hj=>by rw [Zam hr,W1x hj]);rw [Zam hr,W1y rfl] at this;have e:KO wK none=0:=rfl;unfold wF;omega
structure Kept (f g:Fsy):Prop where
 ok:OkF g
 tree:TreeP g
 next:f.next≤g.next∧g.next≤f.next+1
 few:wF g≤wF f+2
theorem Kept.self {f:Fsy} (okf:OkF f) (T:TreeP f):Kept f f:=⟨okf,T,⟨W1s _,by omega⟩,by omega⟩
theorem Zj4 {f:Fsy} {dir:Int} {s:Txt} {n:Nod} (okf:OkF f) (T:TreeP f) (okn:OkN n) (hs:s.length≤1000000) (hx:f.next<4611686018427387904) (he:Qaw f dir s n=0):Kept f (addF f dir s (addN f n)):=by
 have hp:=T.rows;have hr:=Qaf hp;obtain ⟨b1,_⟩:=Qqu hp he;have ho:=Zmu okf hp okn hs he hx;obtain ⟨d,A⟩:=Qsx he;obtain ⟨d1,d2,d3⟩:=Qbh hp A.dir;have hrow:=(Qdp d1 A.kind).2;have hn1:1≤f.next:=by have:=d1.1;omega
 have he0:=Qd1 (n:=f.next) A.check hn1 A.away A.fewd;obtain ⟨s1,s2,s3,s4⟩:=Qfk hp A.dir A.kind (Qsf hrow A.check hn1 A.away A.fewd);have hg:addF f dir s (addN f n)=putF (setL f d (entL d.l s f.next)) (Qbr (addN f n) []):=by
  unfold addF;rw [show (addN f n).ino=f.next from rfl,Qee A.dir]
 have hat:∀ j,atF (addF f dir s (addN f n)) j=if j=f.next then some (Qbr (addN f n) []) else if j=dir then some (Qbr d (entL d.l s f.next)) else atF f j:=fun j=>by
  rw [hg,Qmm (Qaf s1),s4];rfl
 have h0:=Zh6 hp;have hnm:nam f f.next=0:=Nat.eq_zero_of_not_pos fun h=>by
  obtain ⟨q,hq⟩:=(Qlu hr).1 h;obtain ⟨⟨m,hm⟩,_⟩:=T.kid q _ hq;rw [h0] at hm;cases hm
 refine ⟨ho,T.grow b1 A.dir A.kind (fun e=>by omega) hat (fun z=>Qxt he0) (fun z=>Qxs he0) (Qog h0) (.inr rfl) (by rw [hnm];rfl) (fun _=>hnm) (fun e=>?_),?_,?_⟩
 ·obtain ⟨r,hr1,_⟩:=T.root;have:=Qbh hp hr1;omega
 ·have hn:(addF f dir s (addN f n)).next=f.next+1:=by
   rw [hg,Qnu]
   ·rw [s3]
   ·rw [s3];rfl
  omega
 ·rw [hg];have w1:=Zc8 (l:=entL d.l s f.next) hr A.dir;have w2:=Zc9 (n:=Qbr (addN f n) []) (Qaf s1);have:=Qoy (l:=d.l) (s:=s) (n:=f.next);have e2:wK (Qbr (addN f n) [])=1:=rfl;omega
theorem Zf8 {f:Fsy} {dir:Int} {s:Txt} {i:Int} (okf:OkF f) (T:TreeP f) (hs:s.length≤1000000) (he:Qa5 f dir s i=0):Kept f (Qcz f dir s i):=by
 have hp:=T.rows;have hr:=Qaf hp;obtain ⟨d,n,G⟩:=Qzs he;obtain ⟨n1,n2,n3⟩:=Qbh hp G.node;have okn:=okf.2.2 n (Qdk G.node);have hi1:1≤i:=by have:=n1.1;omega
 have hi2:I64 i:=n3 ▸ okn.1;have he0:=Qd1 (n:=i) G.check hi1 G.away G.fewd;obtain ⟨e1,e2,e3,e4,e5⟩:=Qox okf hp G.dir G.kind G.check hs hi1 hi2 G.away G.fewd;have hne:¬ i=dir:=fun e=>by
  have h:=G.node;rw [e,G.dir] at h;obtain rfl:=W0c h;exact G.file G.kind
 have hni:atF (enterF f dir s i) i=some n:=by rw [e5,W1x hne];exact G.node
 have hN:nodP (Qjn n):=⟨n1.1,by have:=n1.2.1;show 0≤n.links+1;omega,by have:=G.links;show n.links+1≤64;omega,n1.2.2.2⟩
 obtain ⟨p1,p2,p3,p4⟩:=Qkh (n:=Qjn n) e2 hni n3 hN;have hg:Qcz f dir s i=putF (enterF f dir s i) (Qjn n):=by
  unfold Qcz;rw [W1y he,(Qfr G.node).2];rfl
 have h256:(enterF f dir s i).l.length≤256:=e2.1;obtain ⟨hf,hf2⟩:=okf.1;rw [hg];have hl1:=n1.2.1;have hl2:=G.links;refine ⟨Qp5 e1 ⟨okn.1,okn.2.1,⟨by show _≤n.links+1;omega,by show n.links+1≤_;omega⟩,okn.2.2.2⟩ (by show n.ino<_;omega) (by omega),
  T.grow (X:=Qjn n) p1 G.dir G.kind hne (fun j=>by rw [p4,e5]) (fun z=>Qxt he0) (fun z=>Qxs he0) (Qfd G.node (.inl G.file)) (.inl G.file) (by have:=T.cnt i n G.node;show n.links+1=_;omega) (fun h=>absurd h G.file) (fun e=>?_),by rw [p3,e4];omega,?_⟩
 ·obtain ⟨r,r1,r2,_⟩:=T.root;have h:=G.node;rw [e,r1] at h;obtain rfl:=W0c h;exact G.file r2
 ·have w2:=Zc9 (n:=Qjn n) (Qaf e2);rw [show (Qjn n).ino=i from n3,hni] at w2;have e6:KO wK (some n)=wK n:=rfl;have e7:wK (Qjn n)=wK n:=rfl;have w1:=Zc8 (l:=entL d.l s i) hr G.dir;rw [← Qee G.dir] at w1;have:=Qoy (l:=d.l) (s:=s) (n:=i);omega
theorem Qoj {f:Fsy} {dir:Int} {s:Txt} {d n:Nod} {j:Int} (okf:OkF f) (T:TreeP f) (hd:atF f dir=some d) (hk:d.kind=2) (hg:getE (lI d.l) s=some j) (hn:atF f j=some n) (hf:Qdd n=false) :
  Kept f (Qbm f dir s n)∧¬ j=dir∧(∀ x z,z∈Qa9 (Qbm f dir s n) x→z∈Qa9 f x)∧wF (Qbm f dir s n)≤wF f:=by
 have hp:=T.rows;have hr:=Qaf hp;have hrow:=(Qdp (Qbh hp hd).1 hk).2;have hs:=Qdc hrow;have hnj:=Qc7 hn;have hne:¬ j=dir:=fun e=>by
  rw [e,hd] at hn;obtain rfl:=W0c hn;rw [Qor hf hk] at hg;cases hg
 have h0:Qa9 f j=[]:=Qfd hn (by
  by_cases h2:n.kind=2
  ·exact .inr (Qor hf h2)
  ·exact .inl h2)
 have hkid:=Qr5 hd hk hg;obtain ⟨w1,w2,w3,w4,w5⟩:=Qld (s:=s) okf hp hd hk (n:=n) (.inl (by rw [hnj];exact hn));rw [hnj] at w5;have T2:TreeP (Qbm f dir s n):=T.shrink w2 hd hk hne hn w5 (fun z=>Zhh hs hg) (fun z=>Qxx) (fun z=>Zhf hs hg) h0 (T.kid dir j hkid).2;have hw:wF (Qbm f dir s n)≤wF f:=by
  obtain ⟨l1,l2,l3,l4,l5⟩:=Qd8 (s:=s) okf hp hd hk;have wl:=Zc8 (l:=delL d.l s) hr hd;rw [← Qkx hd] at wl;have:=Qxy (l:=d.l) (s:=s);unfold Qbm
  split
  ·have:=w_out (i:=n.ino) (Qaf l2) (Qaf (Qy3 l2));omega
  ·have wp:=Zc9 (n:=Qhr n) (Qaf l2);rw [show (Qhr n).ino=j from hnj,l5,W1x hne,hn] at wp;have e6:KO wK (some n)=wK n:=rfl;have e7:wK (Qhr n)=wK n:=rfl;omega
 refine ⟨⟨w1,T2,by rw [w4];omega,by omega⟩,hne,fun x z hz=>?_,hw⟩;have ad:atF (Qbm f dir s n) dir=some (Qbr d (delL d.l s)):=by rw [w5,W1x (fun e=>hne e.symm),W1y rfl]
 by_cases hx:x=dir
 ·subst hx;rw [Qce ad hk] at hz;rw [Qce hd hk];exact Qxx hz
 ·by_cases hx2:x=j
  ·subst hx2;have h2:=w5 x;rw [W1y rfl] at h2
   split at h2
   ·rw [Qog h2] at hz;cases hz
   ·rw [Qfd h2 (by
     by_cases hk2:n.kind=2
     ·exact .inr (Qor hf hk2)
     ·exact .inl hk2)] at hz
    cases hz
  ·rw [Qf9 (f:=f) (by rw [w5,W1x hx2,W1x hx])] at hz;exact hz
theorem Qum {f:Fsy} {dir:Int} {s:Txt} (okf:OkF f) (T:TreeP f) (he:Qbd f dir s=0):Kept f (Qdm f dir s):=by
 have h:=he;unfold Qbd at h;rw [Qqk] at h
 split at h
 ·rename_i h1;rw [Qv4 (by decide)] at h;obtain ⟨d,j,n,a1,a2,a3,a4,a5⟩:=(Qi8 T.rows).1 h1;have hl:=(Qfm a1 a2 a3 a4 a5).2;rw [hl] at h;unfold Qdm;rw [W1y he,hl];exact (Qoj okf T a1 a2 a4 a5 h).1
 ·exact absurd h (by assumption)
theorem Zc3 {f:Fsy} {b j:Int} {n:Nod} (hp:Qan f) (hn:atF f j=some n) (h:Qb6 f b n=false) {e:Nod} (hb:atF f b=some e) (hk:e.kind=2):¬ b=j∧¬ Reach f j b:=by
 have hnj:=Qc7 hn;by_cases h2:n.kind=2
 ·unfold Qb6 at h;rw [h2,hnj] at h;simp only [beq_self_eq_true,Bool.true_and,Bool.or_eq_false_iff] at h;refine ⟨fun e=>?_,fun hr=>?_⟩
  ·rw [e] at h;simp at h
  ·rw [Qh6.2 hr] at h;exact absurd h.2 (by decide)
 ·refine ⟨fun e=>?_,fun hr=>?_⟩
  ·rw [e,hn] at hb;obtain rfl:=W0c hb;exact h2 hk
  ·obtain ⟨y,hy⟩:=Qhb hr;rw [Qfd hn (.inl h2)] at hy;cases hy
theorem Qzn {g:Fsy} {a:Int} {s:Txt} {b:Int} {t:Txt} {d e:Nod} {j:Int} {n:Nod} (G:Goes g a s b t d e j n) (T:TreeP g) (ht:t.length≤1000000) (hbj:¬ b=j) (hjb:¬ Reach g j b):Kept g (enterF (leaveF g a s) b t j):=by
 have Z:=G.go ht;have hrow:=(Qdp (Qbh G.rows G.dir).1 G.kind).2;have hs:=Qdc hrow;refine ⟨Z.ok,T.hop Z.rows0 Z.rows G.dir G.kind Z.mid Z.kind G.node Z.at0 Z.at1 (fun z=>Zhh hs G.ent) (fun z=>Qxt Z.ment) (fun z=>Qxx) (fun z=>Zhf hs G.ent) (fun z=>Qxs Z.ment) (Qr5 G.dir G.kind G.ent) hbj hjb,by rw [Z.next];omega,?_⟩;have w1:=Zc8 (l:=delL d.l s) (Qaf G.rows) G.dir;rw [← Qkx G.dir] at w1;have w2:=Zc8 (l:=entL G.mid.l t j) (Qaf Z.rows0) Z.mid;rw [← Qee Z.mid] at w2;have:=Qoy (l:=G.mid.l) (s:=t) (n:=j);have:=Qxy (l:=d.l) (s:=s);omega
theorem Zj3 {f:Fsy} {dir:Int} {s:Txt} {to:Int} {t:Txt} (okf:OkF f) (T:TreeP f) (ht0:t.length≤1000000) (h:Qbc f dir s to t=0):Kept f (movF f dir s to t):=by
 have hp:=T.rows;have h1:mov1 f dir s to t=0:=Classical.byContradiction fun hn=>by
  unfold Qbc at h;rw [W1x hn] at h;exact hn h
 have h2:mov2 f dir s to t=0:=by
  unfold Qbc at h
  rwa [W1y h1] at h
 obtain ⟨d,dt,n,j,A⟩:=Qze hp h1;obtain ⟨e1,e2,e3⟩:=A.mB;have hnj:=A.nino;have hst:=Qdc (Qdp (Qbh hp A.to).1 A.kindt).2;have hrowt:=(Qdp (Qbh hp A.to).1 A.kindt).2;obtain ⟨hbj,hjb⟩:=Zc3 hp A.node A.apart A.to A.kindt;cases hb:isB dt.l t with
 | false=>
  have hg:getE (lI dt.l) t=.none:=by
   rw [Qer] at hb;cases hg:getE (lI dt.l) t with
   | none=>rfl
   | some i=>rw [hg] at hb;cases hb
  have hm:movF f dir s to t=enterF (leaveF f dir s) to t j:=by
   unfold movF;rw [W1y h1,W1x (fun h=>by rw [e1,hb] at h;cases h.1),W1y h2,A.look];unfold mov0;rw [W1x (by rw [e1,hb];decide),hnj]
  have hroom:¬ to=dir→dt.l.length<256:=fun hne=>by
   unfold mov2 at h2;rw [W1y (by rw [e1,hb]),Qv4 (by decide),e3] at h2;have:(to != dir)=true:=by simpa using hne
   rw [this] at h2;simp only [Bool.true_and,decide_eq_false_iff_not] at h2;omega
  have G:Goes f dir s to t d dt j n:=⟨okf,hp,A.dir,A.kind,A.chk,A.ent,A.to,A.kindt,A.chkt,hg,A.node,hroom⟩
  rw [hm];exact Qzn G T ht0 hbj hjb
 | true=>
  obtain ⟨i2,hg⟩:∃ i,getE (lI dt.l) t=some i:=by
   rw [Qer] at hb;cases hg:getE (lI dt.l) t with
   | none=>rw [hg] at hb;cases hb
   | some i=>exact ⟨i,rfl⟩
  obtain ⟨⟨m,hm⟩,_⟩:=T.kid to i2 (Qr5 A.to A.kindt hg);have hmi:=Qc7 hm;have hI:getI dt.l t=i2:=by rw [Qeb,hg];rfl
  have hfm:Qaa f (getI dt.l t)=m:=by rw [hI];exact (Qfr hm).2
  by_cases hij:i2=j
  ·have:movF f dir s to t=f:=by
    unfold movF;rw [W1y h1,W1y ⟨by rw [e1,hb],by rw [e2,hI,A.look,hnj];exact hij⟩]
   rw [this];exact Kept.self okf T
  ·have ho:Qdi n m=0:=by
    unfold mov2 at h2;rw [W1x (by rw [e1,hb];decide),W1x (by rw [e2,hI,A.look,hnj];exact hij),A.look,e2,hfm] at h2;exact h2
   obtain ⟨hx1,hx2,hx3⟩:=Que hp A hb (by rw [hfm];exact ho);rw [hfm] at hx1 hx2 hx3;obtain ⟨w1,w2,w3,w4,w5⟩:=Qld (s:=t) okf hp A.to A.kindt hx1;obtain ⟨K,k2,k3,k4⟩:=Qoj okf T A.to A.kindt hg hm (Qnz ho).1;have hmv:movF f dir s to t=enterF (leaveF (Qbm f to t m) dir s) to t j:=by
    unfold movF;rw [W1y h1,W1x (fun h=>hij (by have:=h.2;rw [e2,hI,A.look,hnj] at this;exact this)),W1y h2,A.look];unfold mov0;rw [W1y (by rw [e1,hb]),hnj,e2,hfm]
   have hto:atF (Qbm f to t m) to=some (Qbr dt (delL dt.l t)):=by rw [w5,W1x (fun e=>hx3 e.symm),W1y rfl]
   have hdir:∃ d1,atF (Qbm f to t m) dir=some d1∧d1.kind=2∧getE (lI d1.l) s=some j:=by
    rw [w5,W1x (fun e=>hx2 e.symm)]
    split
    ·rename_i hdt;have hd:d=dt:=by
      have h3:=A.dir;rw [hdt,A.to] at h3;exact (W0c h3).symm
     refine ⟨_,rfl,A.kindt,?_⟩;show getE (lI (delL dt.l t)) s=_;have hne:¬ s=t:=fun e=>by
      have h4:=A.ent;rw [hd,e,hg] at h4;exact hij (W0c h4)
     rw [get_del hst,W1x hne,← hd];exact A.ent
    ·exact ⟨d,A.dir,A.kind,A.ent⟩
   obtain ⟨d1,g1,g2,g3⟩:=hdir;have hn1:atF (Qbm f to t m) j=some n:=by
    rw [w5,W1x (fun e=>hij (by rw [← hmi];exact e.symm)),W1x (fun e=>hbj e.symm)];exact A.node
   have G:Goes (Qbm f to t m) dir s to t d1 (Qbr dt (delL dt.l t)) j n:=⟨w1,w2,g1,g2,A.chk,g3,hto,A.kindt,A.chkt,by
    show getE (lI (delL dt.l t)) t=_;rw [get_del hst,W1y rfl],hn1,fun _=>by
    show (delL dt.l t).length<256;have:=Qk5 hst hg;have:=hrowt.1;omega⟩
   have Z:=Qzn G K.tree ht0 hbj (fun h=>hjb (Qgl k3 h));rw [hmv];refine ⟨Z.ok,Z.tree,?_,?_⟩
   ·have:=Z.next;have e:(enterF (leaveF (Qbm f to t m) dir s) to t j).next=f.next:=by rw [(G.go ht0).next,w4]
    rw [e];omega
   ·have:=Z.few;omega
theorem Zj2 {f:Fsy} {i:Int} {n m:Nod} (okf:OkF f) (T:TreeP f) (hn:atF f i=some n) (hi:m.ino=i) (hk:m.kind=n.kind) (hl:m.links=n.links) (he:m.l=n.l) (hm:nodP m) (okm:OkN m):Kept f (putF f m):=by
 have hp:=T.rows;obtain ⟨p1,p2,p3,p4⟩:=Qkh hp hn hi hm;obtain ⟨n1,n2,n3⟩:=Qbh hp hn;obtain ⟨hf,hf2⟩:=okf.1;have h256:f.l.length≤256:=hp.1;refine ⟨Qp5 okf okm (by omega) (by omega),T.put hn hi hk hl he hm,by rw [p3];omega,?_⟩;have w2:=Zc9 (n:=m) (Qaf hp);rw [hi,hn] at w2;have e6:KO wK (some n)=1+n.l.length:=rfl;have e7:wK m=1+m.l.length:=rfl;rw [he] at e7;omega
end Go.Proofs.YtahlldgocpabjaaGreat

namespace Copyhold
open Go Ieee
def IsN (d:Datum) (n:Nat):Prop:=∃ (s:Nat),d=.number false (n*2 ^ s) (-(s:Int))∧s≤1074
theorem Qkb (a s m:Nat) (h:s≤m):signed false (a*2 ^ s) (m-s)=((a*2 ^ m:Nat):Int):=by
 unfold signed;rw [W1x (by decide),Nat.shiftLeft_eq,Nat.mul_assoc,← Nat.pow_add,show s+(m-s)=m from by omega]
theorem low1 (u v:Nat):(-(u:Int)-min (-(u:Int)) (-(v:Int))).toNat=max u v-u:=by omega
theorem low2 (u v:Nat):(-(v:Int)-min (-(u:Int)) (-(v:Int))).toNat=max u v-v:=by omega
theorem Ze9 {d e:Datum} {a b:Nat} (ha:IsN d a) (hb:IsN e b):d.order e=some (compare a b):=by
 obtain ⟨s,rfl,_⟩:=ha;obtain ⟨t,rfl,_⟩:=hb;simp only [Datum.order];rw [low1,low2,Qkb a s _ (by omega),Qkb b t _ (by omega)];have hp:0<2 ^ max s t:=Nat.pow_pos (by decide);generalize 2 ^ max s t=p at hp;congr 1;rcases Nat.lt_trichotomy a b with h | h | h
 ·have h2:a*p<b*p:=Nat.mul_lt_mul_of_pos_right h hp;rw [Nat.compare_eq_lt.2 h];exact Int.compare_eq_lt.2 (by omega)
 ·subst h;rw [Nat.compare_eq_eq.2 rfl];exact Int.compare_eq_eq.2 rfl
 ·have h2:b*p<a*p:=Nat.mul_lt_mul_of_pos_right h hp;rw [Nat.compare_eq_gt.2 h];exact Int.compare_eq_gt.2 (by omega)
theorem Zm3 {d e:Datum} {a b:Nat} (ha:IsN d a) (hb:IsN e b):∃ r,d.sum e=some r∧IsN r (a+b):=by
 obtain ⟨s,rfl,hs⟩:=ha;obtain ⟨t,rfl,ht⟩:=hb;simp only [Datum.sum];refine ⟨_,rfl,max s t,?_,by omega⟩;have e3:signed false (a*2 ^ s) (-(s:Int)-min (-(s:Int)) (-(t:Int))).toNat+signed false (b*2 ^ t) (-(t:Int)-min (-(s:Int)) (-(t:Int))).toNat=(((a+b)*2 ^ max s t:Nat):Int):=by
  rw [low1,low2,Qkb a s _ (by omega),Qkb b t _ (by omega),Nat.add_mul];omega
 simp only [e3];congr 1
 ·split
  ·rfl
  ·exact decide_eq_false (Int.not_lt.2 (Int.natCast_nonneg _))
 ·omega
theorem Qmh (n s:Nat) (h:n ≠ 0):(n*2 ^ s).log2=n.log2+s:=by
 have hp:0<2 ^ s:=Nat.pow_pos (by decide);have hn:n*2 ^ s ≠ 0:=by have:=Nat.mul_pos (Nat.pos_of_ne_zero h) hp;omega
 rw [Nat.log2_eq_iff hn];have h1:=(Nat.log2_eq_iff h).1 rfl;constructor
 ·rw [Nat.pow_add];exact W1e _ h1.1
 ·rw [show n.log2+s+1=(n.log2+1)+s from by omega,Nat.pow_add];exact Nat.mul_lt_mul_of_pos_right h1.2 hp
theorem Qu9 (way:Toward) (neg:Bool) (n s:Nat):way.cut neg (n*2 ^ s) s=n:=by
 have hp:0<2 ^ s:=Nat.pow_pos (by decide);by_cases h0:n=0
 ·subst h0;simp only [Toward.cut,Nat.zero_mul,Nat.zero_div,Nat.zero_mod];cases way<;>simp
  all_goals (try omega)
 ·have hl:=Qmh n s h0;have hm:min s ((n*2 ^ s).log2+2)=s:=by rw [hl];omega
  simp only [Toward.cut,hm,Nat.one_shiftLeft,Nat.mul_div_cancel _ hp,Nat.mul_mod_left];cases way<;>simp
  all_goals (try omega)
theorem Qqb (n s:Nat) (hn:n<2 ^ 53) (h0:n ≠ 0) (hs:s≤1074):double.nearest false (n*2 ^ s) (-(s:Int))=(n.log2+1022)*2 ^ 52+n*2 ^ (52-n.log2):=by
 have hp:0<2 ^ s:=Nat.pow_pos (by decide);have hne:n*2 ^ s ≠ 0:=by have:=Nat.mul_pos (Nat.pos_of_ne_zero h0) hp;omega
 have hl:=Qmh n s h0;have hk:n.log2≤52:=by
  have:=(Nat.log2_lt h0).2 hn;omega
 have hlast:max (-(s:Int)+((n*2 ^ s).log2:Int)-(double.fractionBits:Int)) double.leastPlace=(n.log2:Int)-52:=by
  rw [hl];simp only [double,Format.leastPlace];have:(2:Int) ^ (11-1)=1024:=by decide
  omega
 unfold Format.nearest;rw [W1x hne];simp only [hlast];have hfin:∀ kept,kept=n*2 ^ (52-n.log2)→double.word false (min (((n.log2:Int)-52-double.leastPlace).toNat*double.binade+kept) double.infRung)=(n.log2+1022)*2 ^ 52+n*2 ^ (52-n.log2):=by
  rintro kept rfl;have e1:((n.log2:Int)-52-double.leastPlace).toNat=n.log2+1022:=by
   simp only [double,Format.leastPlace];have:(2:Int) ^ (11-1)=1024:=by decide
   omega
  have e2:double.binade=2 ^ 52:=rfl;have e3:double.infRung=2047*2 ^ 52:=rfl;rw [e1,e2,e3];have hb:n*2 ^ (52-n.log2)<2 ^ 53:=by
   have:=(Nat.log2_eq_iff h0).1 rfl;have h3:n*2 ^ (52-n.log2)<2 ^ (n.log2+1)*2 ^ (52-n.log2):=Nat.mul_lt_mul_of_pos_right this.2 (Nat.pow_pos (by decide));rw [← Nat.pow_add,show n.log2+1+(52-n.log2)=53 from by omega] at h3;exact h3
  have hb2:(n.log2+1022)*2 ^ 52≤1074*2 ^ 52:=W1e _ (by omega);have hle:(n.log2+1022)*2 ^ 52+n*2 ^ (52-n.log2)≤2047*2 ^ 52:=by
   rw [show (2:Nat) ^ 53=2*2 ^ 52 from by rw [Nat.pow_succ,Nat.mul_comm]] at hb;generalize (2:Nat) ^ 52=M at *;generalize (n.log2+1022)*M=A at *;generalize n*2 ^ (52-n.log2)=B at *;omega
  simp only [Format.word];rw [W1x (by decide),Nat.min_eq_left hle]
 apply hfin;by_cases h:s≤52-n.log2
 ·rw [show ((n.log2:Int)-52 - -(s:Int)).toNat=0 from by omega,show (-(s:Int)-((n.log2:Int)-52)).toNat=52-n.log2-s from by omega,Nat.shiftLeft_eq,Nat.mul_assoc,← Nat.pow_add,show s+(52-n.log2-s)=52-n.log2 from by omega];have:=Qu9 .even false (n*2 ^ (52-n.log2)) 0;simpa using this
 ·rw [show ((n.log2:Int)-52 - -(s:Int)).toNat=s-(52-n.log2) from by omega,show (-(s:Int)-((n.log2:Int)-52)).toNat=0 from by omega,Nat.shiftLeft_zero];have:=Qu9 .even false (n*2 ^ (52-n.log2)) (s-(52-n.log2));rw [Nat.mul_assoc,← Nat.pow_add,show 52-n.log2+(s-(52-n.log2))=s from by omega] at this;exact this
def fl (n:Nat):Nat:=floatOfInt .f64 (n:Int)
theorem fl_eq (n:Nat) (hn:n<2 ^ 53) (h0:n ≠ 0):fl n=(n.log2+1022)*2 ^ 52+n*2 ^ (52-n.log2):=by
 have h:=Qqb n 0 hn h0 (by decide);rw [Nat.pow_zero,Nat.mul_one] at h;exact h
theorem Zoj:fl 0=0:=rfl
theorem Qre (n:Nat) (hn:n<2 ^ 53):IsN (double.read (fl n)) n:=by
 by_cases h0:n=0
 ·subst h0;obtain ⟨s,hs⟩:∃ s:Nat,s=1074:=⟨_,rfl⟩
  refine ⟨s,?_,by omega⟩;rw [Nat.zero_mul,show (-(s:Int)) = -1074 from by omega];rfl
 ·have hk:n.log2≤52:=by
   have:=(Nat.log2_lt h0).2 hn;omega
  have hlo:2 ^ 52≤n*2 ^ (52-n.log2):=by
   have:=(Nat.log2_eq_iff h0).1 rfl;have h3:2 ^ n.log2*2 ^ (52-n.log2)≤n*2 ^ (52-n.log2):=W1e _ this.1
   rwa [← Nat.pow_add,show n.log2+(52-n.log2)=52 from by omega] at h3
  have hhi:n*2 ^ (52-n.log2)<2*2 ^ 52:=by
   have:=(Nat.log2_eq_iff h0).1 rfl;have h3:n*2 ^ (52-n.log2)<2 ^ (n.log2+1)*2 ^ (52-n.log2):=Nat.mul_lt_mul_of_pos_right this.2 (Nat.pow_pos (by decide));rw [← Nat.pow_add,show n.log2+1+(52-n.log2)=53 from by omega] at h3
   rwa [show (2:Nat) ^ 53=2*2 ^ 52 from by rw [Nat.pow_succ,Nat.mul_comm]] at h3
  refine ⟨52-n.log2,?_,by omega⟩;rw [fl_eq n hn h0];have hsw:double.signWeight=2048*2 ^ 52:=rfl;have hbi:double.binade=2 ^ 52:=rfl;have hin:double.infRung=2047*2 ^ 52:=rfl;have hlp:double.leastPlace = -1074:=rfl;unfold Format.read;simp only [hsw,hbi,hin,hlp];have hM:0<(2:Nat) ^ 52:=Nat.pow_pos (by decide);generalize hB:n*2 ^ (52-n.log2)=B at *;obtain ⟨c,rfl⟩:∃ c,B=2 ^ 52+c:=⟨B-2 ^ 52,by omega⟩
  generalize (2:Nat) ^ 52=M at *;have hc:c<M:=by omega
  have e0:(n.log2+1022)*M+(M+c)=c+(n.log2+1023)*M:=by
   rw [show n.log2+1023=n.log2+1022+1 from by omega,Nat.add_mul (n.log2+1022) 1 M];omega
  have hlt:c+(n.log2+1023)*M<2047*M:=by
   have:(n.log2+1023)*M≤1075*M:=W1e _ (by omega);omega
  rw [e0];have hdiv:(c+(n.log2+1023)*M) / M=n.log2+1023:=by rw [Nat.add_mul_div_right _ _ hM,Nat.div_eq_of_lt hc,Nat.zero_add]
  have hmod:(c+(n.log2+1023)*M) % M=c:=by rw [Nat.add_mul_mod_self_right,Nat.mod_eq_of_lt hc]
  have hge:¬ (c+(n.log2+1023)*M)<M:=by
   have:1*M≤(n.log2+1023)*M:=W1e _ (by omega);omega
  rw [Nat.mod_eq_of_lt (by omega),Nat.div_eq_of_lt (by omega),W1x hge,W1y hlt,hdiv,hmod];have e9:(-1074+((n.log2+1023-1:Nat):Int)) = -((52-n.log2:Nat):Int):=by
   clear hlt hge hdiv hmod e0 hhi hn hB hlo;omega
  rw [e9];rfl
theorem Zkf (a b:Nat) (ha:a<2 ^ 53) (hb:b<2 ^ 53):FloatKind.f64.format.order (fl a) (fl b)=some (compare a b):=
 Ze9 (Qre a ha) (Qre b hb)
theorem fl_add (a b:Nat) (h:a+b<2 ^ 53):FloatKind.f64.format.add (fl a) (fl b)=some (fl (a+b)):=by
 obtain ⟨r,hr,s,rfl,hs⟩:=Zm3 (Qre a (W03 (Nat.le_add_right a b) h)) (Qre b (W03 (Nat.le_add_left b a) h));show ((double.read (fl a)).sum (double.read (fl b))).map double.write=_;rw [hr,Option.map_some];congr 1;show double.nearest false ((a+b)*2 ^ s) (-(s:Int))=_;by_cases h0:a+b=0
 ·rw [h0,Nat.zero_mul,Zoj];simp [Format.nearest,Format.word]
 ·rw [Qqb _ _ h h0 hs,fl_eq _ h h0]
end Copyhold

namespace Go.Proofs.YtahlldgocpabjaaGreat
open Go.RowKit Copyhold
theorem Zgw (n:Nat):floatOfInt .f64 (n:Int)=fl n:=rfl
theorem Zix (a b:Nat) (w:World) :
  Calls Tryz.prog 235 #[.int .i64 a,.int .i64 b] w fun e w'=>e=.returned (.complex .f64 (fl a) (fl b))∧w=w':=by
 have ha:=Zgw a;have hb:=Zgw b
 go_enter Tryz.func235,Tryz.ntmps235
 go_wp2
 go_ret
 exact ⟨rfl,rfl⟩
def ofOk (a b:Int):Prop:=0≤a∧0≤b∧a≤1099511627776∧b≤1099511627776-a
theorem Qiu (a b:Nat) (w:World) (h:ofOk a b) :
  Calls Tryz.prog 214 #[.int .i64 a,.int .i64 b] w fun e w'=>e=.returned (.tuple #[.complex .f64 (fl a) (fl b),.int .i64 0])∧w=w':=by
 obtain ⟨_,_,h3,h4⟩:=h;have h1:(0:Int)≤(a:Int):=by omega
 have h2:(0:Int)≤(b:Int):=by omega
 go_enter Tryz.func214,Tryz.ntmps214
 go_wp2_with (go_at_call 235;refine (Zix a b _).mono ?_;rintro e w' ⟨rfl,rfl⟩)
 go_ret2
 exact ⟨rfl,rfl⟩
theorem Qnj (a b:Int) (w:World) (ha1:-9223372036854775808≤a) (ha2:a≤9223372036854775807) (hb1:-9223372036854775808≤b) (hb2:b≤9223372036854775807) (h:¬ ofOk a b) :
  Calls Tryz.prog 214 #[.int .i64 a,.int .i64 b] w fun e w'=>e=.returned (.tuple #[.complex .f64 0 0,.int .i64 1])∧w=w':=by
 unfold ofOk at h;rcases (show a<0∨0≤a∧b<0∨0≤a∧0≤b∧1099511627776<a∨0≤a∧0≤b∧a≤1099511627776∧1099511627776-a<b from by omega) with h1 | ⟨h1,h2⟩ | ⟨h1,h2,h3⟩ | ⟨h1,h2,h3,h4⟩
 all_goals
  clear h
  go_enter Tryz.func214,Tryz.ntmps214
  go_wp2_with fail
  go_ret2
  exact ⟨rfl,rfl⟩
end Go.Proofs.YtahlldgocpabjaaGreat

namespace Go.Proofs.YtahlldgocpabjaaGreat
open Go.RowKit Copyhold
attribute [local go_sem] Zb0
def Qez (l:List UInt8) (a b:Int):List UInt8 × Int:=
 if 0≤a∧0≤b∧a≤1099511627776∧b≤1099511627776-a then ((l.drop a.toNat).take b.toNat,0) else ([],1)
theorem Zhj (l:List UInt8) (a b:Int) (w:World) (hl:l.length≤140737488355328) (ha1:-9223372036854775808≤a) (ha2:a≤9223372036854775807) (hb1:-9223372036854775808≤b) (hb2:b≤9223372036854775807) :
  Calls Tryz.prog 175 #[.string ⟨l.toArray⟩,.int .i64 a,.int .i64 b] w fun e w'=>e=.returned (.tuple #[.string ⟨(Qez l a b).1.toArray⟩,.int .i64 (Qez l a b).2])∧w=w':=by
 by_cases h:ofOk a b
 ·have hr:Qez l a b=((l.drop a.toNat).take b.toNat,0):=W1y h;obtain ⟨h1,h2,h3,h4⟩:=id h;obtain ⟨a,rfl⟩:=W19 h1;obtain ⟨b,rfl⟩:=W19 h2;rw [W2m,W2m] at hr;have HR:=Lib.hid hr;have HO:=Lib.hid h;clear hr h ha1 hb1
  go_enter Tryz.func175,Tryz.ntmps175
  go_wp2_with fail
  refine (Qiu a b _ HO.out).mono ?_;rintro e w' ⟨rfl,rfl⟩;rcases (show l.length<a∨a≤l.length∧l.length<a+b∨a+b≤l.length from by omega) with q | ⟨q,q'⟩ | q
  ·go_wp2_with fail
   go_ret2
   refine ⟨?_,rfl⟩;rw [HR.out];exact ret2 (W1z (fun x:List UInt8=>Value.string ⟨x.toArray⟩) (by rw [List.drop_eq_nil_of_le (by omega),List.take_nil])) rfl
  ·go_wp2_with fail
   go_ret2
   refine ⟨?_,rfl⟩;rw [HR.out];exact ret2 (W1z (fun x:List UInt8=>Value.string ⟨x.toArray⟩) (by rw [W1b (by rw [W0p];omega)])) rfl
  ·go_wp2_with fail
   go_ret2
   refine ⟨?_,rfl⟩;rw [HR.out];exact ret2 (W1z (fun x:List UInt8=>Value.string ⟨x.toArray⟩) (by rw [List.drop_take,Nat.add_sub_cancel_left])) rfl
 ·have hr:Qez l a b=([],1):=W1x h;have HR:=Lib.hid hr
  go_enter Tryz.func175,Tryz.ntmps175
  go_wp2_with fail
  refine (Qnj a b _ ha1 ha2 hb1 hb2 h).mono ?_;rintro e w' ⟨rfl,rfl⟩
  go_wp2_with fail
  go_ret2
  exact ⟨by rw [HR.out];rfl,rfl⟩
def Qbf (a b:Int):Int:=if 0≤a∧0≤b∧a≤1099511627776∧b≤1099511627776-a then (if a+b>4096 then 5 else 0) else 1
theorem Zok:fl 4096=4661225614328463360:=by decide +kernel
theorem Qe6 (a b:Int) (w:World) (ha1:-9223372036854775808≤a) (ha2:a≤9223372036854775807) (hb1:-9223372036854775808≤b) (hb2:b≤9223372036854775807) :
  Calls Tryz.prog 215 #[.int .i64 a,.int .i64 b] w fun e w'=>e=.returned (.int .i64 (Qbf a b))∧w=w':=by
 by_cases h:ofOk a b
 ·have hr:Qbf a b=if a+b>4096 then 5 else 0:=W1y h
  obtain ⟨h1,h2,h3,h4⟩:=id h;obtain ⟨a,rfl⟩:=W19 h1;obtain ⟨b,rfl⟩:=W19 h2;have hadd:=run_float_arith (P:=Tryz.prog) w .add 261 .f64 (fl a) (fl b) (fl (a+b)) (fl_add a b (by omega));have hord:=Zkf (a+b) 4096 (by omega) (by decide);rw [Zok] at hord;have HR:=Lib.hid hr;have HO:=Lib.hid h;clear hr h ha1 hb1;by_cases h5:4096<a+b
  ·have hf:Qbf a b=5:=by rw [HR.out,W1y (by omega)]
   rw [Nat.compare_eq_gt.2 h5] at hord;have HF:=Lib.hid hf;clear hf HR
   go_enter Tryz.func215,Tryz.ntmps215
   go_wp2_with fail
   refine (Qiu a b _ HO.out).mono ?_;rintro e w' ⟨rfl,rfl⟩
   go_wp2_with fail
   go_ret
   exact ⟨by rw [HF.out];rfl,rfl⟩
  ·have hf:Qbf a b=0:=by rw [HR.out,W1x (by omega)]
   have HF:=Lib.hid hf;clear hf HR;rcases Nat.lt_or_eq_of_le (Nat.not_lt.1 h5) with h6 | h6
   ·rw [Nat.compare_eq_lt.2 h6] at hord;clear h6
    go_enter Tryz.func215,Tryz.ntmps215
    go_wp2_with fail
    refine (Qiu a b _ HO.out).mono ?_;rintro e w' ⟨rfl,rfl⟩
    go_wp2_with fail
    go_ret
    exact ⟨by rw [HF.out];rfl,rfl⟩
   ·rw [Nat.compare_eq_eq.2 h6] at hord;clear h6
    go_enter Tryz.func215,Tryz.ntmps215
    go_wp2_with fail
    refine (Qiu a b _ HO.out).mono ?_;rintro e w' ⟨rfl,rfl⟩
    go_wp2_with fail
    go_ret
    exact ⟨by rw [HF.out];rfl,rfl⟩
 ·have hr:Qbf a b=1:=W1x h;have HR:=Lib.hid hr
  go_enter Tryz.func215,Tryz.ntmps215
  go_wp2_with fail
  refine (Qnj a b _ ha1 ha2 hb1 hb2 h).mono ?_;rintro e w' ⟨rfl,rfl⟩
  go_wp2_with fail
  go_ret
  exact ⟨by rw [HR.out];rfl,rfl⟩
end Go.Proofs.YtahlldgocpabjaaGreat

namespace Copyhold
open Go Go.RowKit
theorem Qg9 {P:Program} (w:World) (dT sT ty elem:TypeId) (g o dLen dCap:Nat) (l:List UInt8) (cur:List UInt8) (t:TypeId)
  (hu:P.underlying dT=some (.slice elem)) (hs:(P.info? elem).map (·.size)=some 1) (hg:w.heap[g]?=some (.cells (Lib.byteCells cur).toArray t (0,0))) (hfit:o+dLen=cur.length) :
  (Builtin.copy_ #[dT,sT] ty #[.slice (some ⟨g,o,none⟩) dLen dCap,.string ⟨l.toArray⟩]).run P w =
   .ok (goInt (Nat.min l.length dLen)) (w.setRow g (Lib.byteCells (cur.take o++l.take dLen++cur.drop (o+l.length))).toArray):=by
 have hsz:(⟨l.toArray⟩:ByteArray).size=l.length:=by simp [ByteArray.size]
 have hlen:(Lib.byteCells (l.take dLen)).length=Nat.min l.length dLen:=by rw [Lib.byteCells_length,W0g,Nat.min_comm]
 have hcl:(Lib.byteCells cur).length=cur.length:=Lib.byteCells_length _;have hst:=run_storeCells_at P g o t (Lib.byteCells (l.take dLen)) 0 (Lib.byteCells cur).toArray w hg (by rw [hlen];simp [hcl];have:Nat.min l.length dLen≤dLen:=Nat.min_le_right l.length dLen;omega) (Lib.byteCells_one _);have htk:List.take (Nat.min l.length dLen) (List.map (fun b:UInt8=>Value.int IntKind.u8 (b.toNat:Int)) l)=Lib.byteCells (l.take dLen):=by
  unfold Lib.byteCells;rw [W17];show List.take (min l.length dLen) _=_;rw [List.take_eq_take_iff];simp;omega
 have hrow:((Lib.byteCells cur).take o++Lib.byteCells (l.take dLen)++(Lib.byteCells cur).drop (o+Nat.min l.length dLen))=Lib.byteCells (cur.take o++l.take dLen++cur.drop (o+l.length)):=by
  unfold Lib.byteCells;rw [W1t,W1t,W17,W17,W2f];congr 1;show List.drop (o+min l.length dLen) _=_;rw [List.drop_eq_drop_iff];simp;omega
 rw [hlen] at hst;simp only [Nat.add_zero] at hst;rw [hrow] at hst;cases hq:P.info? elem with
 | none=>simp [hq] at hs
 | some i=>
  simp [Builtin.copy_,run_underlying hu,Builtin.lenOf,Builtin.firstCells,Go.sizeOf,typeInfo,hq,hsz];rw [htk,hst];simp [Result.andThen,W1v]
theorem Zfr (n:Nat):madeCells (Value.int .u8 0).cells n=(Lib.byteCells (List.replicate n 0)).toArray:=by
 unfold madeCells;have:(Value.int .u8 0).cells=#[Value.int .u8 0]:=rfl;rw [this];apply Array.ext
 ·simp [Lib.byteCells]
 ·intro i h1 h2;simp [Lib.byteCells,Nat.mod_one]
end Copyhold

set_option maxRecDepth 100000
namespace Go.Proofs.YtahlldgocpabjaaGreat
open Go.RowKit Copyhold
attribute [local go_sem] Zb0
def Qga (l:List UInt8) (n:Nat):List UInt8:=l.take n++List.replicate (n-l.length) 0
theorem Qdz (l:List UInt8) (n:Nat):(Qga l n).length=n:=by
 simp [Qga];omega
def Qs4 (w:World) (g:Nat) (l:List UInt8):Prop:=w.heap[g]?=some (.cells (Lib.byteCells l).toArray 5 (0,0))
theorem Qpe (w:World) (n:Nat) (hn:n≤140737488355328):(Instr.makeSlice 198 (.int .i64 (n:Int)) (.int .i64 (n:Int))).run Tryz.prog w=.ok (.slice (some ⟨w.heap.size,0,none⟩) n n) (w.alloc (.cells (Lib.byteCells (List.replicate n 0)).toArray 5)):=by
 have h:=run_make (P:=Tryz.prog) w 198 5 _ (.int .u8 0) rfl rfl rfl .i64 .i64 (n:Int) (n:Int) (by omega) (by omega) (by show (1:Int)*_≤_;omega) (by omega);rw [Zfr,show (Tryz.prog.types[5]'(by decide)).size=1 from rfl,Nat.mul_one,W2m] at h;exact h
theorem Qj0 (l:List UInt8) (n:Nat) (w:World) (_hl:l.length≤140737488355328) (hn:n≤140737488355328) :
  Calls Tryz.prog 216 #[.string ⟨l.toArray⟩,.int .i64 n] w fun e w'=>e=.returned (.slice (some ⟨w.heap.size,0,none⟩) n n)∧Qs4 w' w.heap.size (Qga l n)∧Below w.heap.size w w':=by
 have hmk:=Qpe w n hn;have hb:=(Below.refl w.heap.size w).alloc (W0m _) (.cells (Lib.byteCells (List.replicate n 0)).toArray 5);have hg:=heap_alloc_new w (.cells (Lib.byteCells (List.replicate n 0)).toArray 5);obtain ⟨W,hW⟩:∃ W,W=w.alloc (.cells (Lib.byteCells (List.replicate n 0)).toArray 5):=⟨_,rfl⟩
 rw [← hW] at hmk hb hg;have hcp:=Qg9 (P:=Tryz.prog) W 198 9 3 5 w.heap.size 0 n n l (List.replicate n 0) 5 rfl rfl hg (by simp);have hf:(List.replicate n (0:UInt8)).take 0++l.take n++(List.replicate n 0).drop (0+l.length)=Qga l n:=by simp [Qga]
 rw [hf] at hcp;have HB:=Lib.hid hb;have HG:=Lib.hid hg;clear hb hg hf hW
 go_enter Tryz.func216,Tryz.ntmps216
 go_wp2_with fail
 go_ret
 exact ⟨rfl,setRow_heap _ _ _ _ _ _ HG.out,Qik HB.out (W0m _) _⟩
def cutD (l:List UInt8) (n:Int):List UInt8 × Int:=if Qbf 0 n=0 then (Qga l n.toNat,0) else (l,Qbf 0 n)
theorem Qf7 {w:World} {g:Nat} {l:List UInt8} (h:Qs4 w g l):(convert 198 9 (.slice (some ⟨g,0,none⟩) l.length l.length)).run Tryz.prog w=.ok (.string ⟨l.toArray⟩) w:=
 run_convert_bytes_back w _ _ 5 _ _ l rfl rfl rfl fun j hj=>by
  have hadd:(⟨g,0,none⟩:Addr).add j=⟨g,j,none⟩:=by unfold Addr.add;split<;>simp_all
  rw [hadd];simp only [World.cell?,show w.heap[g]?=some (.cells (Lib.byteCells l).toArray 5 (0,0)) from h];simp [Lib.byteCells,hj]
theorem Zk8 (l:List UInt8) (n:Int) (w:World) (hl:l.length≤140737488355328) (h1:-9223372036854775808≤n) (h2:n≤9223372036854775807) :
  Calls Tryz.prog 178 #[.string ⟨l.toArray⟩,.int .i64 n] w fun e w'=>e=.returned (.tuple #[.string ⟨(cutD l n).1.toArray⟩,.int .i64 (cutD l n).2])∧Below w.heap.size w w':=by
 by_cases h:Qbf 0 n=0
 ·have hn:0≤n∧n≤4096:=by
   unfold Qbf at h
   split at h
   ·split at h<;>omega
   ·cases h
  have hc:cutD l n=(Qga l n.toNat,0):=W1y h;obtain ⟨n,rfl⟩:=W19 hn.1;rw [W2m] at hc;have HR:=Lib.hid h;have HC:=Lib.hid hc;clear h hc h1
  go_enter Tryz.func178,Tryz.ntmps178
  go_wp2_with fail
  refine (Qe6 0 n _ (by decide) (by decide) (by omega) (by omega)).mono ?_;rintro e w1 ⟨rfl,rfl⟩;rw [HR.out]
  go_wp2_with fail
  refine (Qj0 l n _ hl (by omega)).mono ?_;rintro e w1 ⟨rfl,hb1,hb⟩;have hk:=Qf7 hb1;rw [Qdz] at hk
  go_wp2_with fail
  go_ret2
  exact ⟨by rw [HC.out];rfl,hb⟩
 ·have hc:cutD l n=(l,Qbf 0 n):=W1x h;obtain ⟨z,hz⟩:∃ z,z=Qbf 0 n:=⟨_,rfl⟩
  rw [← hz] at h hc;have HZ:=Lib.hid hz;have HC:=Lib.hid hc;have hq:(z==0)=false:=by simpa using h
  clear hc hz h
  go_enter Tryz.func178,Tryz.ntmps178
  go_wp2_with fail
  refine (Qe6 0 n _ (by decide) (by decide) h1 h2).mono ?_;rintro e w1 ⟨rfl,rfl⟩;rw [← HZ.out]
  go_wp2_with fail
  go_ret2
  exact ⟨by rw [HC.out];rfl,Below.refl _ _⟩
def putD (l:List UInt8) (a:Nat) (t:List UInt8):List UInt8:=
 (Qga l (max l.length (a+t.length))).take a++t++(Qga l (max l.length (a+t.length))).drop (a+t.length)
def Qbk (l:List UInt8) (a:Int) (t:List UInt8):List UInt8 × Int:=
 if Qbf a t.length=0 then (if t=[] then l else putD l a.toNat t,0) else (l,Qbf a t.length)
theorem Qha {a b:Int} (h:Qbf a b=0):0≤a∧0≤b∧a+b≤4096:=by
 unfold Qbf at h
 split at h
 ·split at h<;>omega
 ·cases h
theorem Qnx (l:List UInt8) (a:Nat) (t:List UInt8):(putD l a t).length=max l.length (a+t.length):=by
 unfold putD;simp [Qdz];omega
theorem Zco (l:List UInt8) (a:Int) (t:List UInt8) (w:World) (hl:l.length≤140737488355328) (ht:t.length≤140737488355328) (h1:-9223372036854775808≤a) (h2:a≤9223372036854775807) :
  Calls Tryz.prog 176 #[.string ⟨l.toArray⟩,.int .i64 a,.string ⟨t.toArray⟩] w fun e w'=>e=.returned (.tuple #[.string ⟨(Qbk l a t).1.toArray⟩,.int .i64 (Qbk l a t).2])∧Below w.heap.size w w':=by
 by_cases h:Qbf a t.length=0
 ·have hn:=Qha h;obtain ⟨a,rfl⟩:=W19 hn.1;rcases Classical.em (t=[]) with rfl | h0
  ·have hc:Qbk l a []=(l,0):=by unfold Qbk;rw [W1y h,W1y rfl]
   have HR:=Lib.hid h;have HC:=Lib.hid hc;clear h hc h1 hn
   go_enter Tryz.func176,Tryz.ntmps176
   go_wp2_with fail
   refine (Qe6 a 0 _ (by omega) (by omega) (by decide) (by decide)).mono ?_;rintro e w1 ⟨rfl,rfl⟩;rw [show Qbf a 0=0 from HR.out]
   go_wp2_with fail
   go_ret2
   exact ⟨by rw [HC.out];rfl,Below.refl _ _⟩
  ·have hc:Qbk l a t=(putD l a t,0):=by unfold Qbk;rw [W1y h,W1x h0,W2m]
   have hm:∃ m:Nat,m=max l.length (a+t.length):=⟨_,rfl⟩
   obtain ⟨m,hm⟩:=hm;have hp:putD l a t=(Qga l m).take a++t.take (m-a)++(Qga l m).drop (a+t.length):=by
    unfold putD;rw [hm,W1b (l:=t) (by omega)]
   have hs:(⟨t.toArray⟩:ByteArray) ≠ ⟨#[]⟩:=fun e=>h0 (by simpa using W1z (fun x:ByteArray=>x.data.toList) e);have HR:=Lib.hid h;have HC:=Lib.hid hc;have HP:=Lib.hid hp;have HM:=Lib.hid hm;have hpl:=Qnx l a t;rw [← hm] at hpl;have HL:=Lib.hid hpl;have hmm:(max (l.length:Int) ((a:Int)+t.length))=m:=by omega
   have htp:0<t.length:=List.length_pos_iff.2 h0;have ham:a<m:=by omega
   have hie:t.isEmpty=false:=by simpa using h0
   have hmb:m≤140737488355328:=by omega
   clear h hc h1 hp hm hpl
   go_enter Tryz.func176,Tryz.ntmps176
   go_wp2_with fail
   refine (Qe6 a t.length _ (by omega) (by omega) (by omega) (by omega)).mono ?_;rintro e w1 ⟨rfl,rfl⟩;rw [HR.out]
   go_wp2_with fail
   ·have hmq:(a:Int)+t.length=m:=by have:=HM.out;omega
    rw [hmq];refine (Qj0 l m _ hl hmb).mono ?_;rintro e w1 ⟨rfl,hb1,hb⟩;have hcp:=Qg9 (P:=Tryz.prog) w1 198 9 3 5 w.heap.size a (m-a) (m-a) t (Qga l m) 5 rfl rfl hb1 (by rw [Qdz];omega);rw [← HP.out] at hcp;have hb2:Qs4 (w1.setRow w.heap.size (Lib.byteCells (putD l a t)).toArray) w.heap.size (putD l a t):=setRow_heap _ _ _ _ _ _ hb1;have hb3:=Qik hb (W0m _) (Lib.byteCells (putD l a t)).toArray;obtain ⟨W,hW⟩:∃ W,W=w1.setRow w.heap.size (Lib.byteCells (putD l a t)).toArray:=⟨_,rfl⟩
    rw [← hW] at hcp hb2 hb3;have hk:=Qf7 hb2;rw [HL.out] at hk;clear hW
    go_wp2_with fail
    go_ret2
    exact ⟨by rw [HC.out];rfl,hb3⟩
   ·have hmq:(l.length:Int)=m:=by have:=HM.out;omega
    rw [hmq];refine (Qj0 l m _ hl hmb).mono ?_;rintro e w1 ⟨rfl,hb1,hb⟩;have hcp:=Qg9 (P:=Tryz.prog) w1 198 9 3 5 w.heap.size a (m-a) (m-a) t (Qga l m) 5 rfl rfl hb1 (by rw [Qdz];omega);rw [← HP.out] at hcp;have hb2:Qs4 (w1.setRow w.heap.size (Lib.byteCells (putD l a t)).toArray) w.heap.size (putD l a t):=setRow_heap _ _ _ _ _ _ hb1;have hb3:=Qik hb (W0m _) (Lib.byteCells (putD l a t)).toArray;obtain ⟨W,hW⟩:∃ W,W=w1.setRow w.heap.size (Lib.byteCells (putD l a t)).toArray:=⟨_,rfl⟩
    rw [← hW] at hcp hb2 hb3;have hk:=Qf7 hb2;rw [HL.out] at hk;clear hW
    go_wp2_with fail
    go_ret2
    exact ⟨by rw [HC.out];rfl,hb3⟩
 ·have hc:Qbk l a t=(l,Qbf a t.length):=W1x h;obtain ⟨z,hz⟩:∃ z,z=Qbf a t.length:=⟨_,rfl⟩
  rw [← hz] at h hc;have HZ:=Lib.hid hz;have HC:=Lib.hid hc;have hq:(z==0)=false:=by simpa using h
  clear hc hz h
  go_enter Tryz.func176,Tryz.ntmps176
  go_wp2_with fail
  refine (Qe6 a t.length _ h1 h2 (by omega) (by omega)).mono ?_;rintro e w1 ⟨rfl,rfl⟩;rw [← HZ.out]
  go_wp2_with fail
  go_ret2
  exact ⟨by rw [HC.out];rfl,Below.refl _ _⟩
end Go.Proofs.YtahlldgocpabjaaGreat
