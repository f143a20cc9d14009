import Derived.Test.YtahlldgocpabjaaGreatMrgU
import Derived.Laws.FloatArith
import Derived.Laws.ComplexArith
import Derived.Test.YtahlldgocpabjaaGreatRows
import Derived.Test.YtahlldgocpabjaaGreatMrgA
set_option maxRecDepth 100000
set_option maxHeartbeats 8000000
set_option linter.unusedVariables false
set_option linter.unusedSimpArgs false
namespace Go.Proofs.YtahlldgocpabjaaGreat
open Go Go.RowKit Copyhold Go.Proofs.Tryz
open Copyhold.Name (Srt insE delE getE isAt)
structure Goes (g:Fsy) (a:Int) (s:Txt) (b:Int) (t:Txt) (d e:Nod) (j:Int) (n:Nod):Prop where
 ok:OkF g
 rows:Qam g
 dir:atF g a=some d
 kind:d.kind=2
 chk:Qah s=0
 ent:getE (lI d.l) s=some j
 to:atF g b=some e
 kinde:e.kind=2
 chkt:Qah t=0
 none:getE (lI e.l) t=.none
 node:atF g j=some n
 room:¬ b=a→e.l.length<256
noncomputable def Goes.mid {g:Fsy} {a:Int} {s:Txt} {b:Int} {t:Txt} {d e:Nod} {j:Int} {n:Nod} (_:Goes g a s b t d e j n):Nod:=if b=a then Qbk d (delL d.l s) else e
structure Gone2 (g:Fsy) (a:Int) (s:Txt) (b:Int) (t:Txt) (d:Nod) (j:Int) (m:Nod):Prop where
 ok:OkF (enterF (leaveF g a s) b t j)
 rows:Qam (enterF (leaveF g a s) b t j)
 next:(enterF (leaveF g a s) b t j).next=g.next
 at0:∀ x,atF (leaveF g a s) x=if x=a then some (Qbk d (delL d.l s)) else atF g x
 rows0:Qam (leaveF g a s)
 ok0:OkF (leaveF g a s)
 next0:(leaveF g a s).next=g.next
 at1:∀ x,atF (enterF (leaveF g a s) b t j) x=if x=b then some (Qbk m (entL m.l t j)) else atF (leaveF g a s) x
 mid:atF (leaveF g a s) b=some m
 kind:m.kind=2
 mis:isB m.l t=false
 ment:entE m.l t j=0
 look:Qa3 (enterF (leaveF g a s) b t j) b t=0
 lookN:atF (enterF (leaveF g a s) b t j) j=some (lookN (enterF (leaveF g a s) b t j) b t)
 gone:Qa3 (enterF (leaveF g a s) b t j) a s=6
theorem Goes.go {g:Fsy} {a:Int} {s:Txt} {b:Int} {t:Txt} {d e:Nod} {j:Int} {n:Nod} (G:Goes g a s b t d e j n) (ht:t.length≤1000000):Gone2 g a s b t d j G.mid:=by
 obtain ⟨l1,l2,l3,l4,l5⟩:=Qdl (s:=s) G.ok G.rows G.dir G.kind;have hrow:=(Qc6 (Qbm G.rows G.dir).1 G.kind).2;have hs:=Qcu hrow;have hlen:=hrow.1;have hdl:=Qjt hs G.ent;have hm:atF (leaveF g a s) b=some G.mid:=by
  rw [l5];unfold Goes.mid
  split
  ·rfl
  ·exact G.to
 have hk:G.mid.kind=2:=by
  unfold Goes.mid
  split
  ·exact G.kind
  ·exact G.kinde
 have hde:b=a→d=e:=fun h=>by
  have h1:=G.dir;rw [← h,G.to] at h1;exact (Option.some.inj h1).symm
 have hg:getE (lI G.mid.l) t=.none:=by
  unfold Goes.mid
  split
  ·rename_i h;show getE (lI (delL d.l s)) t=_;rw [get_del hs]
   split
   ·rfl
   ·rw [hde h];exact G.none
  ·exact G.none
 have hb:isB G.mid.l t=false:=by rw [Qee,hg];rfl
 have hml:G.mid.l.length<256:=by
  unfold Goes.mid
  split
  ·show (delL d.l s).length<256;omega
  ·rename_i h;exact G.room h
 obtain ⟨n1,n2,n3⟩:=Qbm G.rows G.node;have hj1:1≤j:=by have:=n1.1;omega
 have hj2:I64 j:=by have:=(G.ok.2.2 n (Qdi G.node)).1;rw [n3] at this;exact this
 obtain ⟨e1,e2,e3,e4,e5⟩:=Qsq l1 l2 hm hk G.chkt ht hj1 hj2 hb hml;have hmrow:=(Qc6 (Qbm l2 hm).1 hk).2;have he0:=Qdh (n:=j) G.chkt hj1 hb hml;have hst:b=a→¬ s=t:=fun h h2=>by
  have h3:=G.ent;rw [hde h,h2,G.none] at h3;cases h3
 have hy:∃ y,atF (enterF (leaveF g a s) b t j) j=some y:=by
  rw [e5]
  split
  ·exact ⟨_,rfl⟩
  ·rw [l5]
   split
   ·exact ⟨_,rfl⟩
   ·exact ⟨_,G.node⟩
 obtain ⟨y,hy⟩:=hy;have hbb:atF (enterF (leaveF g a s) b t j) b=some (Qbk G.mid (entL G.mid.l t j)):=by rw [e5,if_pos rfl]
 have hget:getE (lI (Qbk G.mid (entL G.mid.l t j)).l) t=some j:=by
  show getE (lI (entL G.mid.l t j)) t=_;rw [Qqd (Qcu hmrow) he0 hb,if_pos rfl]
 obtain ⟨k1,k2⟩:=Qfg hbb hk G.chkt hget hy;refine ⟨e1,e2,by rw [e4,l4],l5,l2,l1,l4,e5,hm,hk,hb,he0,k1,by rw [k2];exact hy,?_⟩;by_cases h:b=a
 ·refine Qmq (d:=Qbk G.mid (entL G.mid.l t j)) e2 (by rw [e5,if_pos h.symm]) hk G.chk ?_;show getE (lI (entL G.mid.l t j)) s=_;rw [Qqd (Qcu hmrow) he0 hb,if_neg (hst h)];unfold Goes.mid;rw [if_pos h];show getE (lI (delL d.l s)) s=_;rw [get_del hs,if_pos rfl]
 ·refine Qmq (d:=Qbk d (delL d.l s)) e2 (by rw [e5,if_neg (fun e=>h e.symm),l5,if_pos rfl]) G.kind G.chk ?_;show getE (lI (delL d.l s)) s=_;rw [get_del hs,if_pos rfl]
theorem Goes.back {g:Fsy} {a:Int} {s:Txt} {b:Int} {t:Txt} {d e:Nod} {j:Int} {n:Nod} (G:Goes g a s b t d e j n) (ht:t.length≤1000000) (hs0:s.length≤1000000) (T:TreeP g) (hw:Qbt g b n=false) :
  Qa8 (enterF (leaveF g a s) b t j) b t a s=0∧movF (enterF (leaveF g a s) b t j) b t a s=g:=by
 have Z:=G.go ht;have hrow:=(Qc6 (Qbm G.rows G.dir).1 G.kind).2;have hs:=Qcu hrow;have hnj:=Qc1 G.node;have hkid:j∈Qa4 g a:=by
  obtain ⟨x,hx,_,hi⟩:=Qk4 hs G.ent;exact Qf4 G.dir G.kind hx hi
 have hja:¬ j=a:=fun h=>T.acyc (w:=a) (.one (by rw [h] at hkid;exact hkid));have hjb:¬ j=b:=fun h=>by
  have h1:=G.node;rw [h,G.to] at h1;have h2:=Option.some.inj h1;unfold Qbt at hw;rw [← h2,G.kinde,h2,hnj,h] at hw;simp at hw
 have hyn:lookN (enterF (leaveF g a s) b t j) b t=n:=by
  have h1:=Z.lookN;rw [Z.at1,if_neg hjb,Z.at0,if_neg hja,G.node] at h1;exact (Option.some.inj h1).symm
 have hmid:∀ x∈G.mid.l,x.ino∈Qa4 g b:=fun x hx=>by
  unfold Goes.mid at hx
  split at hx
  ·rename_i h;rw [h];exact Qf4 G.dir G.kind (Qqp x hx) rfl
  ·exact Qf4 G.to G.kinde hx rfl
 have hkids:∀ p z,z∈Qa4 (enterF (leaveF g a s) b t j) p→z∈Qa4 g p∨z=j:=fun p z hz=>by
  obtain ⟨d',hd',hk',x,hx,hxz⟩:=Qeb hz;rw [Z.at1] at hd'
  split at hd'
  ·rename_i h;obtain rfl:=Option.some.inj hd';rcases Zdz x hx with rfl | hx
   ·exact .inr hxz.symm
   ·left;rw [h,← hxz];exact hmid x hx
  ·rw [Z.at0] at hd'
   split at hd'
   ·rename_i h;obtain rfl:=Option.some.inj hd';left;rw [h];exact Qf4 G.dir G.kind (Qqp x hx) hxz
   ·exact .inl (Qf4 hd' hk' hx hxz)
 have hreach:∀ p w,Reach (enterF (leaveF g a s) b t j) p w→(p=j∨Reach g j p)→(w=j∨Reach g j w):=by
  have step:∀ p z,z∈Qa4 (enterF (leaveF g a s) b t j) p→(p=j∨Reach g j p)→(z=j∨Reach g j z):=fun p z hz hp=>by
   rcases hkids p z hz with h | h
   ·rcases hp with hp | hp
    ·rw [hp] at h;exact .inr (.one h)
    ·exact .inr (hp.snoc h)
   ·exact .inl h
  intro p w h
  induction h with
  | one h=>exact step _ _ h
  | more h _ ih=>exact fun hp=>ih (step _ _ h hp)
 have hwi:Qbt (enterF (leaveF g a s) b t j) a n=false:=by
  unfold Qbt;rw [hnj];by_cases hk:n.kind=2
  ·rw [show (a==j)=false from by simpa using fun h=>hja h.symm];cases hb:hasB (Qcj (enterF (leaveF g a s) b t j) j) a with
   | false=>simp
   | true=>
    exfalso;rcases hreach j a (Qgq.1 hb) (.inl rfl) with h | h
    ·exact hja h.symm
    ·exact T.acyc (h.snoc hkid)
  ·simp [hk]
 have hda:∃ d3,atF (enterF (leaveF g a s) b t j) a=some d3∧d3.kind=2∧(¬ a=b→d3.l.length<256):=by
  rw [Z.at1];by_cases h:a=b
  ·rw [if_pos h];exact ⟨_,rfl,Z.kind,fun h2=>absurd h h2⟩
  ·rw [if_neg h,Z.at0,if_pos rfl];refine ⟨_,rfl,G.kind,fun _=>?_⟩;show (delL d.l s).length<256;have:=Qjt hs G.ent;have:=hrow.1;omega
 obtain ⟨d3,hd3,hk3,hl3⟩:=hda;obtain ⟨q1,q2⟩:=Qo3 hd3 hk3;have h1:mov1 (enterF (leaveF g a s) b t j) b t a s=0:=by
  unfold mov1;rw [Zjw,if_pos Z.look,if_pos q1,if_pos G.chk,hyn,hwi];rfl
 have hB:movB (enterF (leaveF g a s) b t j) a s=false:=by
  unfold movB;rw [q2,Qee];cases hg:getE (lI d3.l) s with
  | none=>rfl
  | some i=>
   exfalso;have hmem:=Qk4 (Qcu (Qc6 (Qbm Z.rows hd3).1 hk3).2) hg;obtain ⟨x,hx,_,hxi⟩:=hmem;have hkz:=Qf4 hd3 hk3 hx hxi;have hat:∃ y,atF (enterF (leaveF g a s) b t j) i=some y:=by
    rcases hkids a i hkz with h | h
    ·obtain ⟨⟨y,hy⟩,_⟩:=T.kid a i h;rw [Z.at1]
     split
     ·exact ⟨_,rfl⟩
     ·rw [Z.at0]
      split
      ·exact ⟨_,rfl⟩
      ·exact ⟨_,hy⟩
    ·rw [h];exact ⟨_,Z.lookN⟩
   obtain ⟨y,hy⟩:=hat;have:=(Qfg hd3 hk3 G.chk hg hy).1;rw [Z.gone] at this;cases this
 have h2:mov2 (enterF (leaveF g a s) b t j) b t a s=0:=by
  unfold mov2;rw [if_pos hB,Qts (by decide),q2];by_cases h:a=b
  ·simp [h]
  ·have:=hl3 h;have e:decide ((d3.l.length:Int)≥256)=false:=decide_eq_false (by omega);rw [e];simp
 refine ⟨by unfold Qa8;rw [if_pos h1,h2],?_⟩;unfold movF;rw [if_pos h1,if_neg (fun h=>by rw [hB] at h;cases h.1),if_pos h2,hB,hyn];unfold mov0;rw [if_neg (by decide),hnj];have hbb:atF (enterF (leaveF g a s) b t j) b=some (Qbk G.mid (entL G.mid.l t j)):=by rw [Z.at1,if_pos rfl]
 obtain ⟨p1,p2,p3,p4,p5⟩:=Qdl (s:=t) Z.ok Z.rows hbb Z.kind;have hback:leaveF (enterF (leaveF g a s) b t j) b t=leaveF g a s:=by
  refine Qu3 (Qad p2) (Qad Z.rows0) (fun x=>?_) (by rw [p4,Z.next,Z.next0]);rw [p5];by_cases h:x=b
  ·rw [if_pos h,h,Z.mid];show some (Qbk _ (delL (entL G.mid.l t j) t))=_;have hsm:=Qcu (Qc6 (Qbm Z.rows0 Z.mid).1 Z.kind).2;rw [Zeb hsm Z.ment Z.mis];rfl
  ·rw [if_neg h,Z.at1,if_neg h]
 rw [hback];have haa:atF (leaveF g a s) a=some (Qbk d (delL d.l s)):=by rw [Z.at0,if_pos rfl]
 rw [Qdp haa];obtain ⟨n1,n2,n3⟩:=Qbm G.rows G.node;show setL _ _ (entL (delL d.l s) s j)=g;rw [Zls hrow G.chk (by have:=n1.1;omega) G.ent];obtain ⟨s1,s2,s3,s4⟩:=Qes Z.rows0 haa G.kind hrow;refine Qu3 (Qad s1) (Qad G.rows) (fun x=>?_) (by rw [s3,Z.next0]);rw [s4];by_cases h:x=a
 ·rw [if_pos h,h,G.dir];rfl
 ·rw [if_neg h,Z.at0,if_neg h]
end Go.Proofs.YtahlldgocpabjaaGreat

namespace Go.Proofs.YtahlldgocpabjaaGreat
open Go Go.RowKit Copyhold Go.Proofs.Tryz
open Copyhold.Name (Srt insE delE getE isAt)
theorem Zab (K:Nod→Nat) {f g:Fsy} {i:Int} (hf:Qbq f.l) (hg:Qbq g.l) (h:∀ j,¬ j=i→atF g j=atF f j):(g.l.map K).sum+KO K (atF f i)=(f.l.map K).sum+KO K (atF g i):=by
 have e:(g.l.filter fun n=>!isNo i n)=f.l.filter fun n=>!isNo i n:=Qli (List.Pairwise.filter _ hg) (List.Pairwise.filter _ hf) fun x=>by
  rw [List.mem_filter,List.mem_filter];by_cases hx:x.ino=i
  ·simp [isNo,hx]
  ·rw [Qwo hf,Qwo hg,h _ hx]
 rw [Qer K i hf,Qer K i hg,e];unfold atF;omega
def wK (n:Nod):Nat:=1+n.l.length
def wF (f:Fsy):Nat:=(f.l.map wK).sum
theorem Qz0 {f:Fsy} {n:Nod} (hr:Qbq f.l):wF (putF f n)+KO wK (atF f n.ino)=wF f+wK n:=by
 have:=Zab wK (i:=n.ino) hr (Qhm (n:=n) hr) (fun j hj=>by rw [Qnq hr,if_neg hj]);rw [Qnq hr,if_pos rfl] at this;exact this
theorem Qzz {f:Fsy} {i:Int} {d:Nod} {l:List Ent} (hr:Qbq f.l) (hd:atF f i=some d):wF (setL f d l)+d.l.length=wF f+l.length:=by
 have:=Qz0 (n:=Qbk d l) hr;rw [show (Qbk d l).ino=i from (show d.ino=i from Qc1 hd),hd] at this;have e1:KO wK (some d)=1+d.l.length:=rfl;have e2:wK (Qbk d l)=1+l.length:=rfl;unfold setL;omega
theorem w_out {f:Fsy} {i:Int} (hr:Qbq f.l) (h2:Qbq (outF f i).l):wF (outF f i)≤wF f:=by
 have:=Zab wK (i:=i) hr h2 (fun j hj=>by rw [Qxq hr,if_neg hj]);rw [Qxq hr,if_pos rfl] at this;have e:KO wK none=0:=rfl;unfold wF;omega
structure Kept (f g:Fsy):Prop where
 ok:OkF g
 tree:TreeP g
 next:f.next≤g.next∧g.next≤f.next+1
 few:wF g≤wF f+2
theorem Kept.self {f:Fsy} (okf:OkF f) (T:TreeP f):Kept f f:=⟨okf,T,⟨Int.le_refl _,by omega⟩,by omega⟩
theorem Zhe {f:Fsy} {dir:Int} {s:Txt} {n:Nod} (okf:OkF f) (T:TreeP f) (okn:OkN n) (hs:s.length≤1000000) (hx:f.next<4611686018427387904) (he:Qaq f dir s n=0):Kept f (addF f dir s (addN f n)):=by
 have hp:=T.rows;have hr:=Qad hp;obtain ⟨b1,_⟩:=Qpc hp he;have ho:=Zka okf hp okn hs he hx;obtain ⟨d,A⟩:=Qq0 he;obtain ⟨d1,d2,d3⟩:=Qbm hp A.dir;have hrow:=(Qc6 d1 A.kind).2;have hn1:1≤f.next:=by have:=d1.1;omega
 have he0:=Qdh (n:=f.next) A.check hn1 A.away A.fewd;obtain ⟨s1,s2,s3,s4⟩:=Qes hp A.dir A.kind (Qqn hrow A.check hn1 A.away A.fewd);have hg:addF f dir s (addN f n)=putF (setL f d (entL d.l s f.next)) (Qbk (addN f n) []):=by
  unfold addF;rw [show (addN f n).ino=f.next from rfl,Qdp A.dir]
 have hat:∀ j,atF (addF f dir s (addN f n)) j=if j=f.next then some (Qbk (addN f n) []) else if j=dir then some (Qbk d (entL d.l s f.next)) else atF f j:=fun j=>by
  rw [hg,Qnq (Qad s1),s4];rfl
 have h0:=Ze0 hp;have hnm:nam f f.next=0:=Nat.eq_zero_of_not_pos fun h=>by
  obtain ⟨q,hq⟩:=(Qkg hr).1 h;obtain ⟨⟨m,hm⟩,_⟩:=T.kid q _ hq;rw [h0] at hm;cases hm
 refine ⟨ho,T.grow b1 A.dir A.kind (fun e=>by omega) hat (fun z=>Qu7 he0) (fun z=>Qu6 he0) (Qmx h0) (.inr rfl) (by rw [hnm];rfl) (fun _=>hnm) (fun e=>?_),?_,?_⟩
 ·obtain ⟨r,hr1,_⟩:=T.root;have:=Qbm hp hr1;omega
 ·have hn:(addF f dir s (addN f n)).next=f.next+1:=by
   rw [hg,Qme]
   ·rw [s3]
   ·rw [s3];rfl
  omega
 ·rw [hg];have w1:=Qzz (l:=entL d.l s f.next) hr A.dir;have w2:=Qz0 (n:=Qbk (addN f n) []) (Qad s1);have:=Qnc (l:=d.l) (s:=s) (n:=f.next);have e2:wK (Qbk (addN f n) [])=1:=rfl;omega
theorem Zc3 {f:Fsy} {dir:Int} {s:Txt} {i:Int} (okf:OkF f) (T:TreeP f) (hs:s.length≤1000000) (he:Qa6 f dir s i=0):Kept f (Qc4 f dir s i):=by
 have hp:=T.rows;have hr:=Qad hp;obtain ⟨d,n,G⟩:=Zho he;obtain ⟨n1,n2,n3⟩:=Qbm hp G.node;have okn:=okf.2.2 n (Qdi G.node);have hi1:1≤i:=by have:=n1.1;omega
 have hi2:I64 i:=n3 ▸ okn.1;have he0:=Qdh (n:=i) G.check hi1 G.away G.fewd;obtain ⟨e1,e2,e3,e4,e5⟩:=Qsq okf hp G.dir G.kind G.check hs hi1 hi2 G.away G.fewd;have hne:¬ i=dir:=fun e=>by
  have h:=G.node;rw [e,G.dir] at h;obtain rfl:=Option.some.inj h;exact G.file G.kind
 have hni:atF (enterF f dir s i) i=some n:=by rw [e5,if_neg hne];exact G.node
 have hN:nodP (Qla n):=⟨n1.1,by have:=n1.2.1;show 0≤n.links+1;omega,by have:=G.links;show n.links+1≤64;omega,n1.2.2.2⟩
 obtain ⟨p1,p2,p3,p4⟩:=Qi5 (n:=Qla n) e2 hni n3 hN;have hg:Qc4 f dir s i=putF (enterF f dir s i) (Qla n):=by
  unfold Qc4;rw [if_pos he,(Qfl G.node).2];rfl
 have h256:(enterF f dir s i).l.length≤256:=e2.1;obtain ⟨hf,hf2⟩:=okf.1;rw [hg];have hl1:=n1.2.1;have hl2:=G.links;refine ⟨Qoo e1 ⟨okn.1,okn.2.1,⟨by show _≤n.links+1;omega,by show n.links+1≤_;omega⟩,okn.2.2.2⟩ (by show n.ino<_;omega) (by omega),
  T.grow (X:=Qla n) p1 G.dir G.kind hne (fun j=>by rw [p4,e5]) (fun z=>Qu7 he0) (fun z=>Qu6 he0) (Qek G.node (.inl G.file)) (.inl G.file) (by have:=T.cnt i n G.node;show n.links+1=_;omega) (fun h=>absurd h G.file) (fun e=>?_),by rw [p3,e4];omega,?_⟩
 ·obtain ⟨r,r1,r2,_⟩:=T.root;have h:=G.node;rw [e,r1] at h;obtain rfl:=Option.some.inj h;exact G.file r2
 ·have w2:=Qz0 (n:=Qla n) (Qad e2);rw [show (Qla n).ino=i from n3,hni] at w2;have e6:KO wK (some n)=wK n:=rfl;have e7:wK (Qla n)=wK n:=rfl;have w1:=Qzz (l:=entL d.l s i) hr G.dir;rw [← Qdp G.dir] at w1;have:=Qnc (l:=d.l) (s:=s) (n:=i);omega
theorem Qm1 {f:Fsy} {dir:Int} {s:Txt} {d n:Nod} {j:Int} (okf:OkF f) (T:TreeP f) (hd:atF f dir=some d) (hk:d.kind=2) (hg:getE (lI d.l) s=some j) (hn:atF f j=some n) (hf:Qcw n=false) :
  Kept f (Qbd f dir s n)∧¬ j=dir∧(∀ x z,z∈Qa4 (Qbd f dir s n) x→z∈Qa4 f x)∧wF (Qbd f dir s n)≤wF f:=by
 have hp:=T.rows;have hr:=Qad hp;have hrow:=(Qc6 (Qbm hp hd).1 hk).2;have hs:=Qcu hrow;have hnj:=Qc1 hn;have hne:¬ j=dir:=fun e=>by
  rw [e,hd] at hn;obtain rfl:=Option.some.inj hn;rw [Qm7 hf hk] at hg;cases hg
 have h0:Qa4 f j=[]:=Qek hn (by
  by_cases h2:n.kind=2
  ·exact .inr (Qm7 hf h2)
  ·exact .inl h2)
 have hkid:=Qqc hd hk hg;obtain ⟨w1,w2,w3,w4,w5⟩:=Qlt (s:=s) okf hp hd hk (n:=n) (.inl (by rw [hnj];exact hn));rw [hnj] at w5;have T2:TreeP (Qbd f dir s n):=T.shrink w2 hd hk hne hn w5 (fun z=>Zec hs hg) (fun z=>Qva) (fun z=>Zea hs hg) h0 (T.kid dir j hkid).2;have hw:wF (Qbd f dir s n)≤wF f:=by
  obtain ⟨l1,l2,l3,l4,l5⟩:=Qdl (s:=s) okf hp hd hk;have wl:=Qzz (l:=delL d.l s) hr hd;rw [← Qjk hd] at wl;have:=Qvb (l:=d.l) (s:=s);unfold Qbd
  split
  ·have:=w_out (i:=n.ino) (Qad l2) (Qad (Qwe l2));omega
  ·have wp:=Qz0 (n:=Qg7 n) (Qad l2);rw [show (Qg7 n).ino=j from hnj,l5,if_neg hne,hn] at wp;have e6:KO wK (some n)=wK n:=rfl;have e7:wK (Qg7 n)=wK n:=rfl;omega
 refine ⟨⟨w1,T2,by rw [w4];omega,by omega⟩,hne,fun x z hz=>?_,hw⟩;have ad:atF (Qbd f dir s n) dir=some (Qbk d (delL d.l s)):=by rw [w5,if_neg (fun e=>hne e.symm),if_pos rfl]
 by_cases hx:x=dir
 ·subst hx;rw [Qby ad hk] at hz;rw [Qby hd hk];exact Qva hz
 ·by_cases hx2:x=j
  ·subst hx2;have h2:=w5 x;rw [if_pos rfl] at h2
   split at h2
   ·rw [Qmx h2] at hz;cases hz
   ·rw [Qek h2 (by
     by_cases hk2:n.kind=2
     ·exact .inr (Qm7 hf hk2)
     ·exact .inl hk2)] at hz
    cases hz
  ·rw [Qfi (f:=f) (by rw [w5,if_neg hx2,if_neg hx])] at hz;exact hz
theorem Qsb {f:Fsy} {dir:Int} {s:Txt} (okf:OkF f) (T:TreeP f) (he:Qbf f dir s=0):Kept f (Qd6 f dir s):=by
 have h:=he;unfold Qbf at h;rw [Qso] at h
 split at h
 ·rename_i h1;rw [Qts (by decide)] at h;obtain ⟨d,j,n,a1,a2,a3,a4,a5⟩:=(Qjj T.rows).1 h1;have hl:=(Qfg a1 a2 a3 a4 a5).2;rw [hl] at h;unfold Qd6;rw [if_pos he,hl];exact (Qm1 okf T a1 a2 a4 a5 h).1
 ·exact absurd h (by assumption)
theorem Qzv {f:Fsy} {b j:Int} {n:Nod} (hp:Qam f) (hn:atF f j=some n) (h:Qbt f b n=false) {e:Nod} (hb:atF f b=some e) (hk:e.kind=2):¬ b=j∧¬ Reach f j b:=by
 have hnj:=Qc1 hn;by_cases h2:n.kind=2
 ·unfold Qbt at h;rw [h2,hnj] at h;simp only [beq_self_eq_true,Bool.true_and,Bool.or_eq_false_iff] at h;refine ⟨fun e=>?_,fun hr=>?_⟩
  ·rw [e] at h;simp at h
  ·rw [Qgq.2 hr] at h;exact absurd h.2 (by decide)
 ·refine ⟨fun e=>?_,fun hr=>?_⟩
  ·rw [e,hn] at hb;obtain rfl:=Option.some.inj hb;exact h2 hk
  ·obtain ⟨y,hy⟩:=Qf2 hr;rw [Qek hn (.inl h2)] at hy;cases hy
theorem Qwv {g:Fsy} {a:Int} {s:Txt} {b:Int} {t:Txt} {d e:Nod} {j:Int} {n:Nod} (G:Goes g a s b t d e j n) (T:TreeP g) (ht:t.length≤1000000) (hbj:¬ b=j) (hjb:¬ Reach g j b):Kept g (enterF (leaveF g a s) b t j):=by
 have Z:=G.go ht;have hrow:=(Qc6 (Qbm G.rows G.dir).1 G.kind).2;have hs:=Qcu hrow;refine ⟨Z.ok,T.hop Z.rows0 Z.rows G.dir G.kind Z.mid Z.kind G.node Z.at0 Z.at1 (fun z=>Zec hs G.ent) (fun z=>Qu7 Z.ment) (fun z=>Qva) (fun z=>Zea hs G.ent) (fun z=>Qu6 Z.ment) (Qqc G.dir G.kind G.ent) hbj hjb,by rw [Z.next];omega,?_⟩;have w1:=Qzz (l:=delL d.l s) (Qad G.rows) G.dir;rw [← Qjk G.dir] at w1;have w2:=Qzz (l:=entL G.mid.l t j) (Qad Z.rows0) Z.mid;rw [← Qdp Z.mid] at w2;have:=Qnc (l:=G.mid.l) (s:=t) (n:=j);have:=Qvb (l:=d.l) (s:=s);omega
theorem Zhd {f:Fsy} {dir:Int} {s:Txt} {to:Int} {t:Txt} (okf:OkF f) (T:TreeP f) (ht0:t.length≤1000000) (h:Qa8 f dir s to t=0):Kept f (movF f dir s to t):=by
 have hp:=T.rows;have h1:mov1 f dir s to t=0:=Classical.byContradiction fun hn=>by
  unfold Qa8 at h;rw [if_neg hn] at h;exact hn h
 have h2:mov2 f dir s to t=0:=by
  unfold Qa8 at h
  rwa [if_pos h1] at h
 obtain ⟨d,dt,n,j,A⟩:=Qwm hp h1;obtain ⟨e1,e2,e3⟩:=A.mB;have hnj:=A.nino;have hst:=Qcu (Qc6 (Qbm hp A.to).1 A.kindt).2;have hrowt:=(Qc6 (Qbm hp A.to).1 A.kindt).2;obtain ⟨hbj,hjb⟩:=Qzv hp A.node A.apart A.to A.kindt;cases hb:isB dt.l t with
 | false=>
  have hg:getE (lI dt.l) t=.none:=by
   rw [Qee] at hb;cases hg:getE (lI dt.l) t with
   | none=>rfl
   | some i=>rw [hg] at hb;cases hb
  have hm:movF f dir s to t=enterF (leaveF f dir s) to t j:=by
   unfold movF;rw [if_pos h1,if_neg (fun h=>by rw [e1,hb] at h;cases h.1),if_pos h2,A.look];unfold mov0;rw [if_neg (by rw [e1,hb];decide),hnj]
  have hroom:¬ to=dir→dt.l.length<256:=fun hne=>by
   unfold mov2 at h2;rw [if_pos (by rw [e1,hb]),Qts (by decide),e3] at h2;have:(to != dir)=true:=by simpa using hne
   rw [this] at h2;simp only [Bool.true_and,decide_eq_false_iff_not] at h2;omega
  have G:Goes f dir s to t d dt j n:=⟨okf,hp,A.dir,A.kind,A.chk,A.ent,A.to,A.kindt,A.chkt,hg,A.node,hroom⟩
  rw [hm];exact Qwv G T ht0 hbj hjb
 | true=>
  obtain ⟨i2,hg⟩:∃ i,getE (lI dt.l) t=some i:=by
   rw [Qee] at hb;cases hg:getE (lI dt.l) t with
   | none=>rw [hg] at hb;cases hb
   | some i=>exact ⟨i,rfl⟩
  obtain ⟨⟨m,hm⟩,_⟩:=T.kid to i2 (Qqc A.to A.kindt hg);have hmi:=Qc1 hm;have hI:getI dt.l t=i2:=by rw [Qe9,hg];rfl
  have hfm:Qaa f (getI dt.l t)=m:=by rw [hI];exact (Qfl hm).2
  by_cases hij:i2=j
  ·have:movF f dir s to t=f:=by
    unfold movF;rw [if_pos h1,if_pos ⟨by rw [e1,hb],by rw [e2,hI,A.look,hnj];exact hij⟩]
   rw [this];exact Kept.self okf T
  ·have ho:Qcz n m=0:=by
    unfold mov2 at h2;rw [if_neg (by rw [e1,hb];decide),if_neg (by rw [e2,hI,A.look,hnj];exact hij),A.look,e2,hfm] at h2;exact h2
   obtain ⟨hx1,hx2,hx3⟩:=Qr3 hp A hb (by rw [hfm];exact ho);rw [hfm] at hx1 hx2 hx3;obtain ⟨w1,w2,w3,w4,w5⟩:=Qlt (s:=t) okf hp A.to A.kindt hx1;obtain ⟨K,k2,k3,k4⟩:=Qm1 okf T A.to A.kindt hg hm (Qmj ho).1;have hmv:movF f dir s to t=enterF (leaveF (Qbd f to t m) dir s) to t j:=by
    unfold movF;rw [if_pos h1,if_neg (fun h=>hij (by have:=h.2;rw [e2,hI,A.look,hnj] at this;exact this)),if_pos h2,A.look];unfold mov0;rw [if_pos (by rw [e1,hb]),hnj,e2,hfm]
   have hto:atF (Qbd f to t m) to=some (Qbk dt (delL dt.l t)):=by rw [w5,if_neg (fun e=>hx3 e.symm),if_pos rfl]
   have hdir:∃ d1,atF (Qbd f to t m) dir=some d1∧d1.kind=2∧getE (lI d1.l) s=some j:=by
    rw [w5,if_neg (fun e=>hx2 e.symm)]
    split
    ·rename_i hdt;have hd:d=dt:=by
      have h3:=A.dir;rw [hdt,A.to] at h3;exact (Option.some.inj h3).symm
     refine ⟨_,rfl,A.kindt,?_⟩;show getE (lI (delL dt.l t)) s=_;have hne:¬ s=t:=fun e=>by
      have h4:=A.ent;rw [hd,e,hg] at h4;exact hij (Option.some.inj h4)
     rw [get_del hst,if_neg hne,← hd];exact A.ent
    ·exact ⟨d,A.dir,A.kind,A.ent⟩
   obtain ⟨d1,g1,g2,g3⟩:=hdir;have hn1:atF (Qbd f to t m) j=some n:=by
    rw [w5,if_neg (fun e=>hij (by rw [← hmi];exact e.symm)),if_neg (fun e=>hbj e.symm)];exact A.node
   have G:Goes (Qbd f to t m) dir s to t d1 (Qbk dt (delL dt.l t)) j n:=⟨w1,w2,g1,g2,A.chk,g3,hto,A.kindt,A.chkt,by
    show getE (lI (delL dt.l t)) t=_;rw [get_del hst,if_pos rfl],hn1,fun _=>by
    show (delL dt.l t).length<256;have:=Qjt hst hg;have:=hrowt.1;omega⟩
   have Z:=Qwv G K.tree ht0 hbj (fun h=>hjb (Qfr k3 h));rw [hmv];refine ⟨Z.ok,Z.tree,?_,?_⟩
   ·have:=Z.next;have e:(enterF (leaveF (Qbd f to t m) dir s) to t j).next=f.next:=by rw [(G.go ht0).next,w4]
    rw [e];omega
   ·have:=Z.few;omega
theorem Zhc {f:Fsy} {i:Int} {n m:Nod} (okf:OkF f) (T:TreeP f) (hn:atF f i=some n) (hi:m.ino=i) (hk:m.kind=n.kind) (hl:m.links=n.links) (he:m.l=n.l) (hm:nodP m) (okm:OkN m):Kept f (putF f m):=by
 have hp:=T.rows;obtain ⟨p1,p2,p3,p4⟩:=Qi5 hp hn hi hm;obtain ⟨n1,n2,n3⟩:=Qbm hp hn;obtain ⟨hf,hf2⟩:=okf.1;have h256:f.l.length≤256:=hp.1;refine ⟨Qoo okf okm (by omega) (by omega),T.put hn hi hk hl he hm,by rw [p3];omega,?_⟩;have w2:=Qz0 (n:=m) (Qad hp);rw [hi,hn] at w2;have e6:KO wK (some n)=1+n.l.length:=rfl;have e7:wK m=1+m.l.length:=rfl;rw [he] at e7;omega
end Go.Proofs.YtahlldgocpabjaaGreat

namespace Copyhold
open Go Ieee
def IsN (d:Datum) (n:Nat):Prop:=∃ (s:Nat),d=.number false (n*2 ^ s) (-(s:Int))∧s≤1074
theorem Qiy (a s m:Nat) (h:s≤m):signed false (a*2 ^ s) (m-s)=((a*2 ^ m:Nat):Int):=by
 unfold signed;rw [if_neg (by decide),Nat.shiftLeft_eq,Nat.mul_assoc,← Nat.pow_add,show s+(m-s)=m from by omega]
theorem low1 (u v:Nat):(-(u:Int)-min (-(u:Int)) (-(v:Int))).toNat=max u v-u:=by omega
theorem low2 (u v:Nat):(-(v:Int)-min (-(u:Int)) (-(v:Int))).toNat=max u v-v:=by omega
theorem Zb3 {d e:Datum} {a b:Nat} (ha:IsN d a) (hb:IsN e b):d.order e=some (compare a b):=by
 obtain ⟨s,rfl,_⟩:=ha;obtain ⟨t,rfl,_⟩:=hb;simp only [Datum.order];rw [low1,low2,Qiy a s _ (by omega),Qiy b t _ (by omega)];have hp:0<2 ^ max s t:=Nat.pow_pos (by decide);generalize 2 ^ max s t=p at hp;congr 1;rcases Nat.lt_trichotomy a b with h | h | h
 ·have h2:a*p<b*p:=Nat.mul_lt_mul_of_pos_right h hp;rw [Nat.compare_eq_lt.2 h];exact Int.compare_eq_lt.2 (by omega)
 ·subst h;rw [Nat.compare_eq_eq.2 rfl];exact Int.compare_eq_eq.2 rfl
 ·have h2:b*p<a*p:=Nat.mul_lt_mul_of_pos_right h hp;rw [Nat.compare_eq_gt.2 h];exact Int.compare_eq_gt.2 (by omega)
theorem Zkh {d e:Datum} {a b:Nat} (ha:IsN d a) (hb:IsN e b):∃ r,d.sum e=some r∧IsN r (a+b):=by
 obtain ⟨s,rfl,hs⟩:=ha;obtain ⟨t,rfl,ht⟩:=hb;simp only [Datum.sum];refine ⟨_,rfl,max s t,?_,by omega⟩;have e3:signed false (a*2 ^ s) (-(s:Int)-min (-(s:Int)) (-(t:Int))).toNat+signed false (b*2 ^ t) (-(t:Int)-min (-(s:Int)) (-(t:Int))).toNat=(((a+b)*2 ^ max s t:Nat):Int):=by
  rw [low1,low2,Qiy a s _ (by omega),Qiy b t _ (by omega),Nat.add_mul];omega
 simp only [e3];congr 1
 ·split
  ·rfl
  ·exact decide_eq_false (Int.not_lt.2 (Int.natCast_nonneg _))
 ·omega
theorem Qk3 (n s:Nat) (h:n ≠ 0):(n*2 ^ s).log2=n.log2+s:=by
 have hp:0<2 ^ s:=Nat.pow_pos (by decide);have hn:n*2 ^ s ≠ 0:=by have:=Nat.mul_pos (Nat.pos_of_ne_zero h) hp;omega
 rw [Nat.log2_eq_iff hn];have h1:=(Nat.log2_eq_iff h).1 rfl;constructor
 ·rw [Nat.pow_add];exact Nat.mul_le_mul_right _ h1.1
 ·rw [show n.log2+s+1=(n.log2+1)+s from by omega,Nat.pow_add];exact Nat.mul_lt_mul_of_pos_right h1.2 hp
theorem Qsx (way:Toward) (neg:Bool) (n s:Nat):way.cut neg (n*2 ^ s) s=n:=by
 have hp:0<2 ^ s:=Nat.pow_pos (by decide);by_cases h0:n=0
 ·subst h0;simp only [Toward.cut,Nat.zero_mul,Nat.zero_div,Nat.zero_mod];cases way<;>simp
  all_goals (try omega)
 ·have hl:=Qk3 n s h0;have hm:min s ((n*2 ^ s).log2+2)=s:=by rw [hl];omega
  simp only [Toward.cut,hm,Nat.one_shiftLeft,Nat.mul_div_cancel _ hp,Nat.mul_mod_left];cases way<;>simp
  all_goals (try omega)
theorem Qot (n s:Nat) (hn:n<2 ^ 53) (h0:n ≠ 0) (hs:s≤1074):double.nearest false (n*2 ^ s) (-(s:Int))=(n.log2+1022)*2 ^ 52+n*2 ^ (52-n.log2):=by
 have hp:0<2 ^ s:=Nat.pow_pos (by decide);have hne:n*2 ^ s ≠ 0:=by have:=Nat.mul_pos (Nat.pos_of_ne_zero h0) hp;omega
 have hl:=Qk3 n s h0;have hk:n.log2≤52:=by
  have:=(Nat.log2_lt h0).2 hn;omega
 have hlast:max (-(s:Int)+((n*2 ^ s).log2:Int)-(double.fractionBits:Int)) double.leastPlace=(n.log2:Int)-52:=by
  rw [hl];simp only [double,Format.leastPlace];have:(2:Int) ^ (11-1)=1024:=by decide
  omega
 unfold Format.nearest;rw [if_neg hne];simp only [hlast];have hfin:∀ kept,kept=n*2 ^ (52-n.log2)→double.word false (min (((n.log2:Int)-52-double.leastPlace).toNat*double.binade+kept) double.infRung)=(n.log2+1022)*2 ^ 52+n*2 ^ (52-n.log2):=by
  rintro kept rfl;have e1:((n.log2:Int)-52-double.leastPlace).toNat=n.log2+1022:=by
   simp only [double,Format.leastPlace];have:(2:Int) ^ (11-1)=1024:=by decide
   omega
  have e2:double.binade=2 ^ 52:=rfl;have e3:double.infRung=2047*2 ^ 52:=rfl;rw [e1,e2,e3];have hb:n*2 ^ (52-n.log2)<2 ^ 53:=by
   have:=(Nat.log2_eq_iff h0).1 rfl;have h3:n*2 ^ (52-n.log2)<2 ^ (n.log2+1)*2 ^ (52-n.log2):=Nat.mul_lt_mul_of_pos_right this.2 (Nat.pow_pos (by decide));rw [← Nat.pow_add,show n.log2+1+(52-n.log2)=53 from by omega] at h3;exact h3
  have hb2:(n.log2+1022)*2 ^ 52≤1074*2 ^ 52:=Nat.mul_le_mul_right _ (by omega);have hle:(n.log2+1022)*2 ^ 52+n*2 ^ (52-n.log2)≤2047*2 ^ 52:=by
   rw [show (2:Nat) ^ 53=2*2 ^ 52 from by rw [Nat.pow_succ,Nat.mul_comm]] at hb;generalize (2:Nat) ^ 52=M at *;generalize (n.log2+1022)*M=A at *;generalize n*2 ^ (52-n.log2)=B at *;omega
  simp only [Format.word];rw [if_neg (by decide),Nat.min_eq_left hle]
 apply hfin;by_cases h:s≤52-n.log2
 ·rw [show ((n.log2:Int)-52 - -(s:Int)).toNat=0 from by omega,show (-(s:Int)-((n.log2:Int)-52)).toNat=52-n.log2-s from by omega,Nat.shiftLeft_eq,Nat.mul_assoc,← Nat.pow_add,show s+(52-n.log2-s)=52-n.log2 from by omega];have:=Qsx .even false (n*2 ^ (52-n.log2)) 0;simpa using this
 ·rw [show ((n.log2:Int)-52 - -(s:Int)).toNat=s-(52-n.log2) from by omega,show (-(s:Int)-((n.log2:Int)-52)).toNat=0 from by omega,Nat.shiftLeft_zero];have:=Qsx .even false (n*2 ^ (52-n.log2)) (s-(52-n.log2));rw [Nat.mul_assoc,← Nat.pow_add,show 52-n.log2+(s-(52-n.log2))=s from by omega] at this;exact this
def fl (n:Nat):Nat:=floatOfInt .f64 (n:Int)
theorem fl_eq (n:Nat) (hn:n<2 ^ 53) (h0:n ≠ 0):fl n=(n.log2+1022)*2 ^ 52+n*2 ^ (52-n.log2):=by
 have h:=Qot n 0 hn h0 (by decide);rw [Nat.pow_zero,Nat.mul_one] at h;exact h
theorem Zly:fl 0=0:=rfl
theorem Qps (n:Nat) (hn:n<2 ^ 53):IsN (double.read (fl n)) n:=by
 by_cases h0:n=0
 ·subst h0;obtain ⟨s,hs⟩:∃ s:Nat,s=1074:=⟨_,rfl⟩
  refine ⟨s,?_,by omega⟩;rw [Nat.zero_mul,show (-(s:Int)) = -1074 from by omega];rfl
 ·have hk:n.log2≤52:=by
   have:=(Nat.log2_lt h0).2 hn;omega
  have hlo:2 ^ 52≤n*2 ^ (52-n.log2):=by
   have:=(Nat.log2_eq_iff h0).1 rfl;have h3:2 ^ n.log2*2 ^ (52-n.log2)≤n*2 ^ (52-n.log2):=Nat.mul_le_mul_right _ this.1
   rwa [← Nat.pow_add,show n.log2+(52-n.log2)=52 from by omega] at h3
  have hhi:n*2 ^ (52-n.log2)<2*2 ^ 52:=by
   have:=(Nat.log2_eq_iff h0).1 rfl;have h3:n*2 ^ (52-n.log2)<2 ^ (n.log2+1)*2 ^ (52-n.log2):=Nat.mul_lt_mul_of_pos_right this.2 (Nat.pow_pos (by decide));rw [← Nat.pow_add,show n.log2+1+(52-n.log2)=53 from by omega] at h3
   rwa [show (2:Nat) ^ 53=2*2 ^ 52 from by rw [Nat.pow_succ,Nat.mul_comm]] at h3
  refine ⟨52-n.log2,?_,by omega⟩;rw [fl_eq n hn h0];have hsw:double.signWeight=2048*2 ^ 52:=rfl;have hbi:double.binade=2 ^ 52:=rfl;have hin:double.infRung=2047*2 ^ 52:=rfl;have hlp:double.leastPlace = -1074:=rfl;unfold Format.read;simp only [hsw,hbi,hin,hlp];have hM:0<(2:Nat) ^ 52:=Nat.pow_pos (by decide);generalize hB:n*2 ^ (52-n.log2)=B at *;obtain ⟨c,rfl⟩:∃ c,B=2 ^ 52+c:=⟨B-2 ^ 52,by omega⟩
  generalize (2:Nat) ^ 52=M at *;have hc:c<M:=by omega
  have e0:(n.log2+1022)*M+(M+c)=c+(n.log2+1023)*M:=by
   rw [show n.log2+1023=n.log2+1022+1 from by omega,Nat.add_mul (n.log2+1022) 1 M];omega
  have hlt:c+(n.log2+1023)*M<2047*M:=by
   have:(n.log2+1023)*M≤1075*M:=Nat.mul_le_mul_right _ (by omega);omega
  rw [e0];have hdiv:(c+(n.log2+1023)*M) / M=n.log2+1023:=by rw [Nat.add_mul_div_right _ _ hM,Nat.div_eq_of_lt hc,Nat.zero_add]
  have hmod:(c+(n.log2+1023)*M) % M=c:=by rw [Nat.add_mul_mod_self_right,Nat.mod_eq_of_lt hc]
  have hge:¬ (c+(n.log2+1023)*M)<M:=by
   have:1*M≤(n.log2+1023)*M:=Nat.mul_le_mul_right _ (by omega);omega
  rw [Nat.mod_eq_of_lt (by omega),Nat.div_eq_of_lt (by omega),if_neg hge,if_pos hlt,hdiv,hmod];have e9:(-1074+((n.log2+1023-1:Nat):Int)) = -((52-n.log2:Nat):Int):=by
   clear hlt hge hdiv hmod e0 hhi hn hB hlo;omega
  rw [e9];rfl
theorem Zht (a b:Nat) (ha:a<2 ^ 53) (hb:b<2 ^ 53):FloatKind.f64.format.order (fl a) (fl b)=some (compare a b):=
 Zb3 (Qps a ha) (Qps b hb)
theorem fl_add (a b:Nat) (h:a+b<2 ^ 53):FloatKind.f64.format.add (fl a) (fl b)=some (fl (a+b)):=by
 obtain ⟨r,hr,s,rfl,hs⟩:=Zkh (Qps a (Nat.lt_of_le_of_lt (Nat.le_add_right a b) h)) (Qps b (Nat.lt_of_le_of_lt (Nat.le_add_left b a) h));show ((double.read (fl a)).sum (double.read (fl b))).map double.write=_;rw [hr,Option.map_some];congr 1;show double.nearest false ((a+b)*2 ^ s) (-(s:Int))=_;by_cases h0:a+b=0
 ·rw [h0,Nat.zero_mul,Zly];simp [Format.nearest,Format.word]
 ·rw [Qot _ _ h h0 hs,fl_eq _ h h0]
end Copyhold

namespace Go.Proofs.YtahlldgocpabjaaGreat
open Go.RowKit Copyhold
theorem Zdr (n:Nat):floatOfInt .f64 (n:Int)=fl n:=rfl
theorem Zfu (a b:Nat) (w:World) :
  Calls Tryz.prog 235 #[.int .i64 a,.int .i64 b] w fun e w'=>e=.returned (.complex .f64 (fl a) (fl b))∧w=w':=by
 have ha:=Zdr a;have hb:=Zdr b
 go_enter Tryz.func235,Tryz.ntmps235
 go_wp2
 go_ret
 exact ⟨rfl,rfl⟩
def ofOk (a b:Int):Prop:=0≤a∧0≤b∧a≤1099511627776∧b≤1099511627776-a
theorem Qhe (a b:Nat) (w:World) (h:ofOk a b) :
  Calls Tryz.prog 214 #[.int .i64 a,.int .i64 b] w fun e w'=>e=.returned (.tuple #[.complex .f64 (fl a) (fl b),.int .i64 0])∧w=w':=by
 obtain ⟨_,_,h3,h4⟩:=h;have h1:(0:Int)≤(a:Int):=by omega
 have h2:(0:Int)≤(b:Int):=by omega
 go_enter Tryz.func214,Tryz.ntmps214
 go_wp2_with (go_at_call 235;refine (Zfu a b _).mono ?_;rintro e w' ⟨rfl,rfl⟩)
 go_ret2
 exact ⟨rfl,rfl⟩
theorem Ql6 (a b:Int) (w:World) (ha1:-9223372036854775808≤a) (ha2:a≤9223372036854775807) (hb1:-9223372036854775808≤b) (hb2:b≤9223372036854775807) (h:¬ ofOk a b) :
  Calls Tryz.prog 214 #[.int .i64 a,.int .i64 b] w fun e w'=>e=.returned (.tuple #[.complex .f64 0 0,.int .i64 1])∧w=w':=by
 unfold ofOk at h;rcases (show a<0∨0≤a∧b<0∨0≤a∧0≤b∧1099511627776<a∨0≤a∧0≤b∧a≤1099511627776∧1099511627776-a<b from by omega) with h1 | ⟨h1,h2⟩ | ⟨h1,h2,h3⟩ | ⟨h1,h2,h3,h4⟩
 all_goals
  clear h
  go_enter Tryz.func214,Tryz.ntmps214
  go_wp2_with fail
  go_ret2
  exact ⟨rfl,rfl⟩
end Go.Proofs.YtahlldgocpabjaaGreat

namespace Go.Proofs.YtahlldgocpabjaaGreat
open Go.RowKit Copyhold
attribute [local go_sem] Qyt
def Qd7 (l:List UInt8) (a b:Int):List UInt8 × Int:=
 if 0≤a∧0≤b∧a≤1099511627776∧b≤1099511627776-a then ((l.drop a.toNat).take b.toNat,0) else ([],1)
theorem Zee (l:List UInt8) (a b:Int) (w:World) (hl:l.length≤140737488355328) (ha1:-9223372036854775808≤a) (ha2:a≤9223372036854775807) (hb1:-9223372036854775808≤b) (hb2:b≤9223372036854775807) :
  Calls Tryz.prog 175 #[.string ⟨l.toArray⟩,.int .i64 a,.int .i64 b] w fun e w'=>e=.returned (.tuple #[.string ⟨(Qd7 l a b).1.toArray⟩,.int .i64 (Qd7 l a b).2])∧w=w':=by
 by_cases h:ofOk a b
 ·have hr:Qd7 l a b=((l.drop a.toNat).take b.toNat,0):=if_pos h;obtain ⟨h1,h2,h3,h4⟩:=id h;obtain ⟨a,rfl⟩:=Int.eq_ofNat_of_zero_le h1;obtain ⟨b,rfl⟩:=Int.eq_ofNat_of_zero_le h2;rw [Int.toNat_natCast,Int.toNat_natCast] at hr;have HR:=Lib.hid hr;have HO:=Lib.hid h;clear hr h ha1 hb1
  go_enter Tryz.func175,Tryz.ntmps175
  go_wp2_with fail
  refine (Qhe a b _ HO.out).mono ?_;rintro e w' ⟨rfl,rfl⟩;rcases (show l.length<a∨a≤l.length∧l.length<a+b∨a+b≤l.length from by omega) with q | ⟨q,q'⟩ | q
  ·go_wp2_with fail
   go_ret2
   refine ⟨?_,rfl⟩;rw [HR.out];exact ret2 (congrArg (fun x:List UInt8=>Value.string ⟨x.toArray⟩) (by rw [List.drop_eq_nil_of_le (by omega),List.take_nil])) rfl
  ·go_wp2_with fail
   go_ret2
   refine ⟨?_,rfl⟩;rw [HR.out];exact ret2 (congrArg (fun x:List UInt8=>Value.string ⟨x.toArray⟩) (by rw [List.take_of_length_le (by rw [List.length_drop];omega)])) rfl
  ·go_wp2_with fail
   go_ret2
   refine ⟨?_,rfl⟩;rw [HR.out];exact ret2 (congrArg (fun x:List UInt8=>Value.string ⟨x.toArray⟩) (by rw [List.drop_take,Nat.add_sub_cancel_left])) rfl
 ·have hr:Qd7 l a b=([],1):=if_neg h;have HR:=Lib.hid hr
  go_enter Tryz.func175,Tryz.ntmps175
  go_wp2_with fail
  refine (Ql6 a b _ ha1 ha2 hb1 hb2 h).mono ?_;rintro e w' ⟨rfl,rfl⟩
  go_wp2_with fail
  go_ret2
  exact ⟨by rw [HR.out];rfl,rfl⟩
def Qba (a b:Int):Int:=if 0≤a∧0≤b∧a≤1099511627776∧b≤1099511627776-a then (if a+b>4096 then 5 else 0) else 1
theorem Zlz:fl 4096=4661225614328463360:=by decide +kernel
theorem Qed (a b:Int) (w:World) (ha1:-9223372036854775808≤a) (ha2:a≤9223372036854775807) (hb1:-9223372036854775808≤b) (hb2:b≤9223372036854775807) :
  Calls Tryz.prog 215 #[.int .i64 a,.int .i64 b] w fun e w'=>e=.returned (.int .i64 (Qba a b))∧w=w':=by
 by_cases h:ofOk a b
 ·have hr:Qba a b=if a+b>4096 then 5 else 0:=if_pos h
  obtain ⟨h1,h2,h3,h4⟩:=id h;obtain ⟨a,rfl⟩:=Int.eq_ofNat_of_zero_le h1;obtain ⟨b,rfl⟩:=Int.eq_ofNat_of_zero_le h2;have hadd:=run_float_arith (P:=Tryz.prog) w .add 261 .f64 (fl a) (fl b) (fl (a+b)) (fl_add a b (by omega));have hord:=Zht (a+b) 4096 (by omega) (by decide);rw [Zlz] at hord;have HR:=Lib.hid hr;have HO:=Lib.hid h;clear hr h ha1 hb1;by_cases h5:4096<a+b
  ·have hf:Qba a b=5:=by rw [HR.out,if_pos (by omega)]
   rw [Nat.compare_eq_gt.2 h5] at hord;have HF:=Lib.hid hf;clear hf HR
   go_enter Tryz.func215,Tryz.ntmps215
   go_wp2_with fail
   refine (Qhe a b _ HO.out).mono ?_;rintro e w' ⟨rfl,rfl⟩
   go_wp2_with fail
   go_ret
   exact ⟨by rw [HF.out];rfl,rfl⟩
  ·have hf:Qba a b=0:=by rw [HR.out,if_neg (by omega)]
   have HF:=Lib.hid hf;clear hf HR;rcases Nat.lt_or_eq_of_le (Nat.not_lt.1 h5) with h6 | h6
   ·rw [Nat.compare_eq_lt.2 h6] at hord;clear h6
    go_enter Tryz.func215,Tryz.ntmps215
    go_wp2_with fail
    refine (Qhe a b _ HO.out).mono ?_;rintro e w' ⟨rfl,rfl⟩
    go_wp2_with fail
    go_ret
    exact ⟨by rw [HF.out];rfl,rfl⟩
   ·rw [Nat.compare_eq_eq.2 h6] at hord;clear h6
    go_enter Tryz.func215,Tryz.ntmps215
    go_wp2_with fail
    refine (Qhe a b _ HO.out).mono ?_;rintro e w' ⟨rfl,rfl⟩
    go_wp2_with fail
    go_ret
    exact ⟨by rw [HF.out];rfl,rfl⟩
 ·have hr:Qba a b=1:=if_neg h;have HR:=Lib.hid hr
  go_enter Tryz.func215,Tryz.ntmps215
  go_wp2_with fail
  refine (Ql6 a b _ ha1 ha2 hb1 hb2 h).mono ?_;rintro e w' ⟨rfl,rfl⟩
  go_wp2_with fail
  go_ret
  exact ⟨by rw [HR.out];rfl,rfl⟩
end Go.Proofs.YtahlldgocpabjaaGreat
