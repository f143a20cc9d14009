import Derived.Test.YtahlldgocpabjaaGreatAl
import Derived.Test.YtahlldgocpabjaaGreatMrgAH
import Derived.Test.YtahlldgocpabjaaGreatMrgF
import Derived.Test.YtahlldgocpabjaaGreatMrgH
import Derived.Test.YtahlldgocpabjaaGreatRows
import Derived.Test.YtahlldgocpabjaaGreatMrgW
set_option maxRecDepth 100000
set_option maxHeartbeats 8000000
set_option linter.unusedVariables false
set_option linter.unusedSimpArgs false
namespace Go.Proofs.YtahlldgocpabjaaGreat
open Go Go.RowKit Copyhold Go.Proofs.Tryz
structure RunK (s S:Sto) (k:Nat):Prop where
 fit:Fit S (200+513*k)
 p:Qb7 S
 up:s.stamp≤S.stamp
 st:S.stamp≤s.stamp+(k:Int)
 past:Qa3 S s.stamp=Qa3 s s.stamp
 view:∃ l:List Cal,l.length≤30*k∧(∀ c∈l,OkCal c)∧Qa3 S S.stamp=plF (Qa3 s s.stamp) l
theorem RunK.kept {s S:Sto} {k:Nat} (h:RunK s S k) (oks:OkS s) (hg:Qmq s) (hk:k≤6):∃ n,n≤180∧KeptN (Qa3 s s.stamp) (Qa3 S S.stamp) n:=by
 obtain ⟨l,h1,h2,h3⟩:=h.view;have K:=Qly (Qfg oks s.stamp) (Qjv hg.2.2.2.1 hg.2.2.2.2.1) (l:=l) (by omega) h2 (by have:=hg.2.2.2.2.2;omega) l.length (W0m _);rw [W13,← h3] at K;exact ⟨l.length,by omega,K⟩
theorem RunK.tree {s S:Sto} {k:Nat} (h:RunK s S k) (oks:OkS s) (hg:Qmq s) (hk:k≤6):TreeP (Qa3 S S.stamp)∧Zat (Qa3 S S.stamp)∧(Qa3 s s.stamp).next≤(Qa3 S S.stamp).next∧(Qa3 S S.stamp).next<1152921504606847976:=by
 obtain ⟨n,hn,K⟩:=h.kept oks hg hk;have h1:=K.few;have h2:=K.next;have h3:=hg.2.2.2.2.2;have h4:=hg.2.2.2.1.1;rw [Zau,Zau] at h1;refine ⟨K.tree,?_,h2.1,by omega⟩;unfold Zat;omega
theorem RunK.first {s:Sto} (oks:OkS s) (hg:Qmq s):RunK s s 0:=⟨Qxr oks hg.1,hg.2.1,W1s _,by omega,rfl,[],W0j _,fun c hc=>(by cases hc),rfl⟩
theorem RunK.mid {s S:Sto} {k:Nat} (h:RunK s S k) (hg:Qmq s) (hk:k≤6):MidS S:=Zfp h.fit (by omega) (by have:=h.st;have:=hg.2.2.1;omega)
theorem RunK.next {s S:Sto} {k:Nat} {l:List Cal} (h:RunK s S k) (oks:OkS s) (hg:Qmq s) (hk:k<6) (hl:l.length≤30) (ok:∀ c∈l,OkCal c):RunK s (runD S l) (k+1):=by
 obtain ⟨T,_,hx1,hx⟩:=h.tree oks hg (by omega);have hst:=h.st;have hs:=hg.2.2.1;obtain ⟨K,_,f3,f4,f5,f6,f7,f8,f9⟩:=Quy (l:=l) h.fit (by omega) h.p T (by omega) hx hl ok _ rfl;obtain ⟨m,m1,m2,m3⟩:=h.view;have hv:Qa3 (runD S l) (runD S l).stamp=plF (Qa3 s s.stamp) (m++l):=by
  rw [Qw4,← m3];exact f5.trans (Qgf l _)
 have hstp:(runD S l).stamp=S.stamp∨(runD S l).stamp=S.stamp+1:=by
  unfold runD;by_cases hi:(Qab (Qac S) l).was=(Qab (Qac S) l).now
  ·rw [Qdf (Qau.2 hi)];exact .inl rfl
  ·rw [Qc2 (Qad.2 hi) (Qad.2 f3)];exact .inr rfl
 have hup:=h.up;refine ⟨⟨f8.ok,W1a f8.l (by omega),W1a f8.n (by omega),fun c hc=>W1a (f8.r c hc) (by omega)⟩,f7,by omega,by omega,?_,m++l,by rw [W0e];omega,fun c hc=>(W05.1 hc).elim (m2 c) (ok c),hv⟩;rw [← h.past];unfold runD;by_cases hi:(Qab (Qac S) l).was=(Qab (Qac S) l).now
 ·rw [Qdf (Qau.2 hi)]
 ·rw [Qc2 (Qad.2 hi) (Qad.2 f3)];exact Zda h.p (Qfo _ _) (Qfp f9 K.now.tree.rows) K.now.tree.rows.2.1 hup
def Zo7 (W G f g:Fsy):Prop:=∀ i,(atF W i=atF G i∧atF f i=atF g i)∨(atF f i=atF W i∧atF g i=atF G i)
theorem Qto {W G:Fsy}:∀ (l:List Cal) (t:Txn) (g:Fsy),OkF t.now→TreeP t.now→OkF g→TreeP g→(∀ c∈l,OkCal c)→t.now.next+l.length<4611686018427387904→g.next+l.length<4611686018427387904 →
  ¬ (0:Int)∈(Qab t l).looks→(∀ i∈(Qab t l).looks,atF W i=atF G i)→Zo7 W G t.now g →
  plR t.now l=plR g l∧Zo7 W G (Qab t l).now (plF g l)∧(Qab t l).now.next=t.now.next∧(plF g l).next=g.next
 | [],t,g,_,_,_,_,_,_,_,_,_,h=>⟨rfl,h,rfl,rfl⟩
 | c :: r,t,g,okf,T,okg,Tg,ok,hx,hy,h0,hl,h=>by
  have hcl:((c :: r).length:Int)=(r.length:Int)+1:=by rw [W0b];omega
  have okc:=ok c (by simp);have hw:¬ Qhu c:=fun hw=>h0 (Qlm r (Qps (Qj8.2 (.inl ⟨rfl,hw⟩))));have hin:∀ i∈Qe1 t.now c,1≤i→atF W i=atF G i:=fun i hi h1=>hl i (Qlm r (Qps (Qj8.2 (.inr ⟨by
   unfold Qaq;rw [W1x (fun e=>hw (.inr (.inr (.inr (.inr e)))))];exact Qey.2 hi,h1⟩))))
  have hag:∀ i∈Qe1 t.now c,atF t.now i=atF g i:=fun i hi=>by
   by_cases h1:1≤i
   ·rcases h i with ⟨_,e⟩ | ⟨e1,e2⟩
    ·exact e
    ·rw [e1,e2];exact hin i hi h1
   ·rw [Qmn T.rows h1,Qmn Tg.rows h1]
  have K:=Qr0 okf okc T (by omega);have Kg:=Qr0 okg okc Tg (by omega);obtain ⟨u,A⟩:=Zks okf okg T.rows Tg.rows okc hw hag;have hs:Zo7 W G (doF t.now c).1 (doF g c).1:=fun i=>by
   by_cases hi:∃ p∈u,p.1=i
   ·by_cases h1:1≤i
    ·obtain ⟨p,hp,rfl⟩:=hi;exact .inl ⟨hin _ (A.looks p hp) h1,by rw [A.updf,A.updg];exact Zmw ⟨p,hp,rfl⟩⟩
    ·rcases h i with ⟨e,_⟩ | ⟨e1,e2⟩
     ·exact .inl ⟨e,by rw [Qmn K.tree.rows h1,Qmn Kg.tree.rows h1]⟩
     ·exact .inr ⟨by rw [← e1,Qmn K.tree.rows h1,Qmn T.rows h1],by rw [← e2,Qmn Kg.tree.rows h1,Qmn Tg.rows h1]⟩
   ·have e1:=A.updf.out (j:=i) (fun p hp e=>hi ⟨p,hp,e⟩);have e2:=A.updg.out (j:=i) (fun p hp e=>hi ⟨p,hp,e⟩);rw [e1,e2];exact h i
  have n1:=A.nextf;have n2:=A.nextg;have ih:=Qto r (Qbb t c) (doF g c).1 K.ok K.tree Kg.ok Kg.tree (fun c hc=>ok c (by simp [hc])) (by show (doF t.now c).1.next+_<_;omega) (by omega) h0 hl hs;exact ⟨by show (doF t.now c).2 :: plR (doF t.now c).1 r=_;rw [show plR (doF t.now c).1 r=plR (doF g c).1 r from ih.1,A.same];rfl,ih.2.1,ih.2.2.1.trans n1,ih.2.2.2.trans n2⟩
theorem Qtp {s S:Sto} {k:Nat} {l:List Cal} (oks:OkS s) (hg:Qmq s) (h:RunK s S k) (hk:k≤6) (hl:l.length≤30) (ok:∀ c∈l,OkCal c):∀ t,t=Qab (Qac s) l→¬ t.was=t.now→¬ Qeg S t →
  plR (Qa3 s s.stamp) l=plR (Qa3 S S.stamp) l∧Qa3 (Qa0 S t).1 (Qa0 S t).1.stamp=plF (Qa3 S S.stamp) l∧(Qa0 S t).1.stamp=S.stamp+1:=by
 intro t et hne hnc;obtain ⟨K,T,_,_,_,_,_,_,f9⟩:=Qos oks hg hl ok t et;obtain ⟨TG,_,hx1,hx2⟩:=h.tree oks hg hk;have hnx:(Qa3 s s.stamp).next<1152921504606846976:=hg.2.2.2.2.2;have hwas:t.was=Qa3 s s.stamp:=K.was;have hts:t.stamp=s.stamp:=by rw [et];exact Qg6 l _
 have hn:=K.now.tree.rows;rw [Qc2 (Qad.2 hne) (Qad.2 hnc)];have hnow:t.now=plF (Qa3 s s.stamp) l:=by rw [et];exact Qgf l _
 by_cases e:Qa3 s s.stamp=Qa3 S S.stamp
 ·refine ⟨by rw [e],?_,rfl⟩;show Qa3 (Qcy S _ _) (S.stamp+1)=_;rw [hwas,e,← e,hnow];rw [e];exact Qtr h.p TG.rows (by rw [← e,← hnow];exact hn) (by rw [← e,← hnow];exact K.now.next.1)
 ·have hle:=h.up;have h0:¬ (0:Int)∈t.looks:=fun h0=>hnc ⟨0,by rw [hts];exact Za6 hle (by rw [h.past];exact e),h0⟩;have hlk:∀ i∈t.looks,atF (Qa3 s s.stamp) i=atF (Qa3 S S.stamp) i:=fun i hi=>Classical.byContradiction fun hc=>hnc ⟨i,by rw [hts];exact Zdt h.p hle TG.rows (by rw [h.past];exact hc),hi⟩;have P:=Qto (W:=Qa3 s s.stamp) (G:=Qa3 S S.stamp) l (Qac s) (Qa3 S S.stamp) (Qhq oks).now T (Qfg h.fit.ok _) TG ok (by show (Qa3 s s.stamp).next+_<_;omega) (by omega) (by rw [← et];exact h0) (by rw [← et];exact hlk) (fun i=>.inr ⟨rfl,rfl⟩);rw [← et] at P;obtain ⟨p1,p2,p3,p4⟩:=P;obtain ⟨n,hn180,KG⟩:=h.kept oks hg hk;have Kl:=Qly (Qfg h.fit.ok S.stamp) TG (l:=l) (by omega) ok hx2 l.length (W0m _);rw [W13] at Kl;refine ⟨p1,?_,rfl⟩;show Qa3 (Qcy S _ _) (S.stamp+1)=_;refine Ql0 (Qj6 (Qgw h.p (Qfo _ _) (Qfp f9 hn) hn.2.1) _) (Qaf Kl.tree.rows) (fun i=>?_) ?_
  ·rw [Zdy h.p f9 hn,hwas]
   split
   ·rename_i c;rcases p2 i with ⟨a1,a2⟩ | ⟨a1,a2⟩
    ·rw [← a1,c,a2]
    ·rw [a2]
   ·rename_i c;rcases p2 i with ⟨a1,a2⟩ | ⟨a1,a2⟩
    ·exact a2
    ·exact absurd a1.symm c
  ·show Qf8 _ _=_;rw [Qud h.p,p4];have e1:Qf8 S S.stamp=(Qa3 S S.stamp).next:=rfl;have e2:t.now.next=(Qa3 s s.stamp).next:=p3;rw [e1,e2];unfold maxD
   split<;>omega
noncomputable def Qb4 (s:Sto) (os:List (List Cal)):Sto:=os.foldl runD s
theorem Qtt {s:Sto} {os:List (List Cal)} {k:Nat} {x:List Cal} (h:os[k]?=some x):Qb4 s (os.take (k+1))=runD (Qb4 s (os.take k)) x:=by
 unfold Qb4;rw [Qam h,W1p];rfl
theorem Zov {S:Sto} {t:Txn} (h:¬ (Qa0 S t).2=0):(Qa0 S t).1=S:=by
 by_cases hi:t.was=t.now
 ·rw [Qdf (Qau.2 hi)]
 ·by_cases hc:Qeg S t
  ·rw [Qd2 (Qad.2 hi) (Qau.2 hc)]
  ·exact absurd (by rw [Qc2 (Qad.2 hi) (Qad.2 hc)]) h
theorem Zk9 {S:Sto} {t:Txn} (h:(Qa0 S t).2=0) (hi:¬ t.was=t.now):¬ Qeg S t:=fun hc=>by
 rw [Qd2 (Qad.2 hi) (Qau.2 hc)] at h;cases h
theorem Zdz {s:Sto} {os:List (List Cal)} {j:Nat} (h:¬ 0<os.length):Qb4 s (os.take j)=s:=by
 rw [W0l (show os.length=0 by omega)];simp [Qb4]
def Qpn (l:List Cal):List AV:=[.sl 8 false (l.map calA)]
theorem Zcp {s:Sto} {t:Txn} {B:Nat} (h:Fit s B) (okt:OkT t) (hw:Qan t.was) (hn:Qan t.now) (hs:s.stamp<4611686018427387904) (hB:B≤90000):Fit (Qa0 s t).1 (B+513)∧(Qa0 s t).1.stamp≤s.stamp+1:=by
 have up:Fit s (B+513):=⟨h.ok,W1a h.l (by omega),W1a h.n (by omega),fun c hc=>W1a (h.r c hc) (by omega)⟩
 by_cases hi:t.was=t.now
 ·rw [Qdf (Qau.2 hi)];exact ⟨up,by show s.stamp≤_;omega⟩
 ·by_cases hc:Qeg s t
  ·rw [Qd2 (Qad.2 hi) (Qau.2 hc)];exact ⟨up,by show s.stamp≤_;omega⟩
  ·rw [Qc2 (Qad.2 hi) (Qad.2 hc)];have hlen:=Qfq t.was t.now;have h1:=hw.1;have h2:=hn.1;have F:=h.inst (Ql5 okt.was okt.now) (next:=t.now.next) okt.now.1 (by omega) (by omega);exact ⟨⟨F.ok,W1a F.l (by omega),W1a F.n (by omega),fun c hc=>W1a (F.r c hc) (by omega)⟩,W1s _⟩
theorem Qmp (s:Sto) (os:List (List Cal)) (l:List Cal) (oks:OkS s) (hos:os.length≤8796093022207) (oko:∀ x∈os,x.length≤8796093022207∧∀ c∈x,OkC0 c) (hll:l.length≤8796093022207) (okl:∀ c∈l,OkC0 c):Qai prog 5 [.agg (stoA s),.sl 1 false (os.map Qpn),.sl 8 false (l.map calA)] (aB true):=by
 exact Qae func5 (
 .new fun b1=>.r 1<|.call (Zm8)<|
 .r 1<|.u 1 [b1]<|
 .call (Qp2 s oks)<|
 .r 2<|.br 22 (!(dP (Qmq s))) (fun q1=>have q1:=notT q1;have p1:=booF q1;.r 9<|.r 2<|.f (aB true) [] (aB true) (by exact W2p (W1z aB (by first | rfl | exact Qau.2 hidle | exact decide_eq_true (by omega) | exact beq_iff_eq.2 sf.2.2))))
 <| fun q1=>have q1:=notF q1;have p1:=booT q1;have hgd:=Qau.1 q1;have hfit:=Qxr oks hgd.1;have hx0:(Qac s).now.next<1152921504606847976:=(by have:=hgd.2.2.2.2.2;show (Qa3 s s.stamp).next<_;omega);have T:TreeP (Qac s).now:=Qjv hgd.2.2.2.1 hgd.2.2.2.2.1;.r 1<|.call (Qpw l hll okl)<|
 .r 3<|.br 27 (!(dP (Qfw l))) (fun q2=>have q2:=notT q2;have p2:=booF q2;.r 4<|.r 2<|.f (aB true) [] (aB true) (by exact W2p (W1z aB (by first | rfl | exact Qau.2 hidle | exact decide_eq_true (by omega) | exact beq_iff_eq.2 sf.2.2))))
 <| fun q2=>have q2:=notF q2;have p2:=booT q2;have hsm:=Qau.1 q2;have hl30:l.length≤30:=hsm.2;have ok:∀ c∈l,OkCal c:=fun c hc=>Qyo hsm hc (okl c hc);have htx:∀ c∈l,c.text.length≤500000:=fun c hc=>(by have:=(Qtl hsm hc).2.2;omega);.r 2<|.lm 29 os Qpn<|.r 2<|.bd 31 ((os.length:Int)>6) (fun p3=>.r 2<|.f (aB true) [] (aB true) (by exact W2p (W1z aB (by first | rfl | exact Qau.2 hidle | exact decide_eq_true (by omega) | exact beq_iff_eq.2 sf.2.2))))
 <| fun p3=>.u 1 [b1]<|
 .call (Qeu s oks (by have:=hfit.l;omega))<|
 .new fun b2=>.u 1 [b2]<|
 .r 1<|.r 1<|.rowNil 9 9 45 6<|let L1:Lp (Nat × Value):=⟨fun a1=>⟨[(1,.sl 1 false (os.map Qpn)),(2,.sl 8 false (l.map calA)),(3,.ptr 3 b1 0),(7,aB true),(8,.ptr 8 b2 0),(10,aI (a1.1:Int)),(9,.rw 9 a1.2 ((plR (Qac s).now (l.take a1.1)).length))],[(3,.box b1 25 (stoA s)),(8,.box b2 31 [aI ((Qab (Qac s) (l.take a1.1)).stamp),.sl 5 false ((Qab (Qac s) (l.take a1.1)).was.l.map nodA),aI ((Qab (Qac s) (l.take a1.1)).was.next),.sl 5 false ((Qab (Qac s) (l.take a1.1)).now.l.map nodA),aI ((Qab (Qac s) (l.take a1.1)).now.next),.sl 1 false ((Qab (Qac s) (l.take a1.1)).looks.map intA)]),(9,.row a1.2 45 6 ((plR (Qac s).now (l.take a1.1)).map repA))]⟩,fun a1=>l.length-a1.1,fun a1=>a1.1≤l.length⟩
 .lp L1 (0,.slice none 0 0) (show 0≤l.length from W0j _) [(10,aI 0),(9,.rw 9 (.slice none 0 0) 0)] [(8,.box b2 31 [aI ((Qac s).stamp),.sl 5 false ((Qac s).was.l.map nodA),aI ((Qac s).was.next),.sl 5 false ((Qac s).now.l.map nodA),aI ((Qac s).now.next),.sl 1 false ((Qac s).looks.map intA)]),(9,.row (.slice none 0 0) 45 6 ([]))] ⟨sR,sR,sR,sR,sR,sO,W2p rfl,trivial⟩ ⟨sB,⟨_,rfl,W2q rfl⟩,⟨_,rfl,W2q rfl⟩,trivial⟩ fun a1 ha1=>
 (fun (k:Nat) (V:Value) (hH1:k≤l.length)=>have kt:=Qgv (Qhq oks) T (by omega) ok hx0 (by show ([]:List Int).length≤_;simp) (k:=k) (by omega);have kl:=kt.len;have kl0:(Qac s).looks.length=0:=rfl;have kn:=kt.now.next;have hpl:=Qa7 (f:=(Qac s).now) (l:=l) (k:=k) (by omega);.r 3<|.lm 37 l calA<|.r 1<|.bd 38 ((k:Int)<(l.length:Int)) (fun p4=>.pick [0,1,2,3,4]<|.u 3 [b2]<|
 .idxM l calA k (m:=(k:Int)) rfl (by omega) fun x1 hx1=>
 .r 1<|.fork<|.alt (.call (Qfj (Qab (Qac s) (l.take k)) x1 kt.ok.now (ok x1 (W0h hx1)) kt.now.tree.rows (by omega) (by omega))<|
 .pick [6,7,8]<|.r 3<|.fork<|.alt (.new fun b3=>.pick [10,11,12]<|.new fun b4=>.u 2 [b3,b4]<|
 .u 2 [b3,b2]<|
 .u 3 [b4]<|
 .app 72 V ((plR (Qac s).now (l.take k)).map repA) ([[aI ((doF (Qab (Qac s) (l.take k)).now x1).2.e),aI ((doF (Qab (Qac s) (l.take k)).now x1).2.a),aI ((doF (Qab (Qac s) (l.take k)).now x1).2.b),aI ((doF (Qab (Qac s) (l.take k)).now x1).2.n),aS ((doF (Qab (Qac s) (l.take k)).now x1).2.text),.sl 1 false ((doF (Qab (Qac s) (l.take k)).now x1).2.names.map txA)]]) (by simp only [W0a,W0b,W0f];omega) (by simp only [W0a,W0b,W0f];omega) fun V1=>
 .r 1<|.run 3 [rng .i64 ((k:Int)+1)] ⟨Qah,trivial⟩<|
 .bk L1 (k,V) ((k+1),V1) (show (k+1)≤l.length from (by show _≤_;omega)) (show l.length-(k+1)<l.length-k from (by omega)) [(10,aI ((k:Int)+1)),(9,.rw 9 V1 (((plR (Qac s).now (l.take k)).map repA).length+([[aI ((doF (Qab (Qac s) (l.take k)).now x1).2.e),aI ((doF (Qab (Qac s) (l.take k)).now x1).2.a),aI ((doF (Qab (Qac s) (l.take k)).now x1).2.b),aI ((doF (Qab (Qac s) (l.take k)).now x1).2.n),aS ((doF (Qab (Qac s) (l.take k)).now x1).2.text),.sl 1 false ((doF (Qab (Qac s) (l.take k)).now x1).2.names.map txA)]]:List (List AV)).length))] [(8,.box b2 31 [aI ((Qbb (Qab (Qac s) (l.take k)) x1).stamp),.sl 5 false ((Qbb (Qab (Qac s) (l.take k)) x1).was.l.map nodA),aI ((Qbb (Qab (Qac s) (l.take k)) x1).was.next),.sl 5 false ((Qbb (Qab (Qac s) (l.take k)) x1).now.l.map nodA),aI ((Qbb (Qab (Qac s) (l.take k)) x1).now.next),.sl 1 false ((Qbb (Qab (Qac s) (l.take k)) x1).looks.map intA)]),(9,.row V1 45 6 (((plR (Qac s).now (l.take k)).map repA)++([[aI ((doF (Qab (Qac s) (l.take k)).now x1).2.e),aI ((doF (Qab (Qac s) (l.take k)).now x1).2.a),aI ((doF (Qab (Qac s) (l.take k)).now x1).2.b),aI ((doF (Qab (Qac s) (l.take k)).now x1).2.n),aS ((doF (Qab (Qac s) (l.take k)).now x1).2.text),.sl 1 false ((doF (Qab (Qac s) (l.take k)).now x1).2.names.map txA)]])))] ⟨sR,sR,sR,sR,sR,sO,W2p (W1z (AV.rw 9 V1) (by rw [Qbp hx1];simp)),trivial⟩ ⟨sB,⟨_,rfl,W2q (by rw [Qci hx1])⟩,⟨_,rfl,W2q (by rw [Qbp hx1];simp [repA])⟩,trivial⟩)
 <| .new fun b5=>.pick [9,11,12]<|.new fun b6=>.u 2 [b6,b5]<|
 .u 2 [b6,b2]<|
 .u 3 [b5]<|
 .app 72 V ((plR (Qac s).now (l.take k)).map repA) ([[aI ((doF (Qab (Qac s) (l.take k)).now x1).2.e),aI ((doF (Qab (Qac s) (l.take k)).now x1).2.a),aI ((doF (Qab (Qac s) (l.take k)).now x1).2.b),aI ((doF (Qab (Qac s) (l.take k)).now x1).2.n),aS ((doF (Qab (Qac s) (l.take k)).now x1).2.text),.sl 1 false ((doF (Qab (Qac s) (l.take k)).now x1).2.names.map txA)]]) (by simp only [W0a,W0b,W0f];omega) (by simp only [W0a,W0b,W0f];omega) fun V2=>
 .r 1<|.run 3 [rng .i64 ((k:Int)+1)] ⟨Qah,trivial⟩<|
 .bk L1 (k,V) ((k+1),V2) (show (k+1)≤l.length from (by show _≤_;omega)) (show l.length-(k+1)<l.length-k from (by omega)) [(10,aI ((k:Int)+1)),(9,.rw 9 V2 (((plR (Qac s).now (l.take k)).map repA).length+([[aI ((doF (Qab (Qac s) (l.take k)).now x1).2.e),aI ((doF (Qab (Qac s) (l.take k)).now x1).2.a),aI ((doF (Qab (Qac s) (l.take k)).now x1).2.b),aI ((doF (Qab (Qac s) (l.take k)).now x1).2.n),aS ((doF (Qab (Qac s) (l.take k)).now x1).2.text),.sl 1 false ((doF (Qab (Qac s) (l.take k)).now x1).2.names.map txA)]]:List (List AV)).length))] [(8,.box b2 31 [aI ((Qbb (Qab (Qac s) (l.take k)) x1).stamp),.sl 5 false ((Qbb (Qab (Qac s) (l.take k)) x1).was.l.map nodA),aI ((Qbb (Qab (Qac s) (l.take k)) x1).was.next),.sl 5 false ((Qbb (Qab (Qac s) (l.take k)) x1).now.l.map nodA),aI ((Qbb (Qab (Qac s) (l.take k)) x1).now.next),.sl 1 false ((Qbb (Qab (Qac s) (l.take k)) x1).looks.map intA)]),(9,.row V2 45 6 (((plR (Qac s).now (l.take k)).map repA)++([[aI ((doF (Qab (Qac s) (l.take k)).now x1).2.e),aI ((doF (Qab (Qac s) (l.take k)).now x1).2.a),aI ((doF (Qab (Qac s) (l.take k)).now x1).2.b),aI ((doF (Qab (Qac s) (l.take k)).now x1).2.n),aS ((doF (Qab (Qac s) (l.take k)).now x1).2.text),.sl 1 false ((doF (Qab (Qac s) (l.take k)).now x1).2.names.map txA)]])))] ⟨sR,sR,sR,sR,sR,sO,W2p (W1z (AV.rw 9 V2) (by rw [Qbp hx1];simp)),trivial⟩ ⟨sB,⟨_,rfl,W2q (by rw [Qci hx1])⟩,⟨_,rfl,W2q (by rw [Qbp hx1];simp [repA])⟩,trivial⟩)
 <| .alt (.new fun b7=>.fork<|.alt (.call (Qfj (Qab (Qac s) (l.take k)) x1 kt.ok.now (ok x1 (W0h hx1)) kt.now.tree.rows (by omega) (by omega))<|
 .pick [6,7,8,10,11,12]<|.r 3<|.new fun b8=>.u 2 [b7,b8]<|
 .u 2 [b7,b2]<|
 .u 3 [b8]<|
 .app 72 V ((plR (Qac s).now (l.take k)).map repA) ([[aI ((doF (Qab (Qac s) (l.take k)).now x1).2.e),aI ((doF (Qab (Qac s) (l.take k)).now x1).2.a),aI ((doF (Qab (Qac s) (l.take k)).now x1).2.b),aI ((doF (Qab (Qac s) (l.take k)).now x1).2.n),aS ((doF (Qab (Qac s) (l.take k)).now x1).2.text),.sl 1 false ((doF (Qab (Qac s) (l.take k)).now x1).2.names.map txA)]]) (by simp only [W0a,W0b,W0f];omega) (by simp only [W0a,W0b,W0f];omega) fun V3=>
 .r 1<|.run 3 [rng .i64 ((k:Int)+1)] ⟨Qah,trivial⟩<|
 .bk L1 (k,V) ((k+1),V3) (show (k+1)≤l.length from (by show _≤_;omega)) (show l.length-(k+1)<l.length-k from (by omega)) [(10,aI ((k:Int)+1)),(9,.rw 9 V3 (((plR (Qac s).now (l.take k)).map repA).length+([[aI ((doF (Qab (Qac s) (l.take k)).now x1).2.e),aI ((doF (Qab (Qac s) (l.take k)).now x1).2.a),aI ((doF (Qab (Qac s) (l.take k)).now x1).2.b),aI ((doF (Qab (Qac s) (l.take k)).now x1).2.n),aS ((doF (Qab (Qac s) (l.take k)).now x1).2.text),.sl 1 false ((doF (Qab (Qac s) (l.take k)).now x1).2.names.map txA)]]:List (List AV)).length))] [(8,.box b2 31 [aI ((Qbb (Qab (Qac s) (l.take k)) x1).stamp),.sl 5 false ((Qbb (Qab (Qac s) (l.take k)) x1).was.l.map nodA),aI ((Qbb (Qab (Qac s) (l.take k)) x1).was.next),.sl 5 false ((Qbb (Qab (Qac s) (l.take k)) x1).now.l.map nodA),aI ((Qbb (Qab (Qac s) (l.take k)) x1).now.next),.sl 1 false ((Qbb (Qab (Qac s) (l.take k)) x1).looks.map intA)]),(9,.row V3 45 6 (((plR (Qac s).now (l.take k)).map repA)++([[aI ((doF (Qab (Qac s) (l.take k)).now x1).2.e),aI ((doF (Qab (Qac s) (l.take k)).now x1).2.a),aI ((doF (Qab (Qac s) (l.take k)).now x1).2.b),aI ((doF (Qab (Qac s) (l.take k)).now x1).2.n),aS ((doF (Qab (Qac s) (l.take k)).now x1).2.text),.sl 1 false ((doF (Qab (Qac s) (l.take k)).now x1).2.names.map txA)]])))] ⟨sR,sR,sR,sR,sR,sO,W2p (W1z (AV.rw 9 V3) (by rw [Qbp hx1];simp)),trivial⟩ ⟨sB,⟨_,rfl,W2q (by rw [Qci hx1])⟩,⟨_,rfl,W2q (by rw [Qbp hx1];simp [repA])⟩,trivial⟩)
 <| .new fun b9=>.pick [5,6,7,8,11,12]<|.call (Qfj (Qab (Qac s) (l.take k)) x1 kt.ok.now (ok x1 (W0h hx1)) kt.now.tree.rows (by omega) (by omega))<|
 .u 5 [b7,b9]<|
 .u 2 [b7,b2]<|
 .u 3 [b9]<|
 .app 72 V ((plR (Qac s).now (l.take k)).map repA) ([[aI ((doF (Qab (Qac s) (l.take k)).now x1).2.e),aI ((doF (Qab (Qac s) (l.take k)).now x1).2.a),aI ((doF (Qab (Qac s) (l.take k)).now x1).2.b),aI ((doF (Qab (Qac s) (l.take k)).now x1).2.n),aS ((doF (Qab (Qac s) (l.take k)).now x1).2.text),.sl 1 false ((doF (Qab (Qac s) (l.take k)).now x1).2.names.map txA)]]) (by simp only [W0a,W0b,W0f];omega) (by simp only [W0a,W0b,W0f];omega) fun V4=>
 .r 1<|.run 3 [rng .i64 ((k:Int)+1)] ⟨Qah,trivial⟩<|
 .bk L1 (k,V) ((k+1),V4) (show (k+1)≤l.length from (by show _≤_;omega)) (show l.length-(k+1)<l.length-k from (by omega)) [(10,aI ((k:Int)+1)),(9,.rw 9 V4 (((plR (Qac s).now (l.take k)).map repA).length+([[aI ((doF (Qab (Qac s) (l.take k)).now x1).2.e),aI ((doF (Qab (Qac s) (l.take k)).now x1).2.a),aI ((doF (Qab (Qac s) (l.take k)).now x1).2.b),aI ((doF (Qab (Qac s) (l.take k)).now x1).2.n),aS ((doF (Qab (Qac s) (l.take k)).now x1).2.text),.sl 1 false ((doF (Qab (Qac s) (l.take k)).now x1).2.names.map txA)]]:List (List AV)).length))] [(8,.box b2 31 [aI ((Qbb (Qab (Qac s) (l.take k)) x1).stamp),.sl 5 false ((Qbb (Qab (Qac s) (l.take k)) x1).was.l.map nodA),aI ((Qbb (Qab (Qac s) (l.take k)) x1).was.next),.sl 5 false ((Qbb (Qab (Qac s) (l.take k)) x1).now.l.map nodA),aI ((Qbb (Qab (Qac s) (l.take k)) x1).now.next),.sl 1 false ((Qbb (Qab (Qac s) (l.take k)) x1).looks.map intA)]),(9,.row V4 45 6 (((plR (Qac s).now (l.take k)).map repA)++([[aI ((doF (Qab (Qac s) (l.take k)).now x1).2.e),aI ((doF (Qab (Qac s) (l.take k)).now x1).2.a),aI ((doF (Qab (Qac s) (l.take k)).now x1).2.b),aI ((doF (Qab (Qac s) (l.take k)).now x1).2.n),aS ((doF (Qab (Qac s) (l.take k)).now x1).2.text),.sl 1 false ((doF (Qab (Qac s) (l.take k)).now x1).2.names.map txA)]])))] ⟨sR,sR,sR,sR,sR,sO,W2p (W1z (AV.rw 9 V4) (by rw [Qbp hx1];simp)),trivial⟩ ⟨sB,⟨_,rfl,W2q (by rw [Qci hx1])⟩,⟨_,rfl,W2q (by rw [Qbp hx1];simp [repA])⟩,trivial⟩)
 <| .new fun b10=>.fork<|.alt (.call (Qfj (Qab (Qac s) (l.take k)) x1 kt.ok.now (ok x1 (W0h hx1)) kt.now.tree.rows (by omega) (by omega))<|
 .pick [6,7,8,9,11,12]<|.r 3<|.new fun b11=>.u 2 [b11,b10]<|
 .u 2 [b11,b2]<|
 .u 3 [b10]<|
 .app 72 V ((plR (Qac s).now (l.take k)).map repA) ([[aI ((doF (Qab (Qac s) (l.take k)).now x1).2.e),aI ((doF (Qab (Qac s) (l.take k)).now x1).2.a),aI ((doF (Qab (Qac s) (l.take k)).now x1).2.b),aI ((doF (Qab (Qac s) (l.take k)).now x1).2.n),aS ((doF (Qab (Qac s) (l.take k)).now x1).2.text),.sl 1 false ((doF (Qab (Qac s) (l.take k)).now x1).2.names.map txA)]]) (by simp only [W0a,W0b,W0f];omega) (by simp only [W0a,W0b,W0f];omega) fun V5=>
 .r 1<|.run 3 [rng .i64 ((k:Int)+1)] ⟨Qah,trivial⟩<|
 .bk L1 (k,V) ((k+1),V5) (show (k+1)≤l.length from (by show _≤_;omega)) (show l.length-(k+1)<l.length-k from (by omega)) [(10,aI ((k:Int)+1)),(9,.rw 9 V5 (((plR (Qac s).now (l.take k)).map repA).length+([[aI ((doF (Qab (Qac s) (l.take k)).now x1).2.e),aI ((doF (Qab (Qac s) (l.take k)).now x1).2.a),aI ((doF (Qab (Qac s) (l.take k)).now x1).2.b),aI ((doF (Qab (Qac s) (l.take k)).now x1).2.n),aS ((doF (Qab (Qac s) (l.take k)).now x1).2.text),.sl 1 false ((doF (Qab (Qac s) (l.take k)).now x1).2.names.map txA)]]:List (List AV)).length))] [(8,.box b2 31 [aI ((Qbb (Qab (Qac s) (l.take k)) x1).stamp),.sl 5 false ((Qbb (Qab (Qac s) (l.take k)) x1).was.l.map nodA),aI ((Qbb (Qab (Qac s) (l.take k)) x1).was.next),.sl 5 false ((Qbb (Qab (Qac s) (l.take k)) x1).now.l.map nodA),aI ((Qbb (Qab (Qac s) (l.take k)) x1).now.next),.sl 1 false ((Qbb (Qab (Qac s) (l.take k)) x1).looks.map intA)]),(9,.row V5 45 6 (((plR (Qac s).now (l.take k)).map repA)++([[aI ((doF (Qab (Qac s) (l.take k)).now x1).2.e),aI ((doF (Qab (Qac s) (l.take k)).now x1).2.a),aI ((doF (Qab (Qac s) (l.take k)).now x1).2.b),aI ((doF (Qab (Qac s) (l.take k)).now x1).2.n),aS ((doF (Qab (Qac s) (l.take k)).now x1).2.text),.sl 1 false ((doF (Qab (Qac s) (l.take k)).now x1).2.names.map txA)]])))] ⟨sR,sR,sR,sR,sR,sO,W2p (W1z (AV.rw 9 V5) (by rw [Qbp hx1];simp)),trivial⟩ ⟨sB,⟨_,rfl,W2q (by rw [Qci hx1])⟩,⟨_,rfl,W2q (by rw [Qbp hx1];simp [repA])⟩,trivial⟩)
 <| .new fun b12=>.pick [5,6,7,8,11,12]<|.call (Qfj (Qab (Qac s) (l.take k)) x1 kt.ok.now (ok x1 (W0h hx1)) kt.now.tree.rows (by omega) (by omega))<|
 .u 5 [b12,b10]<|
 .u 2 [b12,b2]<|
 .u 3 [b10]<|
 .app 72 V ((plR (Qac s).now (l.take k)).map repA) ([[aI ((doF (Qab (Qac s) (l.take k)).now x1).2.e),aI ((doF (Qab (Qac s) (l.take k)).now x1).2.a),aI ((doF (Qab (Qac s) (l.take k)).now x1).2.b),aI ((doF (Qab (Qac s) (l.take k)).now x1).2.n),aS ((doF (Qab (Qac s) (l.take k)).now x1).2.text),.sl 1 false ((doF (Qab (Qac s) (l.take k)).now x1).2.names.map txA)]]) (by simp only [W0a,W0b,W0f];omega) (by simp only [W0a,W0b,W0f];omega) fun V6=>
 .r 1<|.run 3 [rng .i64 ((k:Int)+1)] ⟨Qah,trivial⟩<|
 .bk L1 (k,V) ((k+1),V6) (show (k+1)≤l.length from (by show _≤_;omega)) (show l.length-(k+1)<l.length-k from (by omega)) [(10,aI ((k:Int)+1)),(9,.rw 9 V6 (((plR (Qac s).now (l.take k)).map repA).length+([[aI ((doF (Qab (Qac s) (l.take k)).now x1).2.e),aI ((doF (Qab (Qac s) (l.take k)).now x1).2.a),aI ((doF (Qab (Qac s) (l.take k)).now x1).2.b),aI ((doF (Qab (Qac s) (l.take k)).now x1).2.n),aS ((doF (Qab (Qac s) (l.take k)).now x1).2.text),.sl 1 false ((doF (Qab (Qac s) (l.take k)).now x1).2.names.map txA)]]:List (List AV)).length))] [(8,.box b2 31 [aI ((Qbb (Qab (Qac s) (l.take k)) x1).stamp),.sl 5 false ((Qbb (Qab (Qac s) (l.take k)) x1).was.l.map nodA),aI ((Qbb (Qab (Qac s) (l.take k)) x1).was.next),.sl 5 false ((Qbb (Qab (Qac s) (l.take k)) x1).now.l.map nodA),aI ((Qbb (Qab (Qac s) (l.take k)) x1).now.next),.sl 1 false ((Qbb (Qab (Qac s) (l.take k)) x1).looks.map intA)]),(9,.row V6 45 6 (((plR (Qac s).now (l.take k)).map repA)++([[aI ((doF (Qab (Qac s) (l.take k)).now x1).2.e),aI ((doF (Qab (Qac s) (l.take k)).now x1).2.a),aI ((doF (Qab (Qac s) (l.take k)).now x1).2.b),aI ((doF (Qab (Qac s) (l.take k)).now x1).2.n),aS ((doF (Qab (Qac s) (l.take k)).now x1).2.text),.sl 1 false ((doF (Qab (Qac s) (l.take k)).now x1).2.names.map txA)]])))] ⟨sR,sR,sR,sR,sR,sO,W2p (W1z (AV.rw 9 V6) (by rw [Qbp hx1];simp)),trivial⟩ ⟨sB,⟨_,rfl,W2q (by rw [Qci hx1])⟩,⟨_,rfl,W2q (by rw [Qbp hx1];simp [repA])⟩,trivial⟩)
 <| fun p4=>have hkl:l.take k=l:=Qat (by omega);.r 1<|let L2:Lp (Nat):=⟨fun a2=>⟨[(1,.sl 1 false (os.map Qpn)),(2,.sl 8 false (l.map calA)),(3,.ptr 3 b1 0),(7,aB true),(8,.ptr 8 b2 0),(9,.rw 9 V ((plR (Qac s).now (l.take k)).length)),(13,aI (a2:Int))],[(3,.box b1 25 [.sl 2 false ((Qb4 s (os.take a2)).l.map chnA),.sl 2 false ((Qb4 s (os.take a2)).nexts.map cntA),aI ((Qb4 s (os.take a2)).stamp)]),(8,.box b2 31 [aI ((Qab (Qac s) (l.take k)).stamp),.sl 5 false ((Qab (Qac s) (l.take k)).was.l.map nodA),aI ((Qab (Qac s) (l.take k)).was.next),.sl 5 false ((Qab (Qac s) (l.take k)).now.l.map nodA),aI ((Qab (Qac s) (l.take k)).now.next),.sl 1 false ((Qab (Qac s) (l.take k)).looks.map intA)]),(9,.row V 45 6 ((plR (Qac s).now (l.take k)).map repA))]⟩,fun a2=>os.length-a2,fun a2=>a2≤os.length∧RunK s (Qb4 s (os.take a2)) a2⟩
 .lp L2 0 ⟨W0j _,RunK.first oks hgd⟩ [(13,aI 0)] [(3,.box b1 25 (stoA s))] ⟨sR,sR,sR,sR,sR,sR,sO,trivial⟩ ⟨⟨_,rfl,W2q rfl⟩,sB,sB,trivial⟩ fun a2 ha2=>
 (fun (j:Nat) (hH2:j≤os.length∧RunK s (Qb4 s (os.take j)) j)=>have htr:=hH2.2.tree oks hgd (by omega);have hfj:=hH2.2.fit;have hmj:=hH2.2.mid hgd (by omega);have hfl:=hfj.l;.r 3<|.lm 57 os Qpn<|.r 1<|.bd 58 ((j:Int)<(os.length:Int)) (fun p5=>.r 2<|.idxM os Qpn j (m:=(j:Int)) rfl (by omega) fun x2 hx2=>
 .r 1<|.call (Qpw x2 (oko x2 (W0h hx2)).1 (oko x2 (W0h hx2)).2)<|
 .r 1<|.br 66 (!(dP (Qfw x2))) (fun q6=>have q6:=notT q6;have p6:=booF q6;.r 2<|.f (aB true) [] (aB true) (by exact W2p (W1z aB (by first | rfl | exact Qau.2 hidle | exact decide_eq_true (by omega) | exact beq_iff_eq.2 sf.2.2))))
 <| fun q6=>have q6:=notF q6;have p6:=booT q6;have hsx:=Qau.1 q6;have hx30:x2.length≤30:=hsx.2;have okx:∀ c∈x2,OkCal c:=fun c hc=>Qyo hsx hc ((oko x2 (W0h hx2)).2 c hc);have txx:∀ c∈x2,c.text.length≤500000:=fun c hc=>(by have:=(Qtl hsx hc).2.2;omega);.ord [0,1,2,3,4,5,6,7,8,9]<|.u 3 [b1]<|
 .idx j (m:=(j:Int)) (xs:=os.map Qpn) (e:=Qpn x2) rfl (map_some hx2)<|
 .r 1<|.call (Zd5 (Qb4 s (os.take j)) x2 hmj hH2.2.p htr.1 htr.2.1 hx30 okx txx htr.2.2.2)<|
 .u 4 [b1]<|
 .run 3 [rng .i64 ((j:Int)+1)] ⟨Qah,trivial⟩<|
 .bk L2 j (j+1) ⟨by omega,by rw [Qtt hx2];exact hH2.2.next oks hgd (by omega) hx30 okx⟩ (show os.length-(j+1)<os.length-j from (by omega)) [(13,aI ((j:Int)+1))] [(3,.box b1 25 [.sl 2 false ((runD (Qb4 s (os.take j)) x2).l.map chnA),.sl 2 false ((runD (Qb4 s (os.take j)) x2).nexts.map cntA),aI ((runD (Qb4 s (os.take j)) x2).stamp)])] ⟨sR,sR,sR,sR,sR,sR,sO,trivial⟩ ⟨⟨_,rfl,W2q (by rw [Qtt hx2])⟩,sB,sB,trivial⟩)
 <| fun p5=>.u 1 [b1]<|
 .call (Qp2 (Qb4 s (os.take j)) hfj.ok)<|
 .r 1<|.br 79 (!(dP (Qmq (Qb4 s (os.take j))))) (fun q7=>have q7:=notT q7;have p7:=booF q7;.r 2<|.f (aB true) [] (aB true) (by exact W2p (W1z aB (by first | rfl | exact Qau.2 hidle | exact decide_eq_true (by omega) | exact beq_iff_eq.2 sf.2.2))))
 <| fun q7=>have q7:=notF q7;have p7:=booT q7;have hgj:=Qau.1 q7;have hst2:=hgj.2.2.1;have hst1:=hfj.ok.1.1;have kf:=(Zcp hfj kt.ok (by rw [kt.was];exact T.rows) kt.now.tree.rows (by omega) (by omega)).1;.u 2 [b1,b2]<|
 .call (Qj1 (Qb4 s (os.take j)) (Qab (Qac s) (l.take k)) hmj kt.ok (by rw [kt.was];exact T.rows) kt.now.tree.rows)<|
 .r 3<|.new fun b13=>.u 2 [b13]<|
 .r 2<|.bn 88 ((Qa0 (Qb4 s (os.take j)) (Qab (Qac s) (l.take k))).2) 0 (fun p8=>have hbad:=Zov p8;have hsome:0<os.length:=Classical.byContradiction fun h0=>p8 (by have h9:=(Qos oks hgd hl30 ok _ rfl).2.2.2.1;rw [Zdz h0,hkl];exact h9);.u 4 [b13,b1]<|
 .call (Qp0 (Qa0 (Qb4 s (os.take j)) (Qab (Qac s) (l.take k))).1 (Qb4 s (os.take j)) kf.ok hfj.ok)<|
 .r 2<|.is 95 (show (dP ((Qa0 (Qb4 s (os.take j)) (Qab (Qac s) (l.take k))).1=(Qb4 s (os.take j))))=true from (Qau.2 hbad))<|.r 2<|.lm 97 os Qpn<|.r 3<|.f (aB true) [] (aB (decide ((os.length:Int)>0))) (by exact W2p (W1z aB (by first | rfl | exact Qau.2 hidle | exact decide_eq_true (by omega) | exact beq_iff_eq.2 sf.2.2))))
 <| fun p8=>have hcz:=p8;.u 1 [b2]<|
 .call (Qoo (Qab (Qac s) (l.take k)) kt.ok)<|
 .br 101 (dP ((Qab (Qac s) (l.take k)).was=(Qab (Qac s) (l.take k)).now)) (fun q9=>have p9:=booT q9;have hidle:(Qa0 (Qb4 s (os.take j)) (Qab (Qac s) (l.take k))).1=(Qb4 s (os.take j)):=(by rw [Qdf q9]);.u 4 [b13,b1]<|
 .call (Qp0 (Qa0 (Qb4 s (os.take j)) (Qab (Qac s) (l.take k))).1 (Qb4 s (os.take j)) kf.ok hfj.ok)<|
 .r 2<|.f (aB true) [] (aB (dP ((Qa0 (Qb4 s (os.take j)) (Qab (Qac s) (l.take k))).1=(Qb4 s (os.take j))))) (by exact W2p (W1z aB (by first | rfl | exact Qau.2 hidle | exact decide_eq_true (by omega) | exact beq_iff_eq.2 sf.2.2))))
 <| fun q9=>have p9:=booF q9;have sf:=Qtp oks hgd hH2.2 (by omega) hl30 ok (Qab (Qac s) (l.take k)) (by rw [hkl]) (Qad.1 q9) (Zk9 hcz (Qad.1 q9));have nr1:∀ r∈(plR (Qac s).now (l.take k)),r.names.length≤1000000:=fun r hr=>W1a (Qrk (Qhq oks).now T ok (by omega) r (by rw [hkl] at hr;exact hr)) (by decide);have nr2:∀ r∈(plR (Qa3 (Qb4 s (os.take j)) (Qb4 s (os.take j)).stamp) l),r.names.length≤1000000:=fun r hr=>W1a (Qrk (Qfg hfj.ok _) htr.1 ok (by have:=htr.2.2.2;omega) r hr) (by decide);have kpg0:=Qly (Qfg hfj.ok _) htr.1 (l:=l) (by omega) ok htr.2.2.2 l.length (W0m _);have kpg:KeptN (Qa3 (Qb4 s (os.take j)) (Qb4 s (os.take j)).stamp) (plF (Qa3 (Qb4 s (os.take j)) (Qb4 s (os.take j)).stamp) l) l.length:=(by rw [W13] at kpg0;exact kpg0);.u 3 [b1,b1]<|
 .call (Qiv (Qb4 s (os.take j)) (Qb4 s (os.take j)).stamp hfj.ok (by omega))<|
 .r 1<|.call (Zbg (Qa3 (Qb4 s (os.take j)) (Qb4 s (os.take j)).stamp) l (Qfg hfj.ok _) htr.1 hgj.2.2.2.1 hl30 ok htx htr.2.2.2)<|
 .r 3<|.new fun b14=>.u 2 [b14]<|
 .ord [0,1,2,3,4,5,6,7,8,9,11,10,12,13,14,15,16,17,18,19,20,21,22]<|.r 4<|.op (cbR prog 9) ((35,[.rw 9 V ((plR (Qac s).now (l.take k)).length),.sl 6 false ((plR (Qa3 (Qb4 s (os.take j)) (Qb4 s (os.take j)).stamp) l).map repA)],some 121),(V,45,6,(plR (Qac s).now (l.take k)).map repA)) (fun (_:Unit) σ=>σ.put (some 121) (aB (dP ((plR (Qac s).now (l.take k))=(plR (Qa3 (Qb4 s (os.take j)) (Qb4 s (os.take j)).stamp) l))))) (Qnq (args':=[.sl 6 false ((plR (Qac s).now (l.take k)).map repA),.sl 6 false ((plR (Qa3 (Qb4 s (os.take j)) (Qb4 s (os.take j)).stamp) l).map repA)]) ⟨Fz.row _ _ _ _ _ _ (by first | rfl | (simp;done) | (simp;omega)),Fz.refl _ _,trivial⟩ (Zlq (plR (Qac s).now (l.take k)) (plR (Qa3 (Qb4 s (os.take j)) (Qb4 s (os.take j)).stamp) l) (by rw [hpl];omega) (by rw [Qhc];omega) nr1 nr2) rfl) fun _=>
 .r 2<|.is 123 (show (dP ((plR (Qac s).now (l.take k))=(plR (Qa3 (Qb4 s (os.take j)) (Qb4 s (os.take j)).stamp) l)))=true from (Qau.2 (by rw [hkl];exact sf.1)))<|.u 4 [b13,b13,b14]<|
 .call (Qiv (Qa0 (Qb4 s (os.take j)) (Qab (Qac s) (l.take k))).1 (Qa0 (Qb4 s (os.take j)) (Qab (Qac s) (l.take k))).1.stamp kf.ok (by have:=kf.l;omega))<|
 .call (Qqh (Qa3 (Qa0 (Qb4 s (os.take j)) (Qab (Qac s) (l.take k))).1 (Qa0 (Qb4 s (os.take j)) (Qab (Qac s) (l.take k))).1.stamp) (plF (Qa3 (Qb4 s (os.take j)) (Qb4 s (os.take j)).stamp) l) (Qfg kf.ok _) kpg.ok)<|
 .r 2<|.is 131 (show (dP ((Qa3 (Qa0 (Qb4 s (os.take j)) (Qab (Qac s) (l.take k))).1 (Qa0 (Qb4 s (os.take j)) (Qab (Qac s) (l.take k))).1.stamp)=(plF (Qa3 (Qb4 s (os.take j)) (Qb4 s (os.take j)).stamp) l)))=true from (Qau.2 sf.2.1))<|.run 8 [b13=b13,b1=b1,rng .i64 (((Qb4 s (os.take j)).stamp)+1)] ⟨rfl,rfl,Qah,trivial⟩<|
 .f (aB true) [] (aB (((Qa0 (Qb4 s (os.take j)) (Qab (Qac s) (l.take k))).1.stamp)==(((Qb4 s (os.take j)).stamp)+1))) (by exact W2p (W1z aB (by first | rfl | exact Qau.2 hidle | exact decide_eq_true (by omega) | exact beq_iff_eq.2 sf.2.2)))) a2 ha2) a1.1 a1.2 ha1)
end Go.Proofs.YtahlldgocpabjaaGreat

namespace Copyhold
open Go Go.RowKit Go.ChangeShapes Go.WideShapes Go.ChangeAt Go.Deep
structure Opn {α:Type} (P:Program) (W:World) (t:TypeId) (en:α→List AV) (ok:α→Prop):Prop where
 run:∀ (H:Type) (enc:TypeId × Value→H) (fuel:Nat) (cs:List Value) (x:DataW H × List MemPlace),
  DataW.trod enc P W 0 (fun _=>true) true fuel t cs=some x→(∀ p∈x.2,p.block<W.heap.size)→(∀ n∈DataW.weights P t x.1,n≤140737488351232) →
  ∃ a,Qli (·<W.heap.size) W (en a) cs∧(∀ u∈cs,u.oneCell'=true)∧ok a
section
variable {P:Program} {W:World} {t:TypeId}
theorem Opn.map {α β:Type} {en:α→List AV} {ok:α→Prop} {en':β→List AV} {ok':β→Prop} (h:Opn P W t en ok) (f:α→β) (he:∀ a,en' (f a)=en a) (ho:∀ a,ok a→ok' (f a)):Opn P W t en' ok':=Opn.mk fun H enc fuel cs x h1 h2 h3=>by
 obtain ⟨a,g1,g2,g3⟩:=h.run H enc fuel cs x h1 h2 h3;exact ⟨f a,by rw [he];exact g1,g2,ho a g3⟩
theorem Qk9 {D:Nat→Prop} {w:World} {a:AV} {v:Value} (h:Ra D w a v):Qli D w [a] [v]:=⟨rfl,fun j x u hx hu=>by
 match j,hx,hu with
 | 0,hx,hu=>simp at hx hu;subst hx hu;exact h
 | j+1,hx,_=>simp at hx⟩
theorem wf_i64 {z:Int} (w:(Lit.int .i64 z).wf=true):-9223372036854775808≤z∧z≤9223372036854775807:=by
 simpa [Lit.wf,IntKind.min,IntKind.max,IntKind.signed,IntKind.bits] using w
theorem Qd5 (hu:P.underlying t=some (.int .i64)):Opn P W t (fun n:Int=>[aI n]) (fun n=>-9223372036854775808≤n∧n≤9223372036854775807):=Opn.mk fun H enc fuel cs x h1 h2 h3=>by
 obtain ⟨n,rfl,rfl,hw⟩:=DataW.trod_int hu h1;exact ⟨n,Qk9 (.val _),fun u hu=>by obtain rfl:=W0z.1 hu;rfl,wf_i64 hw⟩
theorem Zjs (hu:P.underlying t=some .bool):Opn P W t (fun n:Bool=>[aB n]) (fun _=>True):=Opn.mk fun H enc fuel cs x h1 h2 h3=>by
 obtain ⟨n,rfl,rfl⟩:=DataW.trod_bool hu h1;exact ⟨n,Qk9 (.val _),fun u hu=>by obtain rfl:=W0z.1 hu;rfl,trivial⟩
theorem Qgq (hu:P.underlying t=some .string):Opn P W t (fun n:List UInt8=>[aS n]) (fun n=>n.length≤140737488351232):=Opn.mk fun H enc fuel cs x h1 h2 h3=>by
 obtain ⟨s,rfl,rfl,_⟩:=DataW.trod_string hu h1;exact ⟨s.data.toList,Qk9 (.val _),fun u hu=>by obtain rfl:=W0z.1 hu;rfl,h3 _ (by simp [DataW.weights])⟩
theorem Qgr {α:Type} {en:α→List AV} {ok:α→Prop} {e:TypeId} {k:Nat} (h:Opn P W e en ok) (a0:α) (hu:P.underlying t=some (.slice e)) (hc:P.cellsOf e=k) (hk:0<k) (hb:16≤P.bytesOf e) :
  Opn P W t (fun l:List α=>[.sl k false (l.map en)]) (fun l=>l.length≤8796093022207∧∀ a∈l,ok a):=Opn.mk fun H enc fuel cs x h1 h2 h3=>by
 obtain ⟨v,rs,rfl,hr,hd⟩:=Qrm (k:=k) (R:=fun a cs=>Qli (·<W.heap.size) W (en a) cs∧(∀ u∈cs,u.oneCell'=true)∧ok a) hu hc hk a0 (fun n cs' y hy hl hcl hww=>h.run H enc n cs' y hy hl hww) h1 h2 h3;have hsz:=Zbh hu hd h3;have:=W1a (Nat.mul_le_mul_left rs.length hb) hsz;have hra:Ra (·<W.heap.size) W (.sl k false (rs.map en)) v:=Zbx hr (·<W.heap.size) (fun _ h=>h) (fun a _ cs _ hR=>⟨hR.2.1,hR.1⟩);obtain ⟨A,c,rfl⟩:=hr.shape;refine ⟨rs,Qk9 hra,fun u hu=>by obtain rfl:=W0z.1 hu;rfl,by omega,fun a ha=>?_⟩;obtain ⟨css,g1,g2,g3⟩:=hr;obtain ⟨i,hi,rfl⟩:=List.mem_iff_getElem.1 ha;exact (g3 i _ _ (W0d (by omega)) (W0d hi)).2.2.2
structure OpnFs {γ:Type} (P:Program) (W:World) (N:Nat) (fs:List Field) (off:Nat) (en:γ→List AV) (ok:γ→Prop):Prop where
 run:∀ (H:Type) (enc:TypeId × Value→H) (m:Nat) (cs:List Value) (xs:List (DataW H × List MemPlace)),cs.length=N→xs.length=fs.length →
  (∀ (i:Nat) (f:Field),fs[i]?=some f→DataW.trod enc P W 0 (fun _=>true) true m f.type ((cs.drop f.offset).take (P.cellsOf f.type))=xs[i]?) →
  (∀ x∈xs,∀ p∈x.2,p.block<W.heap.size)→(∀ n∈DataW.weightsEach P (fs.map (·.type)) (xs.map (·.1)),n≤140737488351232) →
  ∃ g,Qli (·<W.heap.size) W (en g) (cs.drop off)∧(∀ u∈cs.drop off,u.oneCell'=true)∧ok g
theorem Qhf (N:Nat):OpnFs P W N [] N (fun _:Unit=>[]) (fun _=>True):=OpnFs.mk fun H enc m cs xs h1 h2 h3 h4 h5=>by
 have:cs.drop N=[]:=List.drop_eq_nil_of_le (by omega);rw [this];exact ⟨(),⟨rfl,fun j a u ha=>by simp at ha⟩,fun u hu=>by simp at hu,trivial⟩
theorem Qvg {D:Nat→Prop} {w:World} {xs ys:List AV} {cs ds:List Value} (h:Qli D w xs cs) (k:Qli D w ys ds):Qli D w (xs++ys) (cs++ds):=by
 refine ⟨by simp [h.1,k.1],fun j a u ha hu=>?_⟩;by_cases hj:j<xs.length
 ·rw [W0o hj] at ha;rw [W0o (by rw [h.1];exact hj)] at hu;exact h.2 j a u ha hu
 ·rw [W0n (by omega)] at ha;rw [W0n (by rw [h.1];omega),h.1] at hu;exact k.2 _ a u ha hu
theorem Qbq {α γ:Type} {N off k:Nat} {f:Field} {fs:List Field} {en:α→List AV} {ok:α→Prop} {en2:γ→List AV} {ok2:γ→Prop} (h:Opn P W f.type en ok) (ho:f.offset=off) (hk:P.cellsOf f.type=k)
  (hr:OpnFs P W N fs (off+k) en2 ok2):OpnFs P W N (f :: fs) off (fun g:α × γ=>en g.1++en2 g.2) (fun g=>ok g.1∧ok2 g.2):=OpnFs.mk fun H enc m cs xs h1 h2 h3 h4 h5=>by
 obtain ⟨x0,xr,rfl⟩:∃ a r,xs=a :: r:=by
  cases xs with
  | nil=>simp at h2
  | cons a r=>exact ⟨a,r,rfl⟩
 have g0:=h3 0 f rfl;rw [ho,hk] at g0;simp only [W1u,DataW.weightsEach] at h5;obtain ⟨a,ha,ha2,ha3⟩:=h.run H enc m _ x0 (by simpa using g0) (h4 x0 (by simp)) (fun n hn=>h5 n (by simp [hn]));obtain ⟨g,hg,hg2,hg3⟩:=hr.run H enc m cs xr h1 (by simpa using h2) (fun i f' hf=>by have:=h3 (i+1) f' (by simpa using hf);simpa using this) (fun x hx=>h4 x (by simp [hx])) (fun n hn=>h5 n (by simp [hn]));have e:cs.drop off=(cs.drop off).take k++cs.drop (off+k):=by
  rw [← List.drop_drop,W1h]
 refine ⟨(a,g),?_,?_,ha3,hg3⟩
 ·rw [e];exact Qvg ha hg
 ·intro u hu;rw [e] at hu;rcases W05.1 hu with h | h
  ·exact ha2 u h
  ·exact hg2 u h
theorem Qeq {γ:Type} {N:Nat} {fs:Array Field} {en:γ→List AV} {ok:γ→Prop} (hu:P.underlying t=some (.struct fs)) (hc:P.cellsOf t=N) (h:OpnFs P W N fs.toList 0 en ok):Opn P W t en ok:=Opn.mk fun H enc fuel cs x h1 h2 h3=>by
 obtain ⟨xs,m,_,rfl,hl,hlen,hfl⟩:=DataW.trod_struct hu h1;obtain ⟨g,g1,g2,g3⟩:=h.run H enc m cs xs (by rw [hl,hc]) (by simpa using hlen) (fun i f hf=>hfl i f (by simpa using hf)) (fun x hx p hp=>h2 p (by simp only [List.mem_flatMap];exact ⟨x,hx,hp⟩))
  (fun n hn=>h3 n (by simp only [DataW.weights,hu];exact hn))
 exact ⟨g,by simpa using g1,by simpa using g2,g3⟩
theorem Zc1 {α:Type} {en:α→List AV} {ok:α→Prop} {fs:Array Field} {H:Type} {enc:TypeId × Value→H} {base:Nat} {v:Value} {d:DataW H} {p:List MemPlace} (h:Opn P W t en ok) (hu:P.underlying t=some (.struct fs)) (hv:Value.okWide P W .any base t v)
  (ht:∃ fuel,DataW.trod enc P W 0 (fun _=>true) true fuel t v.cells.toList=some (d,p)) (hlt:∀ x∈p,x.block<W.heap.size) (hw:∀ n∈DataW.weights P t d,n≤140737488351232):∃ a,Ra (·<W.heap.size) W (.agg (en a)) v∧ok a:=by
 obtain ⟨cs,rfl,_⟩:=okWide_struct hu hv;obtain ⟨fuel,ht⟩:=ht;obtain ⟨a,g1,g2,g3⟩:=h.run H enc fuel _ _ ht hlt hw;refine ⟨a,.agg _ _ (by have:=g1.1;simp [Value.cells] at this;omega) (fun j u hj=>g2 u (by have:=W2b hj;simpa [Value.cells] using this)) (fun j x u hx hj=>g1.2 j x u hx (by simpa [Value.cells] using hj)),g3⟩
theorem Qvs {α:Type} {x:α→AV} {ok:α→Prop} {e:TypeId} {H:Type} {enc:TypeId × Value→H} {base:Nat} {v:Value} {d:DataW H} {p:List MemPlace} (h:Opn P W t (fun a=>[x a]) ok) (hu:P.underlying t=some (.slice e)) (hv:Value.okWide P W .any base t v)
  (ht:∃ fuel,DataW.trod enc P W 0 (fun _=>true) true fuel t v.cells.toList=some (d,p)) (hlt:∀ x∈p,x.block<W.heap.size) (hw:∀ n∈DataW.weights P t d,n≤140737488351232):∃ a,Ra (·<W.heap.size) W (x a) v∧ok a:=by
 obtain ⟨A,l,c,rfl⟩:=okWide_slice hu hv;obtain ⟨fuel,ht⟩:=ht;obtain ⟨a,g1,g2,g3⟩:=h.run H enc fuel _ _ ht hlt hw;exact ⟨a,g1.2 0 _ _ rfl rfl,g3⟩
def RaL (D:Nat→Prop) (w:World):List AV→List Value→Prop
 | [],[]=>True
 | x :: xs,v :: vs=>Ra D w x v∧RaL D w xs vs
 | _,_=>False
theorem Zly {D:Nat→Prop} {w:World}:∀ (xs:List AV) (vs:List Value),RaL D w xs vs→Qdj D w xs vs.toArray
 | [],[],_=>⟨rfl,fun j a u ha=>by simp at ha⟩
 | x :: xs,v :: vs,h=>by
  have ih:=Zly xs vs h.2;refine ⟨by have:=ih.1;simp at this ⊢;exact this,fun j a u ha hu=>?_⟩;cases j with
  | zero=>simp at ha hu;subst ha hu;exact h.1
  | succ j=>exact ih.2 j a u (by simpa using ha) (by simpa using hu)
 | [],_ :: _,h=>h.elim
 | _ :: _,[],h=>h.elim
theorem Zca {f:FuncId} {args:List AV} {vs:Array Value} {w:World} (h:Qai P f args (aB true)) (hv:Qdj (·<w.heap.size) w args vs) :
  Calls P f vs w (fun e w'=>e=.returned (.bool true)∧Below w.heap.size w w'):=by
 refine (h _ w vs (fun _ h=>h) hv).mono ?_;rintro e w' ⟨v,D',rfl,hb,_,_,hr⟩;cases hr;exact ⟨rfl,hb⟩
end
end Copyhold

namespace Go.Proofs.YtahlldgocpabjaaGreat
open Go Go.RowKit Copyhold Go.Proofs.Tryz
theorem Znv (W:World):Opn prog W 128 entA OkE:=
 (Qeq (N:=2) Tryz.underlying128 (by kernel_rfl) (Qbq (k:=1) (Qgq Tryz.underlying9) rfl (by kernel_rfl) (Qbq (k:=1) (Qd5 Tryz.underlying3) rfl (by kernel_rfl) (Qhf 2)))).map (fun g=>⟨g.1,g.2.1⟩) (fun _=>rfl) (fun a h=>⟨h.1,h.2.1⟩)
theorem Zjp (W:World):Opn prog W 82 (fun l:List (Ent)=>[.sl 2 false (l.map entA)]) (fun l=>l.length≤8796093022207∧∀ a∈l,OkE a):=Qgr (Znv W) (⟨[],0⟩) Tryz.underlying82 (by kernel_rfl) (by decide) (W06 (by kernel_rfl))
theorem Znu (W:World):Opn prog W 84 nodA OkN:=
 (Qeq (N:=5) Tryz.underlying84 (by kernel_rfl) (Qbq (k:=1) (Qd5 Tryz.underlying3) rfl (by kernel_rfl) (Qbq (k:=1) (Qd5 Tryz.underlying3) rfl (by kernel_rfl) (Qbq (k:=1) (Qd5 Tryz.underlying3) rfl (by kernel_rfl) (Qbq (k:=1) (Qgq Tryz.underlying9) rfl (by kernel_rfl) (Qbq (k:=1) (Zjp W) rfl (by kernel_rfl) (Qhf 5))))))).map (fun g=>⟨g.1,g.2.1,g.2.2.1,g.2.2.2.1,g.2.2.2.2.1⟩) (fun _=>rfl) (fun a h=>⟨h.1,h.2.1,h.2.2.1,h.2.2.2.1,h.2.2.2.2.1.1,h.2.2.2.2.1.2⟩)
end Go.Proofs.YtahlldgocpabjaaGreat

namespace Go.Proofs.YtahlldgocpabjaaGreat
open Go Go.RowKit Copyhold Go.Proofs.Tryz
theorem Zns (W:World):Opn prog W 100 verA OkV:=
 (Qeq (N:=7) Tryz.underlying100 (by kernel_rfl) (Qbq (k:=1) (Qd5 Tryz.underlying3) rfl (by kernel_rfl) (Qbq (k:=1) (Zjs Tryz.underlying4) rfl (by kernel_rfl) (Qbq (k:=5) (Znu W) rfl (by kernel_rfl) (Qhf 7))))).map (fun g=>⟨g.1,g.2.1,g.2.2.1⟩) (fun _=>rfl) (fun a h=>⟨h.1,h.2.2.1⟩)
theorem Zjo (W:World):Opn prog W 96 (fun l:List (Ver)=>[.sl 7 false (l.map verA)]) (fun l=>l.length≤8796093022207∧∀ a∈l,OkV a):=Qgr (Zns W) (⟨0,false,⟨0,0,0,[],[]⟩⟩) Tryz.underlying96 (by kernel_rfl) (by decide) (W06 (by kernel_rfl))
theorem Znx (W:World):Opn prog W 98 chnA OkC:=
 (Qeq (N:=2) Tryz.underlying98 (by kernel_rfl) (Qbq (k:=1) (Qd5 Tryz.underlying3) rfl (by kernel_rfl) (Qbq (k:=1) (Zjo W) rfl (by kernel_rfl) (Qhf 2)))).map (fun g=>⟨g.1,g.2.1⟩) (fun _=>rfl) (fun a h=>⟨h.1,h.2.1.1,h.2.1.2⟩)
theorem Zjr (W:World):Opn prog W 22 (fun l:List (Chn)=>[.sl 2 false (l.map chnA)]) (fun l=>l.length≤8796093022207∧∀ a∈l,OkC a):=Qgr (Znx W) (⟨0,[]⟩) Tryz.underlying22 (by kernel_rfl) (by decide) (W06 (by kernel_rfl))
theorem Znw (W:World):Opn prog W 95 cntA OkK:=
 (Qeq (N:=2) Tryz.underlying95 (by kernel_rfl) (Qbq (k:=1) (Qd5 Tryz.underlying3) rfl (by kernel_rfl) (Qbq (k:=1) (Qd5 Tryz.underlying3) rfl (by kernel_rfl) (Qhf 2)))).map (fun g=>⟨g.1,g.2.1⟩) (fun _=>rfl) (fun a h=>⟨h.1,h.2.1⟩)
theorem Zjq (W:World):Opn prog W 23 (fun l:List (Cnt)=>[.sl 2 false (l.map cntA)]) (fun l=>l.length≤8796093022207∧∀ a∈l,OkK a):=Qgr (Znw W) (⟨0,0⟩) Tryz.underlying23 (by kernel_rfl) (by decide) (W06 (by kernel_rfl))
theorem Znt (W:World):Opn prog W 25 stoA OkS:=
 (Qeq (N:=3) Tryz.underlying25 (by kernel_rfl) (Qbq (k:=1) (Zjr W) rfl (by kernel_rfl) (Qbq (k:=1) (Zjq W) rfl (by kernel_rfl) (Qbq (k:=1) (Qd5 Tryz.underlying3) rfl (by kernel_rfl) (Qhf 3))))).map (fun g=>⟨g.1,g.2.1,g.2.2.1⟩) (fun _=>rfl) (fun a h=>⟨h.2.2.1,h.1.1,h.2.1.1,h.1.2,h.2.1.2⟩)
theorem Zny (W:World):Opn prog W 33 calA OkC0:=
 (Qeq (N:=8) Tryz.underlying33 (by kernel_rfl) (Qbq (k:=1) (Qd5 Tryz.underlying3) rfl (by kernel_rfl) (Qbq (k:=1) (Qd5 Tryz.underlying3) rfl (by kernel_rfl) (Qbq (k:=1) (Qd5 Tryz.underlying3) rfl (by kernel_rfl) (Qbq (k:=1) (Qd5 Tryz.underlying3) rfl (by kernel_rfl) (Qbq (k:=1) (Qd5 Tryz.underlying3) rfl (by kernel_rfl) (Qbq (k:=1) (Qgq Tryz.underlying9) rfl (by kernel_rfl) (Qbq (k:=1) (Qgq Tryz.underlying9) rfl (by kernel_rfl) (Qbq (k:=1) (Qgq Tryz.underlying9) rfl (by kernel_rfl) (Qhf 8)))))))))).map (fun g=>⟨g.1,g.2.1,g.2.2.1,g.2.2.2.1,g.2.2.2.2.1,g.2.2.2.2.2.1,g.2.2.2.2.2.2.1,g.2.2.2.2.2.2.2.1⟩) (fun _=>rfl) (fun a h=>⟨h.1,h.2.1,h.2.2.1,h.2.2.2.1,h.2.2.2.2.1,h.2.2.2.2.2.1,h.2.2.2.2.2.2.1,h.2.2.2.2.2.2.2.1⟩)
theorem Qy6 (W:World):Opn prog W 39 (fun l:List (Cal)=>[.sl 8 false (l.map calA)]) (fun l=>l.length≤8796093022207∧∀ a∈l,OkC0 a):=Qgr (Zny W) (⟨0,0,0,0,0,[],[],[]⟩) Tryz.underlying39 (by kernel_rfl) (by decide) (W06 (by kernel_rfl))
theorem Zfa (W:World):Opn prog W 66 (fun l:List (List Cal)=>[.sl 1 false (l.map Qpn)]) (fun l=>l.length≤8796093022207∧∀ a∈l,(fun x:List Cal=>x.length≤8796093022207∧∀ c∈x,OkC0 c) a):=Qgr (Qy6 W) ([]) Tryz.underlying66 (by kernel_rfl) (by decide) (W06 (by kernel_rfl))
end Go.Proofs.YtahlldgocpabjaaGreat
