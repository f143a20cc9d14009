import Derived.Test.YtahlldgocpabjaaGreatAl
import Derived.Test.YtahlldgocpabjaaGreatMrgAF
import Derived.Test.YtahlldgocpabjaaGreatMrgAD
import Derived.Test.YtahlldgocpabjaaGreatMrgM
import Derived.Scope
import Derived.Test.YtahlldgocpabjaaGreatMrgAB
import Derived.Test.YtahlldgocpabjaaGreatMrgW
import Derived.Test.YtahlldgocpabjaaGreatMrgAE
import Derived.Test.YtahlldgocpabjaaGreatMrgZ
set_option maxRecDepth 100000
set_option maxHeartbeats 8000000
set_option linter.unusedVariables false
set_option linter.unusedSimpArgs false
namespace Go.Proofs.YtahlldgocpabjaaGreat
open Go Go.RowKit Copyhold Go.Proofs.Tryz
theorem Zg2 (a b:List Nod) (ha:a.length≤8796093022207) (hb:b.length≤8796093022207) (oka:∀ v∈a,OkN v) (okb:∀ v∈b,OkN v):Qai prog 99 [.sl 5 false (a.map nodA),.sl 5 false (b.map nodA),.val (.func (.func 100) #[] #[])] (aB (dP (a=b))):=by
 exact Qae func99 (let R:AV:=aB (dP (a=b));
 .r 1<|.r 2<|.lm 11 a nodA<|.r 2<|.lm 13 b nodA<|.r 1<|.br 14 ((a.length:Int) != (b.length:Int)) (fun q1=>have p1:=bneT q1;.r 1<|.f (aB (dP (a=b))) [] (aB false) (by exact sF (fun h=>by have:=W1z List.length h;omega)))
 <| fun q1=>have p1:=bneF q1;.r 2<|.lm 16 a nodA<|.r 1<|let L1:Lp (Nat):=⟨fun a1=>⟨[(1,.sl 5 false (b.map nodA)),(2,.val (.func (.func 100) #[] #[])),(15,.sl 5 false (a.map nodA)),(16,aI (a.length:Int)),(17,aI (a1:Int))],[]⟩,fun a1=>a.length-a1,fun a1=>a1≤a.length∧a.take a1=b.take a1⟩
 .lp L1 0 ⟨W0j _,rfl⟩ [(17,aI 0)] [] ⟨sR,sR,sR,sR,sO,trivial⟩ trivial fun a1 ha1=>
 (fun (k:Nat) (hH1:k≤a.length∧a.take k=b.take k)=>.r 1<|.br 18 (decide ((k:Int)<(a.length:Int))) (fun q2=>have p2:=decT q2;.r 1<|.idxM a nodA k (m:=(k:Int)) rfl (by omega) fun x1 hx1=>
 have okx1:=oka x1 (W0h hx1);.r 1<|.new fun b1=>.u 2 [b1]<|
 .r 2<|.idxM b nodA k (m:=(k:Int)) rfl (by omega) fun x2 hx2=>
 have okx2:=okb x2 (W0h hx2);.r 1<|.new fun b2=>.u 1 [b2]<|
 .u 3 [b1,b2]<|
 .call (Qp8 x1 x2 okx1 okx2)<|
 .r 1<|.br 30 (!(dP (x1=x2))) (fun q3=>have q3:=notT q3;have p3:=booF q3;.r 1<|.f R [] (aB false) (by
  refine sF (fun h=>?_);rw [h,hx2] at hx1;obtain rfl:=W0c hx1;simp_all [Qau,Qad]))
 <| fun q3=>have q3:=notF q3;have p3:=booT q3;.run 2 [rng .i64 ((k:Int)+1)] ⟨Qah,trivial⟩<|
 .bk L1 k (k+1) ⟨by omega,by rw [Qam hx1,Qam hx2,hH1.2];first | (congr 2;done) | (congr 2;exact Qau.1 (by assumption))⟩ (show a.length-(k+1)<a.length-k from (by omega)) [(17,aI ((k:Int)+1))] [] ⟨sR,sR,sR,sR,sO,trivial⟩ trivial)
 <| fun q2=>have p2:=decF q2;.r 1<|.f R [] (aB true) (by
  refine sT ?_;have h:=hH1.2;rw [Qat (by omega),Qat (by omega)] at h;exact h)) a1 ha1)
theorem Zay (f g:Fsy) (okf:OkF f) (okg:OkF g):Qai prog 55 [.agg (fsyA f),.agg (fsyA g)] (aB (dP (f=g))):=by
 exact Qae func55 (let R:AV:=aB (dP (f=g));
 .new fun b1=>.new fun b2=>.r 1<|.u 6 [b1,b2]<|
 .be 10 f.next g.next (fun p1=>.u 4 [b1,b2]<|
 .call (Zg2 f.l g.l okf.2.1 okg.2.1 okf.2.2 okg.2.2)<|
 .r 2<|.f R [] (aB (dP (f.l=g.l))) (by
  refine sE ?_;constructor
  ·intro h;simp only [W0r,beq_iff_eq,Qau] at *;refine Zmf ?_ ?_<;>simp_all
  ·intro h;subst h;simp_all [Qau]))
 <| fun p1=>.r 7<|.f R [] (aB false) (by
  refine sF (fun h=>?_);subst h;simp_all [Qad]))
structure OkT (t:Txn):Prop where
 stamp:I64 t.stamp
 was:OkF t.was
 now:OkF t.now
 len:t.looks.length≤140737488351232
theorem Qoo (t:Txn) (okt:OkT t):Qai prog 28 [.agg (txnA t)] (aB (dP (t.was=t.now))):=by
 exact Qae func28 (let R:AV:=aB (dP (t.was=t.now));
 .new fun b1=>.r 1<|.u 4 [b1,b1]<|
 .call (Zay t.was t.now okt.was okt.now)<|
 .r 1<|.fi R [])
def Qac (s:Sto):Txn:=⟨s.stamp,Qa3 s s.stamp,Qa3 s s.stamp,[]⟩
theorem Qeu (s:Sto) (oks:OkS s) (hf:s.l.length≤100000):Qai prog 22 [.agg (stoA s)] (.agg (txnA (Qac s))):=by
 exact Qae func22 (let R:AV:=.agg (txnA (Qac s));
 .new fun b1=>.new fun b2=>.ord [0,1,2,3,4,6,7,8,5,9,10,11]<|.u 8 [b1,b1,b1,b1,b1]<|
 .call (Qtb s s.stamp oks hf)<|
 .call (Qtb s s.stamp oks hf)<|
 .u 2 [b2]<|
 .f R [b2] (.agg [aI s.stamp,.sl 5 false ((Qa3 s s.stamp).l.map nodA),aI ((Qa3 s s.stamp).next),.sl 5 false ((Qa3 s s.stamp).l.map nodA),aI ((Qa3 s s.stamp).next),aN]) (by exact W2t ⟨sR,sR,sR,sR,sR,Sub.nil _ _,trivial⟩))
theorem Qwz (s:Sto) (oks:OkS s) (hf:s.l.length≤100000):Qai prog 23 [.agg (stoA s)] (.agg (txnA (Qac s))):=by
 exact Qae func23 (let R:AV:=.agg (txnA (Qac s));
 .new fun b1=>.new fun b2=>.u 3 [b1,b1]<|
 .call (Qiv s s.stamp oks hf)<|
 .new fun b3=>.u 1 [b3]<|
 .u 6 [b1,b3,b3,b2]<|
 .f R [b2] (.agg [aI s.stamp,.sl 5 false ((Qa3 s s.stamp).l.map nodA),aI ((Qa3 s s.stamp).next),.sl 5 false ((Qa3 s s.stamp).l.map nodA),aI ((Qa3 s s.stamp).next),aN]) (by exact W2t ⟨sR,sR,sR,sR,sR,Sub.nil _ _,trivial⟩))
theorem Zn2 {f:Fsy} (hf:fewF f):midF f:=by
 have:=hf.1;unfold midF;omega
def Qmq (s:Sto):Prop:=few s∧Qb7 s∧s.stamp<1152921504606846976∧fewF (Qa3 s s.stamp)∧Qmf (Qa3 s s.stamp)∧(Qa3 s s.stamp).next<1152921504606846976
def Qeg (s:Sto) (t:Txn):Prop:=∃ x∈Qbu s t.stamp,x∈t.looks
theorem Qtm (s:Sto) (st:Int):(Qbu s st).length≤s.l.length+1:=Ziy s st
theorem Qp2 (s:Sto) (oks:OkS s):Qai prog 16 [.agg (stoA s)] (aB (dP (Qmq s))):=by
 exact Qae func16 (let R:AV:=aB (dP (Qmq s));
 .new fun b1=>.r 1<|.u 1 [b1]<|
 .call (Zg1 s oks)<|
 .r 2<|.br 7 (!(dP (few s))) (fun q1=>have q1:=notT q1;have p1:=booF q1;.r 9<|.r 1<|.f R [] (aB false) (by
  refine sF (fun h=>?_);obtain ⟨h1,h2,h3,h4,h5,h6⟩:=h
  first | omega | (simp_all [Qad];done) | (simp_all [Qad];omega)))
 <| fun q1=>have q1:=notF q1;have p1:=booT q1;.u 1 [b1]<|
 .call (Qwk s oks)<|
 .r 3<|.br 12 (!(dP (Qb7 s))) (fun q2=>have q2:=notT q2;have p2:=booF q2;.r 4<|.r 1<|.f R [] (aB false) (by
  refine sF (fun h=>?_);obtain ⟨h1,h2,h3,h4,h5,h6⟩:=h
  first | omega | (simp_all [Qad];done) | (simp_all [Qad];omega)))
 <| fun q2=>have q2:=notF q2;have p2:=booT q2;.u 4 [b1]<|
 .br 16 (decide (s.stamp≥1152921504606846976)) (fun q3=>have p3:=decT q3;.r 1<|.f R [] (aB false) (by
  refine sF (fun h=>?_);obtain ⟨h1,h2,h3,h4,h5,h6⟩:=h
  first | omega | (simp_all [Qad];done) | (simp_all [Qad];omega)))
 <| fun q3=>have p3:=decF q3;.u 3 [b1,b1]<|
 .call (Qiv s s.stamp oks (by have:=Qz1 (Qau.1 q1);omega))<|
 .new fun b2=>.u 1 [b2]<|
 .u 1 [b2]<|
 .call (Zkm (Qa3 s s.stamp) (Qfg oks _))<|
 .r 1<|.br 23 (dP (fewF (Qa3 s s.stamp))) (fun q4=>have p4:=booT q4;.u 1 [b2]<|
 .call (Qws (Qa3 s s.stamp) (Qfg oks _) (Zn2 (Qau.1 q4)))<|
 .r 2<|.br 27 (dP (Qmf (Qa3 s s.stamp))) (fun q5=>have p5:=booT q5;.u 5 [b2]<|
 .f R [] (aB (decide (((Qa3 s s.stamp).next)<1152921504606846976))) (by
  refine sE ?_;unfold Qmq;simp only [Qau,W2o] at *;constructor
  ·intro h;exact ⟨by assumption,by assumption,by omega,by assumption,by assumption,h⟩
  ·intro h;exact h.2.2.2.2.2))
 <| fun q5=>have p5:=booF q5;.r 5<|.f R [] (aB false) (by
  refine sF (fun h=>?_);obtain ⟨h1,h2,h3,h4,h5,h6⟩:=h
  first | omega | (simp_all [Qad];done) | (simp_all [Qad];omega)))
 <| fun q4=>have p4:=booF q4;.r 9<|.f R [] (aB false) (by
  refine sF (fun h=>?_);obtain ⟨h1,h2,h3,h4,h5,h6⟩:=h
  first | omega | (simp_all [Qad];done) | (simp_all [Qad];omega)))
theorem Qwx (s:Sto) (t:Txn) (oks:OkS s) (hf:s.l.length≤100000) (okt:OkT t):Qai prog 37 [.agg (stoA s),.agg (txnA t)] (aB (dP (Qeg s t))):=by
 have hbl:=okt.len;have hsl:=Qtm s t.stamp;exact Qae func37 (let R:AV:=aB (dP (Qeg s t));
 .new fun b1=>.new fun b2=>.r 1<|.u 3 [b1,b2]<|
 .call (Qwj s t.stamp oks hf)<|
 .r 1<|.r 1<|let L1:Lp (Nat):=⟨fun a1=>⟨[(3,.ptr 3 b2 0),(5,.sl 1 false ((Qbu s t.stamp).map intA)),(6,aI (a1:Int))],[(3,.box b2 31 (txnA t))]⟩,fun a1=>(Qbu s t.stamp).length-a1,fun a1=>a1≤(Qbu s t.stamp).length∧Qba (fun _ x=>¬ x∈t.looks) (Qbu s t.stamp) a1⟩
 .lp L1 0 ⟨W0j _,Qba.zero _ _⟩ [(6,aI 0)] [] ⟨sR,sR,sO,trivial⟩ bb1 fun a1 ha1=>
 (fun (k:Nat) (hH1:k≤(Qbu s t.stamp).length∧Qba (fun _ x=>¬ x∈t.looks) (Qbu s t.stamp) k)=>.r 3<|.lm 14 (Qbu s t.stamp) intA<|.r 1<|.bd 15 ((k:Int)<((Qbu s t.stamp).length:Int)) (fun p1=>.r 1<|.ex (Qdt (l:=(Qbu s t.stamp)) (k:=k) (by omega)) fun x1 hx1=>
 let L2:Lp (Nat):=⟨fun a2=>⟨[(3,.ptr 3 b2 0),(5,.sl 1 false ((Qbu s t.stamp).map intA)),(6,aI (k:Int)),(7,aI (a2:Int))],[(3,.box b2 31 (txnA t))]⟩,fun a2=>t.looks.length-a2,fun a2=>a2≤t.looks.length∧Qba (fun _ y=>¬ x1=y) t.looks a2⟩
 .lp L2 0 ⟨W0j _,Qba.zero _ _⟩ [(7,aI 0)] [] ⟨sR,sR,sR,sO,trivial⟩ bb1 fun a2 ha2=>
 (fun (j:Nat) (hH2:j≤t.looks.length∧Qba (fun _ y=>¬ x1=y) t.looks j)=>.u 4 [b2]<|
 .lm 21 t.looks intA<|.r 1<|.bd 22 ((j:Int)<(t.looks.length:Int)) (fun p2=>.ord [0,1,2,3,4,5,6,7,8,9]<|.r 2<|.idx k (m:=(k:Int)) (xs:=(Qbu s t.stamp).map intA) (e:=intA x1) rfl (map_some hx1)<|
 .u 4 [b2]<|
 .idxM t.looks intA j (m:=(j:Int)) rfl (by omega) fun x2 hx2=>
 .r 2<|.be 34 x1 x2 (fun p3=>.r 1<|.f (aB (dP (Qeg s t))) [] (aB true) (by
  refine sT ?_;refine ⟨x1,W0h hx1,?_⟩;have e:x1=x2:=by simp_all
  rw [e];exact W0h hx2))
 <| fun p3=>.run 3 [rng .i64 ((j:Int)+1)] ⟨Qah,trivial⟩<|
 .bk L2 j (j+1) ⟨by omega,hH2.2.step hx2 (by simp_all;try omega)⟩ (show t.looks.length-(j+1)<t.looks.length-j from (by omega)) [(7,aI ((j:Int)+1))] [] ⟨sR,sR,sR,sO,trivial⟩ bb1)
 <| fun p2=>.run 3 [rng .i64 ((k:Int)+1)] ⟨Qah,trivial⟩<|
 .bk L1 k (k+1) ⟨by omega,hH1.2.step hx1 (fun hm=>by obtain ⟨i,hi⟩:=W0w hm;exact (hH2.2.full (by omega)) i _ hi rfl)⟩ (show (Qbu s t.stamp).length-(k+1)<(Qbu s t.stamp).length-k from (by omega)) [(6,aI ((k:Int)+1))] [] ⟨sR,sR,sO,trivial⟩ bb1) a2 ha2)
 <| fun p1=>.r 1<|.f R [] (aB false) (by
  refine sF (fun h=>?_);obtain ⟨x,h1,h2⟩:=h;obtain ⟨i,hi⟩:=W0w h1;exact (hH1.2.full (by omega)) i x hi h2)) a1 ha1)
end Go.Proofs.YtahlldgocpabjaaGreat

namespace Go.Proofs.YtahlldgocpabjaaGreat
open Go Go.RowKit Go.Shelf Copyhold
attribute [local go_sem] Oper.semAt_some
theorem Quo {D:Nat→Prop} {W:World} {t:Bool} {L:List Int} {A:Option Addr} {c:Nat} (h:Ra D W (.sl 1 t (L.map intA)) (.slice A L.length c)) {k:Nat} (hk:k<L.length) :
  ∃ b off,A=some ⟨b,off,none⟩∧b<W.heap.size∧D b∧W.cell? ⟨b,off+k,none⟩=some (.int .i64 L[k]):=by
 generalize hv:Value.slice A L.length c=v at h;cases h with
 | sl _ _ _ A' c' b off vs h1 h2 h3 h4 h5 h6=>
  injection hv with e1 e2 e3
  subst e1;obtain ⟨a1,a2,a3⟩:=h3 (by rw [W0a];omega);have hx:(L.map intA)[k]?=some (intA L[k]):=by rw [W0v,W0d hk];rfl
  have q:=h5 k _ 0 (aI L[k]) hx rfl;have r:=h6 k _ 0 (aI L[k]) hx rfl;have e:vs k 0=.int .i64 L[k]:=by generalize vs k 0=u at r;cases r;rfl
  refine ⟨b,off,a1,a3,a2,?_⟩;rw [e,Nat.mul_one,Nat.add_zero] at q;exact q.1
theorem Zn4 (n:Nat) (hn:1≤n) (l Bs n₀ c:Nat) (A:Option Addr) (L:List Int) (hlen:L.length≤140737488351232) (D:Nat→Prop) (J Jx:List Int→World→Prop)
  (hY:∀ pre x W,J pre W→pre.length<L.length→YieldAt Fence.wide (n-1) Tryz.prog l #[.int .i64 x] W fun e W'=>
   (e=.returned (.bool true)∧J (pre++[x]) W'∧Below n₀ W W')∨(e=.returned (.bool false)∧Jx (pre++[x]) W'))
  (W:World) (hn0:n₀≤W.heap.size) (hBs:W.cell? ⟨Bs,5,none⟩=some (.slice A L.length c)) (hE:Ra D W (.sl 1 false (L.map intA)) (.slice A L.length c)) (hD:∀ b,D b→b<n₀) (h0:J [] W) :
  CallsIn Fence.wide n Tryz.prog 83 #[.func (.yield l) #[] #[],.pointer (some ⟨Bs,0,none⟩)] W fun e W'=>(∃ v,e=.returned v) ∧
   ((∃ ys,ys=L∧J ys W')∨(∃ pre,pre <+: L∧Jx pre W')):=by
 have HE:=Lib.hid hE;have HD:=Lib.hid hD;clear hE hD;refine callsIn_of_wp Tryz.func83 rfl trivial ?_ rfl;simp only [Tryz.ntmps83,W2i,W0b,W0f,Nat.reduceAdd,Nat.reduceSub,Array.replicate_succ,Array.replicate_zero,List.push_toArray,List.append_toArray,W1w,List.cons_append]
 gi_wp2
 gi_loopw [8] (fun i wr=>∃ k:Nat,k≤L.length∧i=.int .i64 k∧J (L.take k) wr∧Below n₀ W wr∧W.heap.size≤wr.heap.size)
  (fun i _=>L.length-(intOf i).toNat)
 case atStart=>exact ⟨0,W0j _,rfl,by simpa using h0,Below.refl _ _,W0m _⟩
 case round=>
  obtain ⟨k,hk,rfl,hJs,hnx,hsz⟩:=hrel;by_cases hlt:k<L.length
  ·have hE':Ra D wr (.sl 1 false (L.map intA)) (.slice A L.length c):=HE.out.frame (fun _ h=>h) hsz (fun b hb _=>hnx.block b (HD.out b hb));obtain ⟨b,off,hA,hbk,_,hc1⟩:=Quo hE' hlt;subst hA;have hst:L.take (k+1)=L.take k++[L[k]]:=W15 hlt;have HST:=Lib.hid hst;have hll:(L.take k).length<L.length:=by simp;omega
   obtain ⟨fn,tmps,assign,body,hy,hR⟩:=hY _ L[k] _ hJs hll;have HR:=Lib.hid hR;have HNX:=Lib.hid hnx;have HPP:Hid (L.take (k+1) <+: L):=Lib.hid (List.take_prefix _ _);clear hE' hst hll hR hnx hJs hY;generalize L[k]=x at *
   gi_wp2
   refine HR.out.mono ?_;rintro e W3 (⟨rfl,hJ3,hk3⟩ | ⟨rfl,hJx3⟩)
   ·have hn3:Below n₀ W W3:=HNX.out.trans hk3;have hs3:=hk3.size
    gi_wp2
    go_roundw
    case rel=>exact ⟨k+1,by omega,by go_num,by rw [HST.out];exact hJ3,hn3,by omega⟩
    case measure=>simp [intOf];omega
   ·gi_wp2
    refine bodyPost_ret (results_none rfl _ _ _) rfl ?_;exact ⟨⟨_,rfl⟩,.inr ⟨_,by rw [← HST.out];exact HPP.out,hJx3⟩⟩
  ·obtain rfl:k=L.length:=by omega
   have hfin:L.take L.length=L:=W13;have HF:=Lib.hid hfin;clear hfin
   gi_wp2
   go_end0
   exact ⟨⟨_,rfl⟩,.inl (by rw [← HF.out];exact ⟨_,rfl,hJs⟩)⟩
theorem Zl5 (n:Nat) (st n1 n2:Int) (s1 s2 v:Value) (w:World) :
  CallsIn Fence.wide n Tryz.prog 45 #[.agg #[.int .i64 st,s1,.int .i64 n1,s2,.int .i64 n2,v]] w fun e w'=>e=.returned (.func (.func 83) #[] #[.pointer (some ⟨w.heap.size,0,none⟩)])∧w'=w.alloc (.cells #[.int .i64 st,s1,.int .i64 n1,s2,.int .i64 n2,v] 31):=by
 refine callsIn_of_wp Tryz.func45 rfl trivial ?_ rfl;simp only [Tryz.ntmps45,W2i,W0b,W0f,Nat.reduceAdd,Nat.reduceSub,Array.replicate_succ,Array.replicate_zero,List.push_toArray,List.append_toArray,W1w,List.cons_append]
 gi_wp2
 go_ret
 exact ⟨rfl,rfl⟩
theorem Zfw (n:Nat) (hn:1≤n) (Bs n₀ c:Nat) (A:Option Addr) (L:List Int) (hlen:L.length≤140737488351232) (D:Nat→Prop) (hD:∀ b,D b→b<n₀) (w:World) (hBs:Bs<w.heap.size) (hn₀:n₀≤w.heap.size)
  (hc:w.cell? ⟨Bs,5,none⟩=some (.slice A L.length c)) (hE:Ra D w (.sl 1 false (L.map intA)) (.slice A L.length c)) :
  SeqStopsK Fence.wide n Tryz.prog 83 #[.pointer (some ⟨Bs,0,none⟩)] (fun x:Int=>#[Value.int .i64 x]) (Below n₀) (fun ys=>ys=L) (fun pre=>pre <+: L) L.length w:=fun l J Jx W hW hJ _ hY h0=>
 Zn4 n hn l Bs n₀ c A L hlen D J Jx hY W (W1a hn₀ hW.size) ((hW.cell (p:=⟨Bs,5,none⟩) hBs).trans hc) (hE.frame (fun _ h=>h) hW.size (fun b hb hl=>hW.block b hl)) hD h0
end Go.Proofs.YtahlldgocpabjaaGreat

namespace Go.Proofs.YtahlldgocpabjaaGreat
open Go Go.RowKit Go.Shelf Copyhold
attribute [local go_sem] Oper.semAt_some
theorem Zld (n:Nat) (hn:3≤n) (q0 q1 q2:Value) (st n1 n2:Int) (s1 s2:Value) (A:Option Addr) (c:Nat) (L R:List Int) (hlL:L.length≤140737488351232) (hlR:R.length≤1000000) (w:World) (D:Nat→Prop) (hD:∀ b,D b→b<w.heap.size)
  (hL:Ra D w (.sl 1 false (L.map intA)) (.slice A L.length c))
  (hS:∀ W,Below w.heap.size w W→CallsIn Fence.wide (n-1) Tryz.prog 62 #[.agg #[q0,q1,q2],.int .i64 st] W fun e W'=>∃ A' c',∃ D':Nat→Prop,e=.returned (.slice A' R.length c')∧Below W.heap.size W W'∧Ra D' W' (.sl 1 false (R.map intA)) (.slice A' R.length c')∧∀ b,D' b→b<W'.heap.size) :
  CallsIn Fence.wide n Tryz.prog 36 #[.agg #[q0,q1,q2],.agg #[.int .i64 st,s1,.int .i64 n1,s2,.int .i64 n2,.slice A L.length c]] w fun e W'=>e=.returned (.bool (decide (∃ x∈L,x∈R)))∧Below w.heap.size w W':=by
 have h1:1≤n:=by omega
 have HL:=Lib.hid hL;have HS:=Lib.hid hS;have HD:=Lib.hid hD;clear hL hS hD;refine callsIn_of_wp_marks Tryz.func36 rfl trivial ?_ rfl;simp only [Tryz.ntmps36,W2i,W0b,W0f,Nat.reduceAdd,Nat.reduceSub,Array.replicate_succ,Array.replicate_zero,List.push_toArray,List.append_toArray,W1w,List.cons_append]
 gi_wp2
 refine wpIn_wide.2 (wp_scope_straight ((wpIn_wide (n:=n)).1 ?_))
 gi_wp2_with (first
  | (
    refine ⟨trivial,?_⟩;gi_at_call 62;refine (HS.out _ (((Below.refl _ w).alloc (W0m _) _).alloc (by simp) _)).mono ?_;rintro e w1 ⟨A',c',D',rfl,hb1,hR,hD'⟩;have hsz:w.heap.size+1+1≤w1.heap.size:=by have:=hb1.size;simpa using this
    have hlt3:w.heap.size+1<w1.heap.size:=by omega
    have hblk:w1.heap[w.heap.size+1]?=some (.cells #[.int .i64 st,s1,.int .i64 n1,s2,.int .i64 n2,.slice A L.length c] 31):=by
     rw [hb1.block (w.heap.size+1) (by simp)];have:=heap_alloc_new (w.alloc (.cells #[q0,q1,q2] 25)) (.cells #[.int .i64 st,s1,.int .i64 n1,s2,.int .i64 n2,.slice A L.length c] 31);simpa using this
    have e0:w1.cell? ⟨w.heap.size+1,0,none⟩=some (.int .i64 st):=by simp [World.cell?,hblk]
    have e1:w1.cell? ⟨w.heap.size+1,1,none⟩=some s1:=by simp [World.cell?,hblk]
    have e2:w1.cell? ⟨w.heap.size+1,2,none⟩=some (.int .i64 n1):=by simp [World.cell?,hblk]
    have e3:w1.cell? ⟨w.heap.size+1,3,none⟩=some s2:=by simp [World.cell?,hblk]
    have e4:w1.cell? ⟨w.heap.size+1,4,none⟩=some (.int .i64 n2):=by simp [World.cell?,hblk]
    have e5:w1.cell? ⟨w.heap.size+1,5,none⟩=some (.slice A L.length c):=by simp [World.cell?,hblk]
    have HB1:=Lib.hid hb1;have HR:=Lib.hid (And.intro hR hD');clear hb1 hR hD' hblk)
  | (refine ⟨trivial,?_⟩;gi_at_call 45;refine (Zl5 (n-1) st n1 n2 s1 s2 (.slice A L.length c) _).mono ?_;rintro e w' ⟨rfl,rfl⟩))
 rename_i K0 hK0;refine wpIn_label (hK0 _ _ ?_);clear hK0 K0;obtain ⟨W3,hW3⟩:∃ W,W=(w1.alloc (.cells #[.slice A' R.length c'] 29)).alloc (.cells #[.bool false] 4):=⟨_,rfl⟩
 have hbW:Below w1.heap.size w1 W3:=by rw [hW3];exact ((Below.refl _ w1).alloc (W0m _) _).alloc (by simp) _
 have hs3:W3.heap.size=w1.heap.size+1+1:=by rw [hW3];simp
 have bS:Boxed W3 w1.heap.size 29 (.slice A' R.length c'):=by rw [hW3];exact (Boxed.new w1 _ _).alloc _
 have bF:Boxed W3 (w1.heap.size+1) 4 (.bool false):=by
  rw [hW3];have:=Boxed.new (w1.alloc (.cells #[.slice A' R.length c'] 29)) 4 (.bool false);simpa using this
 have f0:=(hbW.cell (p:=⟨w.heap.size+1,0,none⟩) hlt3).trans e0;have f1:=(hbW.cell (p:=⟨w.heap.size+1,1,none⟩) hlt3).trans e1;have f2:=(hbW.cell (p:=⟨w.heap.size+1,2,none⟩) hlt3).trans e2;have f3:=(hbW.cell (p:=⟨w.heap.size+1,3,none⟩) hlt3).trans e3;have f4:=(hbW.cell (p:=⟨w.heap.size+1,4,none⟩) hlt3).trans e4;have f5:=(hbW.cell (p:=⟨w.heap.size+1,5,none⟩) hlt3).trans e5;have hB13:Below w.heap.size w w1:=(((Below.refl w.heap.size w).alloc (W0m _) _).alloc (by simp) _).trans (HB1.out.mono (by simp;omega));have hB0:Below w.heap.size w W3:=hB13.trans (hbW.mono (by omega));have hR3:Ra D' W3 (.sl 1 false (R.map intA)) (.slice A' R.length c'):=HR.out.1.frame (fun _ h=>h) hbW.size (fun b hb hl=>hbW.block b hl);have hL3:Ra D W3 (.sl 1 false (L.map intA)) (.slice A L.length c):=HL.out.frame (fun _ h=>h) hB0.size (fun b hb hl=>hB0.block b hl);rw [← hW3];clear hW3;have HBX:=Lib.hid (And.intro bS (And.intro bF (And.intro hB0 (And.intro hR3 hL3))));clear e0 e1 e2 e3 e4 e5 bS bF hB0 hR3 hL3 hbW hB13
 gi_wp2_with (refine ⟨trivial,?_⟩;gi_at_call 45;refine (Zl5 (n-1) st n1 n2 s1 s2 (.slice A L.length c) _).mono ?_;rintro e w' ⟨rfl,rfl⟩)
 rename_i K0 hK0;have HK0:=Lib.hid hK0;clear hK0 hsz hlt3 f0 f1 f2 f3 f4;obtain ⟨bS,bF,hB0,hR3,hL3⟩:=HBX.out;obtain ⟨W4,hW4⟩:∃ W,W=W3.alloc (.cells #[.int .i64 st,s1,.int .i64 n1,s2,.int .i64 n2,.slice A L.length c] 31):=⟨_,rfl⟩
 have hb34:Below W3.heap.size W3 W4:=by rw [hW4];exact (Below.refl _ W3).alloc (W0m _) _
 have hs4:W4.heap.size=w1.heap.size+1+1+1:=by rw [hW4];simp [hs3]
 have bS4:Boxed W4 w1.heap.size 29 (.slice A' R.length c'):=by rw [hW4];exact bS.alloc _
 have bF4:Boxed W4 (w1.heap.size+1) 4 (.bool false):=by rw [hW4];exact bF.alloc _
 have hR4:Ra D' W4 (.sl 1 false (R.map intA)) (.slice A' R.length c'):=hR3.frame (fun _ h=>h) hb34.size (fun b hb hl=>hb34.block b hl);have hL4:Ra D W4 (.sl 1 false (L.map intA)) (.slice A L.length c):=hL3.frame (fun _ h=>h) hb34.size (fun b hb hl=>hb34.block b hl);have hc5:W4.cell? ⟨w1.heap.size+1+1,5,none⟩=some (.slice A L.length c):=by
  rw [hW4];have:=heap_alloc_new W3 (.cells #[.int .i64 st,s1,.int .i64 n1,s2,.int .i64 n2,.slice A L.length c] 31);rw [hs3] at this;simp [World.cell?,this]
 have hB04:Below w.heap.size w W4:=hB0.trans (hb34.mono (by have:=hB0.size;omega));have hww1:w.heap.size≤w1.heap.size:=by have:=HB1.out.size;simp at this;omega
 have hDn:∀ b,D b→b<w1.heap.size+1:=fun b hb=>by have:=HD.out b hb;omega
 have hDn':∀ b,D' b→b<w1.heap.size+1:=fun b hb=>by have:=HR.out.2 b hb;omega
 rw [← hW4];clear hW4 bS bF hB0 hR3 hL3 HBX hb34 f5 hs3 HL HS HR HB1 HD;refine wpIn_rangeFunc_ownG rfl h1 (gf:=83) (lb:=#[.pointer (some ⟨w1.heap.size+1+1,0,none⟩)]) rfl trivial (enters_of Tryz.func83 (by kernel_rfl) rfl)
  (Zfw (n-1) (by omega) (w1.heap.size+1+1) (w1.heap.size+1) c A L hlL D hDn W4 (by omega) (by omega) hc5 hL4) belowK_t (belowK_b (by omega)) (Below.refl _ _) (fun _=>rfl)
  (fun (pre:List Int) W=>(Boxed W (w1.heap.size+1) 4 (.bool false)∧(∀ x∈pre,x ∉ R))∧Below (w1.heap.size+1) W4 W)
  (fun c (pre:List Int) W=>(c=.exit 0∧(∃ x∈pre,x∈R)∧Boxed W (w1.heap.size+1) 4 (.bool true))∧Below (w1.heap.size+1) W4 W)
  (OwnFrom.and (Own.from (fun s X Y row hs hg hr=>⟨boxed_own (w1.heap.size+1) 4 (fun (_:List Int)=>.bool false) s X Y row hs.1 hg hr,hs.2⟩) _) (ownFrom_below (by omega) (by omega)))
  (fun c=>OwnFrom.and (Own.from (fun s X Y row hs hg hr=>⟨hs.1,hs.2.1,boxed_own (w1.heap.size+1) 4 (fun (_:List Int)=>.bool true) s X Y row hs.2.2 hg hr⟩) _) (ownFrom_below (by omega) (by omega)))
  ⟨⟨bF4,by simp⟩,Below.refl _ _⟩
  (fun (x:Int)=>{ tmps:=#[.agg #[q0,q1,q2],.agg #[.int .i64 st,s1,.int .i64 n1,s2,.int .i64 n2,.slice A L.length c],.pointer (some ⟨w.heap.size,0,none⟩),.pointer (some ⟨w.heap.size+1,0,none⟩),.bool false,.pointer (some ⟨w1.heap.size,0,none⟩),.pointer (some ⟨w1.heap.size+1,0,none⟩),.int .i64 x,undef,undef,.agg #[q0,q1,q2],.pointer (some ⟨w.heap.size+1,0,none⟩),.int .i64 st,.slice A' R.length c',.agg #[.int .i64 st,s1,.int .i64 n1,s2,.int .i64 n2,.slice A L.length c],.func (.func 83) #[] #[.pointer (some ⟨w1.heap.size+1+1,0,none⟩)],.int .i64 x,undef,undef,undef,undef,undef,undef,undef,undef,undef,undef,undef],defers:=[] }) ?assign ?body ?done ?stop
 case assign=>
  intro l x W K hK
  gi_wp2
  exact hK
 case body=>
  rintro l pre x W ⟨⟨hF,hall⟩,hB⟩ hlt;have cS:=(hB.cell (p:=⟨w1.heap.size,0,none⟩) (Nat.lt_succ_self _)).trans bS4.cell;have cF:=hF.cell;have fF:=hF.frozen;have hRW:Ra D' W (.sl 1 false (R.map intA)) (.slice A' R.length c'):=hR4.frame (fun _ h=>h) hB.size (fun b hb hl=>hB.block b (hDn' b hb));have HRW:=Lib.hid hRW;have HKK:=Lib.hid HK0;clear hRW hR4 hL4 hc5 hB04 bS4 bF4 HK0
  gi_wp2
  gi_loopw [19] (fun i wr=>∃ k:Nat,k≤R.length∧i=.int .i64 k∧(∀ y∈R.take k,y ≠ x)∧wr=W)
   (fun i _=>R.length-(intOf i).toNat)
  case atStart=>exact ⟨0,W0j _,rfl,by simp,rfl⟩
  case round=>
   obtain ⟨k,hk,rfl,hne,rfl⟩:=hrel;by_cases hlt2:k<R.length
   ·obtain ⟨b,off,hA,hbk,_,hc1⟩:=Quo HRW.out hlt2;subst hA;have hst:R.take (k+1)=R.take k++[R[k]]:=W15 hlt2;have HST:=Lib.hid hst;have HM:Hid (R[k]∈R):=Lib.hid (W1n hlt2);clear hst;generalize R[k]=y at *;by_cases hxy:y=x
    ·subst hxy
     gi_wp2
     exact ⟨(KeepsOthers.setCell wr ⟨w1.heap.size+1,0,none⟩ (.bool true)).from _,⟨rfl,⟨y,by simp,HM.out⟩,hF.set _⟩,hB.setCell (p:=⟨w1.heap.size+1,0,none⟩) (W0m _) _⟩
    ·gi_wp2
     go_roundw
     case rel=>exact ⟨k+1,by omega,by go_num,by rw [HST.out];intro z hz;rcases W05.1 hz with hz | hz;exact hne z hz;rw [W0z.1 hz];exact hxy,trivial⟩
     case measure=>simp [intOf];omega
   ·obtain rfl:k=R.length:=by omega
    gi_wp2
    exact ⟨KeepsFrom.refl _ _,Below.refl _ _,⟨hF,fun z hz=>(W05.1 hz).elim (hall z) (fun h hR=>by rw [W0z.1 h] at hR;exact hne x (by rw [W13];exact hR) rfl)⟩,hB⟩
 case done=>
  rintro D1 ys W hD1 rfl ⟨⟨hF,hall⟩,hB⟩ hK;have cF:=hF.cell;have hcc:=cell_kept cF (grownBy_putObj' _ D1 (.deferred none)) (fun r e=>by cases e;exact ⟨_,hK,rfl⟩)
  gi_wp2
  refine HK0.out _ _ ?_
  gi_wp2
  refine ⟨by simp,.inl ⟨_,_,rfl,run_takeDeferred hK,?_⟩⟩;refine ⟨_,results_tmp rfl _ _ _,?_,(hB04.trans (hB.mono (by omega))).trans (belowK_b (w:=w) (W0m _) W D1 _ _ (by omega) hK rfl rfl)⟩;have hh:(∃ x,x∈ys∧x∈R)=False:=by simp only [eq_iff_iff,iff_false];rintro ⟨x,hx,hr⟩;exact hall x hx hr
  simp [hh]
 case stop=>
  rintro D1 c pre W hD1 hpre ⟨⟨rfl,⟨x,hxm,hx⟩,hF⟩,hB⟩ hK;have cF:=hF.cell;have hcc:=cell_kept cF (grownBy_putObj' _ D1 (.deferred none)) (fun r e=>by cases e;exact ⟨_,hK,rfl⟩)
  gi_wp2
  refine HK0.out _ _ ?_
  gi_wp2
  refine ⟨by simp,.inl ⟨_,_,rfl,run_takeDeferred hK,?_⟩⟩;refine ⟨_,results_tmp rfl _ _ _,?_,(hB04.trans (hB.mono (by omega))).trans (belowK_b (w:=w) (W0m _) W D1 _ _ (by omega) hK rfl rfl)⟩;have hh:(∃ x,x∈L∧x∈R)=True:=eq_true ⟨x,hpre.subset hxm,hx⟩;simp [hh]
end Go.Proofs.YtahlldgocpabjaaGreat

namespace Go.Proofs.YtahlldgocpabjaaGreat
open Go Go.RowKit Copyhold Go.Proofs.Tryz
theorem Zet {D:Nat→Prop} {w:World} {cs:List AV} {v:Value} (h:Ra D w (.agg cs) v):∃ vs:Array Value,v=.agg vs∧cs.length=vs.size∧∀ (j:Nat) (x:AV) (u:Value),cs[j]?=some x→vs[j]?=some u→Ra D w x u:=by
 cases h with
 | agg cs vs h1 h2 h3=>exact ⟨vs,rfl,h1,h3⟩
theorem Qy0 {D:Nat→Prop} {w:World} {L:List Int} {t:Bool} {v:Value} (h:Ra D w (.sl 1 t (L.map intA)) v):∃ A c,v=.slice A L.length c:=by
 generalize hx:(AV.sl 1 t (L.map intA))=x at h;cases h<;>cases hx;exact ⟨_,_,by rw [W0a]⟩
theorem Qw0 {D:Nat→Prop} {w:World} {u v:Value} (h:Ra D w (.val u) v):v=u:=by
 cases h;rfl
theorem arr2 {vs:Array Value} (h:2=vs.size):∃ a b,vs=#[a,b]:=by
 rcases vs with ⟨l⟩
 match l,h with
 | [a,b],_=>exact ⟨a,b,rfl⟩
theorem arr3 {vs:Array Value} (h:3=vs.size):∃ a b c,vs=#[a,b,c]:=by
 rcases vs with ⟨l⟩
 match l,h with
 | [a,b,c],_=>exact ⟨a,b,c,rfl⟩
theorem arr6 {vs:Array Value} (h:6=vs.size):∃ a b c d e f,vs=#[a,b,c,d,e,f]:=by
 rcases vs with ⟨l⟩
 match l,h with
 | [a,b,c,d,e,f],_=>exact ⟨a,b,c,d,e,f,rfl⟩
theorem Qqr (s:Sto) (t:Txn) (oks:OkS s) (hf:s.l.length≤100000) (okt:OkT t):Qai prog 36 [.agg (stoA s),.agg (txnA t)] (aB (dP (Qeg s t))):=by
 intro D w vs hD hvs;obtain ⟨hlen,hv⟩:=hvs;obtain ⟨v0,v1,rfl⟩:=arr2 hlen;have r0:=hv 0 _ v0 rfl rfl;obtain ⟨vs1,rfl,hl1,h1⟩:=Zet (hv 1 _ v1 rfl rfl);obtain ⟨vs0,rfl,hl0,h0⟩:=Zet r0;obtain ⟨q0,q1,q2,rfl⟩:=arr3 hl0;obtain ⟨a0,a1,a2,a3,a4,a5,rfl⟩:=arr6 hl1;obtain rfl:=Qw0 (h1 0 _ a0 rfl rfl);obtain rfl:=Qw0 (h1 2 _ a2 rfl rfl);obtain rfl:=Qw0 (h1 4 _ a4 rfl rfl);have r5:=h1 5 _ a5 rfl rfl;obtain ⟨A,c,rfl⟩:=Qy0 r5;have hbl:=okt.len;have hsl:=Qtm s t.stamp;refine (callsIn_wide (n:=3)).1 ((Zld 3 (W0m _) q0 q1 q2 t.stamp t.was.next t.now.next a1 a3 A c t.looks (Qbu s t.stamp) (by omega) (by omega) w D hD r5 ?_).mono ?_)
 ·intro W hW;refine (callsIn_wide.2 (Za7 s t.stamp oks hf D W #[.agg #[q0,q1,q2],.int .i64 t.stamp] (fun b hb=>W09 (hD b hb) hW.size) ⟨rfl,fun j x v hj hvj=>?_⟩)).mono ?_
  ·match j,hj,hvj with
   | 0,hj,hvj=>cases hj;cases hvj;exact r0.frame (fun _ h=>h) hW.size (fun b hb hl=>hW.block b hl)
   | 1,hj,hvj=>cases hj;cases hvj;exact .val _
  ·rintro e W' ⟨v,D',rfl,hb,_,hD',hr⟩;obtain ⟨A',c',rfl⟩:=Qy0 hr;exact ⟨A',c',D',rfl,hb,hr,fun b hb=>(hD' b hb).1⟩
 ·rintro e w' ⟨rfl,hb⟩;refine ⟨_,D,rfl,hb,fun _ h=>h,fun b h=>⟨W09 (hD b h) hb.size,.inl h⟩,?_⟩;have e:decide (∃ x∈t.looks,x∈Qbu s t.stamp)=dP (Qeg s t):=by
   by_cases h:∃ x∈t.looks,x∈Qbu s t.stamp
   ·obtain ⟨x,h1,h2⟩:=h;rw [Qau.2 ⟨x,h2,h1⟩];exact decide_eq_true ⟨x,h1,h2⟩
   ·rw [decide_eq_false h];exact (Qad.2 (fun ⟨x,h2,h1⟩=>h ⟨x,h1,h2⟩)).symm
  rw [e];exact .val _
structure MidS (s:Sto):Prop where
 ok:OkS s
 l:s.l.length≤5000
 nexts:s.nexts.length≤5000
 rows:∀ c∈s.l,c.l.length≤5000
 stamp:s.stamp<1152921504606847976
noncomputable def Qa0 (s:Sto) (t:Txn):Sto × Int:=
 if dP (t.was=t.now)=true then (s,0) else if dP (Qeg s t)=true then (s,15) else (Qcy s (Qbl t.was t.now) t.now.next,0)
theorem Qdf {s:Sto} {t:Txn} (h:dP (t.was=t.now)=true):Qa0 s t=(s,0):=by unfold Qa0;rw [W1y h]
theorem Qd2 {s:Sto} {t:Txn} (h:dP (t.was=t.now)=false) (h2:dP (Qeg s t)=true):Qa0 s t=(s,15):=by unfold Qa0;rw [W1x (by rw [h];decide),W1y h2]
theorem Qc2 {s:Sto} {t:Txn} (h:dP (t.was=t.now)=false) (h2:dP (Qeg s t)=false):Qa0 s t=(Qcy s (Qbl t.was t.now) t.now.next,0):=by unfold Qa0;rw [W1x (by rw [h];decide),W1x (by rw [h2];decide)]
theorem Qj1 (s:Sto) (t:Txn) (ms:MidS s) (okt:OkT t) (hw:Qan t.was) (hn:Qan t.now):Qai prog 30 [.agg (stoA s),.agg (txnA t)] (.tup [.agg (stoA (Qa0 s t).1),aI (Qa0 s t).2]):=by
 exact Qae func30 (
 .new fun b1=>.new fun b2=>.new fun b3=>.r 1<|.u 1 [b2]<|
 .call (Qoo t okt)<|
 .br 7 (dP (t.was=t.now)) (fun q1=>have p1:=booT q1;.u 3 [b1,b3]<|
 .f (.tup [.agg (stoA (Qa0 s t).1),aI (Qa0 s t).2]) [b3] (.tup [.agg (stoA s),aI 0]) (by
  rw [Qdf q1];exact sR))
 <| fun q1=>have p1:=booF q1;.u 2 [b1,b2]<|
 .call (Qqr s t ms.ok (by have:=ms.l;omega) okt)<|
 .br 11 (dP (Qeg s t)) (fun q2=>have p2:=booT q2;.u 3 [b1,b3]<|
 .f (.tup [.agg (stoA (Qa0 s t).1),aI (Qa0 s t).2]) [b3] (.tup [.agg (stoA s),aI 15]) (by
  rw [Qd2 q1 q2];exact sR))
 <| fun q2=>have p2:=booF q2;.ord [0,1,2,3,4,6,7,8,5,9,10,11]<|.u 8 [b1,b2,b2,b2]<|
 .call (Qrp t.was t.now okt.was okt.now (by have:=hw.1;omega) (by have:=hn.1;omega) (Qaf hw) (Qaf hn))<|
 .call (Qup s (Qbl t.was t.now) t.now.next ms.ok ms.l (by have:=Qfq t.was t.now;have:=hw.1;have:=hn.1;omega) ms.nexts ms.rows ms.stamp)<|
 .u 2 [b3]<|
 .f (.tup [.agg (stoA (Qa0 s t).1),aI (Qa0 s t).2]) [b3] (.tup [.agg [.sl 2 false ((Qcy s (Qbl t.was t.now) t.now.next).l.map chnA),.sl 2 false ((Qcy s (Qbl t.was t.now) t.now.next).nexts.map cntA),aI ((Qcy s (Qbl t.was t.now) t.now.next).stamp)],aI 0]) (by
  rw [Qc2 q1 q2];exact sR))
noncomputable def Qab:Txn→List Cal→Txn
 | t,[]=>t
 | t,c :: r=>Qab (Qbb t c) r
theorem Qpr:∀ (a b:List Cal) (t:Txn),Qab t (a++b)=Qab (Qab t a) b
 | [],_,_=>rfl
 | c :: r,b,t=>Qpr r b (Qbb t c)
theorem Qci {t:Txn} {l:List Cal} {k:Nat} {x:Cal} (h:l[k]?=some x):Qab t (l.take (k+1))=Qbb (Qab t (l.take k)) x:=by
 rw [Qam h,Qpr];rfl
theorem Qgf:∀ (l:List Cal) (t:Txn),(Qab t l).now=plF t.now l
 | [],_=>rfl
 | c :: r,t=>Qgf r (Qbb t c)
theorem Qni:∀ (l:List Cal) (t:Txn),(Qab t l).was=t.was
 | [],_=>rfl
 | c :: r,t=>Qni r (Qbb t c)
theorem Qg6:∀ (l:List Cal) (t:Txn),(Qab t l).stamp=t.stamp
 | [],_=>rfl
 | c :: r,t=>Qg6 r (Qbb t c)
theorem Qti:∀ (l:List Cal) (t:Txn),(Qab t l).looks.length≤t.looks.length+7*l.length
 | [],_=>by show _≤_;simp [Qab]
 | c :: r,t=>by
  have h1:=Qti r (Qbb t c);have h2:=Qtj t c;show (Qab (Qbb t c) r).looks.length≤_;rw [W0b];omega
theorem Qbp {t:Txn} {l:List Cal} {k:Nat} {x:Cal} (h:l[k]?=some x):plR t.now (l.take (k+1))=plR t.now (l.take k)++[(doF (Qab t (l.take k)).now x).2]:=by
 rw [Qdh h,Qgf]
structure KeptT (t u:Txn) (k:Nat):Prop where
 now:KeptN t.now u.now k
 ok:OkT u
 was:u.was=t.was
 len:u.looks.length≤t.looks.length+7*k
theorem Qgv {t:Txn} (okt:OkT t) (T:TreeP t.now) {l:List Cal} (hl:l.length≤1000) (ok:∀ c∈l,OkCal c) (hx:t.now.next<1152921504606847976) (hk0:t.looks.length≤1000) {k:Nat} (hk:k≤l.length):KeptT t (Qab t (l.take k)) k:=by
 have h1:=Qly okt.now T hl ok hx k hk;have h2:=Qti (l.take k) t;rw [W0g,Nat.min_eq_left hk] at h2;exact ⟨by rw [Qgf];exact h1,⟨by rw [Qg6];exact okt.stamp,by rw [Qni];exact okt.was,by rw [Qgf];exact h1.ok,by omega⟩,Qni _ _,h2⟩
theorem Qhq {s:Sto} (oks:OkS s):OkT (Qac s):=⟨oks.1,Qfg oks _,Qfg oks _,by show ([]:List Int).length≤_;simp⟩
noncomputable def runD (s:Sto) (l:List Cal):Sto:=(Qa0 s (Qab (Qac s) l)).1
theorem Zi8 (s:Sto) (l:List Cal) (ms:MidS s) (T:TreeP (Qac s).now) (hl:l.length≤1000) (ok:∀ c∈l,OkCal c) (hx:(Qac s).now.next<1152921504606847976):Qai prog 32 [.agg (stoA s),.sl 8 false (l.map calA)] (.tup [.agg (stoA (runD s l)),.sl 6 false ((plR (Qac s).now l).map repA)]):=by
 exact Qae func32 (
 .new fun b1=>.new fun b2=>.r 1<|.u 1 [b1]<|
 .call (Qeu s ms.ok (by have:=ms.l;omega))<|
 .new fun b3=>.u 1 [b3]<|
 .r 2<|.lm 13 l calA<|.op (mkN prog) (59,(l.length:Int),(l.length:Int),45,[aI 0,aI 0,aI 0,aI 0,aS ([]),aN],14) (fun (V:Value) σ=>(σ.put (some 14) (.rw 14 V l.length)).setB 14 (.row V 45 6 (List.replicate l.length [aI 0,aI 0,aI 0,aI 0,aS ([]),aN]))) (Zjb l.length 72 (by kernel_rfl) (by omega) (by omega) (by omega)) fun V1=>
 .r 1<|.r 2<|.lm 16 l calA<|.r 1<|let L1:Lp (Nat):=⟨fun a1=>⟨[(2,.ptr 2 b1 0),(4,.ptr 4 b2 0),(6,.ptr 6 b3 0),(7,.rw 14 V1 l.length),(15,.sl 8 false (l.map calA)),(16,aI (l.length:Int)),(17,aI (a1:Int))],[(2,.box b1 25 (stoA s)),(4,.box b2 25 [aN,aN,aI 0]),(6,.box b3 31 [aI ((Qab (Qac s) (l.take a1)).stamp),.sl 5 false ((Qab (Qac s) (l.take a1)).was.l.map nodA),aI ((Qab (Qac s) (l.take a1)).was.next),.sl 5 false ((Qab (Qac s) (l.take a1)).now.l.map nodA),aI ((Qab (Qac s) (l.take a1)).now.next),.sl 1 false ((Qab (Qac s) (l.take a1)).looks.map intA)]),(14,.row V1 45 6 (prow (plR (Qac s).now (l.take a1)) l.length))]⟩,fun a1=>l.length-a1,fun a1=>a1≤l.length⟩
 .lp L1 0 (show 0≤l.length from W0j _) [(17,aI 0)] [(6,.box b3 31 [aI ((Qac s).stamp),.sl 5 false ((Qac s).was.l.map nodA),aI ((Qac s).was.next),.sl 5 false ((Qac s).now.l.map nodA),aI ((Qac s).now.next),.sl 1 false ((Qac s).looks.map intA)]),(14,.row V1 45 6 (List.replicate l.length [aI 0,aI 0,aI 0,aI 0,aS ([]),aN]))] ⟨sR,sR,sR,sR,sR,sR,sO,trivial⟩ ⟨sB,sB,⟨_,rfl,W2q rfl⟩,⟨_,rfl,W2q rfl⟩,trivial⟩ fun a1 ha1=>
 (fun (k:Nat) (hH1:k≤l.length)=>have kt:=Qgv (Qhq ms.ok) T hl ok hx (W0j _) (k:=k) (by omega);have kp:=kt.now;have kp2:=kp.next;have kl:=kt.len;have kl0:(Qac s).looks.length=0:=rfl;.r 1<|.bd 18 ((k:Int)<(l.length:Int)) (fun p1=>.r 1<|.idxM l calA k (m:=(k:Int)) rfl (by omega) fun x1 hx1=>
 have okx1:=ok x1 (W0h hx1);.r 1<|.new fun b4=>.u 2 [b4]<|
 .st (rowR 14) (V1,45,6,prow (plR (Qac s).now (l.take k)) l.length) (fun _ σ=>σ) (Qcd 14 (by first | omega | (rw [Qrh (by rw [Qhc,W0g];omega)];omega))) fun a5r=>
 .u 4 [b3,b4]<|
 .call (Qfj (Qab (Qac s) (l.take k)) x1 kp.ok okx1 kp.tree.rows (by omega) (by omega))<|
 .u 4 [b3]<|
 .op (ixR prog) (14,V1,l.length,6,(k:Int),some 30) (fun (_:Unit) σ=>σ.put (some 30) (.ep 14 V1 6 k 0)) (Qfy k a5r.2.1 (by omega) (by first | omega | (rw [Qrh (by rw [Qhc,W0g];omega)];omega))) fun _=>
 .op (stR prog) (14,V1,6,k,0,V1,45,6,prow (plR (Qac s).now (l.take k)) l.length,[aI ((doF (Qab (Qac s) (l.take k)).now x1).2.e),aI ((doF (Qab (Qac s) (l.take k)).now x1).2.a),aI ((doF (Qab (Qac s) (l.take k)).now x1).2.b),aI ((doF (Qab (Qac s) (l.take k)).now x1).2.n),aS ((doF (Qab (Qac s) (l.take k)).now x1).2.text),AV.sl 1 false ((doF (Qab (Qac s) (l.take k)).now x1).2.names.map txA)],none) (fun (_:Unit) σ=>(σ.put (none) .any).setB 14 (.row V1 45 6 ((prow (plR (Qac s).now (l.take k)) l.length).set k ((zRA ()).take 0++[aI ((doF (Qab (Qac s) (l.take k)).now x1).2.e),aI ((doF (Qab (Qac s) (l.take k)).now x1).2.a),aI ((doF (Qab (Qac s) (l.take k)).now x1).2.b),aI ((doF (Qab (Qac s) (l.take k)).now x1).2.n),aS ((doF (Qab (Qac s) (l.take k)).now x1).2.text),AV.sl 1 false ((doF (Qab (Qac s) (l.take k)).now x1).2.names.map txA)]++(zRA ()).drop (0+[aI ((doF (Qab (Qac s) (l.take k)).now x1).2.e),aI ((doF (Qab (Qac s) (l.take k)).now x1).2.a),aI ((doF (Qab (Qac s) (l.take k)).now x1).2.b),aI ((doF (Qab (Qac s) (l.take k)).now x1).2.n),aS ((doF (Qab (Qac s) (l.take k)).now x1).2.text),AV.sl 1 false ((doF (Qab (Qac s) (l.take k)).now x1).2.names.map txA)].length))))) (Qke (zRA ()) (Zjk (by rw [Qhc,W0g];omega) (by omega)) (W06 rfl)) fun _=>
 .run 2 [rng .i64 ((k:Int)+1)] ⟨Qah,trivial⟩<|
 .bk L1 k (k+1) (show (k+1)≤l.length from (by show _≤_;omega)) (show l.length-(k+1)<l.length-k from (by omega)) [(17,aI ((k:Int)+1))] [(6,.box b3 31 [aI ((Qbb (Qab (Qac s) (l.take k)) x1).stamp),.sl 5 false ((Qbb (Qab (Qac s) (l.take k)) x1).was.l.map nodA),aI ((Qbb (Qab (Qac s) (l.take k)) x1).was.next),.sl 5 false ((Qbb (Qab (Qac s) (l.take k)) x1).now.l.map nodA),aI ((Qbb (Qab (Qac s) (l.take k)) x1).now.next),.sl 1 false ((Qbb (Qab (Qac s) (l.take k)) x1).looks.map intA)]),(14,.row V1 45 6 ((prow (plR (Qac s).now (l.take k)) l.length).set k ((zRA ()).take 0++[aI ((doF (Qab (Qac s) (l.take k)).now x1).2.e),aI ((doF (Qab (Qac s) (l.take k)).now x1).2.a),aI ((doF (Qab (Qac s) (l.take k)).now x1).2.b),aI ((doF (Qab (Qac s) (l.take k)).now x1).2.n),aS ((doF (Qab (Qac s) (l.take k)).now x1).2.text),AV.sl 1 false ((doF (Qab (Qac s) (l.take k)).now x1).2.names.map txA)]++(zRA ()).drop (0+[aI ((doF (Qab (Qac s) (l.take k)).now x1).2.e),aI ((doF (Qab (Qac s) (l.take k)).now x1).2.a),aI ((doF (Qab (Qac s) (l.take k)).now x1).2.b),aI ((doF (Qab (Qac s) (l.take k)).now x1).2.n),aS ((doF (Qab (Qac s) (l.take k)).now x1).2.text),AV.sl 1 false ((doF (Qab (Qac s) (l.take k)).now x1).2.names.map txA)].length))))] ⟨sR,sR,sR,sR,sR,sR,sO,trivial⟩ ⟨sB,sB,⟨_,rfl,W2q (by rw [Qci hx1])⟩,⟨_,rfl,W2q (by rw [Qbp hx1];exact W1z _ (Zjj (v:=(doF (Qab (Qac s) (l.take k)).now x1).2) (by rw [Qhc,W0g];omega) (by omega)))⟩,trivial⟩)
 <| fun p1=>.u 2 [b1,b3]<|
 .call (Qj1 s (Qab (Qac s) (l.take k)) ms kt.ok (by rw [kt.was];exact T.rows) kp.tree.rows)<|
 .u 4 [b1]<|
 .u 4 [b1,b2]<|
 .frz 14 [4,5] [4] [V1=V1,l.length=(prow (plR (Qac s).now (l.take k)) l.length).length] ⟨rfl,(Qrh (by rw [Qhc,W0g];omega)).symm,trivial⟩<|
 .f (.tup [.agg (stoA (runD s l)),.sl 6 false ((plR (Qac s).now l).map repA)]) [b2] (.tup [.agg [.sl 2 false ((Qa0 s (Qab (Qac s) (l.take k))).1.l.map chnA),.sl 2 false ((Qa0 s (Qab (Qac s) (l.take k))).1.nexts.map cntA),aI ((Qa0 s (Qab (Qac s) (l.take k))).1.stamp)],.sl 6 false (prow (plR (Qac s).now (l.take k)) l.length)]) (by
  unfold runD;rw [show l.take k=l from Qat (by omega),Zez (Qhc _ _)]
  first | exact sR | exact W2s ⟨sR,W2r _ _ _,trivial⟩)) a1 ha1)
theorem Ql5 {f g:Fsy} (okf:OkF f) (okg:OkF g):∀ c∈Qbl f g,OkCh c:=fun c hc=>by
 obtain ⟨i,hi,h⟩:=W2j.1 hc;have hI:I64 i:=by
  rcases Qim.1 hi with h | h
  ·obtain ⟨n,hn,rfl⟩:=W1j.1 h;exact (okf.2.2 n hn).1
  ·obtain ⟨n,hn,rfl⟩:=W1j.1 h;exact (okg.2.2 n hn).1
 unfold chgD at h
 split at h
 ·obtain rfl:=W0c h;exact ⟨hI,Qlr⟩
 ·rename_i hb
  split at h
  ·obtain rfl:=W0c h;exact ⟨hI,okg.2.2 _ (Qdk (Qgb (by simpa using hb)))⟩
  ·cases h
theorem Zfp {s:Sto} {B:Nat} (h:Fit s B) (hB:B≤5000) (hs:s.stamp<1152921504606847976):MidS s:=⟨h.ok,by have:=h.l;omega,by have:=h.n;omega,fun c hc=>by have:=h.r c hc;omega,hs⟩
theorem Qzc:Fit newS 1:=⟨Qlt,by decide,by decide,fun c h=>by obtain rfl:=W0z.1 h;decide⟩
theorem Zjv:MidS newS:=Zfp Qzc (by decide) (by decide)
theorem Zfh:Qa3 newS 1=newF:=by rfl
theorem Qdx:Qac newS=⟨1,newF,newF,[]⟩:=by unfold Qac;rw [show newS.stamp=1 from rfl,Zfh]
noncomputable def tA:Txn:=Qbb (Qac newS) cA
theorem Qth:tA=⟨1,newF,fA,Qdn ([]++Qbn newF cA)⟩:=by unfold tA;rw [Qdx];unfold Qbb;rw [doA1]
theorem Zm0:(0:Int)∈tA.looks:=by
 rw [Qth];show (0:Int)∈Qdn _;rw [Qey];unfold Qbn;rw [W1y (.inl rfl)];simp
theorem Zdh:¬ tA.was=tA.now:=by
 rw [Qth];intro h;have:=W1z Fsy.next h;rw [show (⟨1,newF,fA,Qdn ([]++Qbn newF cA)⟩:Txn).now=fA from rfl,Qjd.2.2.1] at this;exact absurd this (by decide)
theorem tA_len:tA.looks.length≤7:=Qtj (Qac newS) cA
theorem Zm1:OkT tA:=by
 have h:=tA_len;refine ⟨?_,?_,?_,by omega⟩<;>rw [Qth]
 ·exact Qzp (by decide) (by decide)
 ·exact Qrs
 ·exact Qjd.2.1
noncomputable def kA:Sto:=Qcy newS (Qbl newF fA) 3
theorem kA_run:runD newS [cA]=kA:=by
 unfold runD;rw [show Qab (Qac newS) [cA]=tA from rfl,Qc2 (Qad.2 Zdh) (Qad.2 ?_)]
 ·rw [Qth];show Qcy newS (Qbl newF fA) fA.next=kA;rw [Qjd.2.2.1];rfl
 ·rintro ⟨x,hx,_⟩;rw [Qth] at hx;rw [show (⟨1,newF,fA,Qdn ([]++Qbn newF cA)⟩:Txn).stamp=newS.stamp from rfl,Qpy Zb3] at hx;cases hx
theorem Zj5:kA.stamp=2:=rfl
theorem Zj6:kA.nexts=[⟨1,2⟩,⟨2,3⟩]:=by
 show Qc5 newS 3=_;rw [Qn6 (s:=newS) (next:=3) (c:=⟨1,2⟩) rfl (by decide)];rfl
theorem Qzo:Qeg kA tA:=by
 refine ⟨0,?_,Zm0⟩;rw [show tA.stamp=1 from by rw [Qth]];unfold Qbu;rw [W1y (.inr (by unfold Quf;rw [Zj6];rfl))];simp
theorem Zga:Fit kA 513:=by
 have hl:(Qbl newF fA).length≤257:=by
  have:=Qfq newF fA;have:=Qjd.1.1;have:=Zjw;omega
 have h:=Qzc.inst (Ql5 Qrs Qjd.2.1) (next:=3) (Qzp (by decide) (by decide)) (by decide) (by omega);have h2:kA.stamp=2:=rfl;exact ⟨h.ok,by have:=h.l;show kA.l.length≤_;unfold kA;omega,by have:=h.n;unfold kA;omega,fun c hc=>by have:=h.r c hc;omega⟩
theorem kA_mid:MidS kA:=Zfp Zga (by decide) (by decide)
def rA:Rep:=⟨0,2,0,0,[],[]⟩
theorem rA_eq:plR (Qac newS).now [cA]=[rA]:=by
 rw [Qdx];show [(doF newF cA).2]=_;rw [doA1];rfl
theorem fA_was:tA.was=newF:=by rw [Qth]
theorem fA_now:tA.now=fA:=by rw [Qth]
theorem Qcq:Qai prog 18 [.agg (txnA (Qac newS)),.agg (calA cA)] (.tup [.agg (txnA tA),.agg (repA rA)]):=by
 have h:=Qfj (Qac newS) cA (by rw [Qdx];exact Qrs) cA_ok (by rw [Qdx];exact Qfl) (by rw [Qdx];decide) (by show ([]:List Int).length≤_;simp);rw [show (doF (Qac newS).now cA).2=rA from by rw [Qdx,doA1];rfl] at h;exact h
theorem Zfi:TreeP (Qac newS).now:=by
 rw [Qdx];exact Zbl.1 ⟨Qfl,⟨Qjm,rfl,rfl,rfl,rfl⟩,fun p hp=>(by cases hp),fun i x hx=>(by cases i<;>cases hx)⟩
theorem Zd0:Qai prog 32 [.agg (stoA newS),.sl 8 false ([cA].map calA)] (.tup [.agg (stoA kA),.sl 6 false ([rA].map repA)]):=by
 have h:=Zi8 newS [cA] Zjv Zfi (by decide) (fun c h=>by obtain rfl:=W0z.1 h;exact cA_ok) (by rw [Qdx];decide);rw [kA_run,rA_eq] at h;exact h
theorem Zou:Qa0 kA tA=(kA,15):=Qd2 (Qad.2 Zdh) (Qau.2 Qzo)
theorem Qvd:Qai prog 30 [.agg (stoA kA),.agg (txnA tA)] (.tup [.agg (stoA kA),aI 15]):=by
 have h:=Qj1 kA tA kA_mid Zm1 (by rw [fA_was];exact Qfl) (by rw [fA_now];exact Qjd.1);rw [Zou] at h;exact h
end Go.Proofs.YtahlldgocpabjaaGreat
