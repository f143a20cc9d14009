import Derived.Test.YtkhodpknpligpaaGreatAl
import Derived.Test.YtkhodpknpligpaaGreatMrgZ
import Derived.Test.YtkhodpknpligpaaGreatMrgL
import Derived.Scope
import Derived.Test.YtkhodpknpligpaaGreatMrgW
import Derived.Test.YtkhodpknpligpaaGreatMrgT
import Derived.Test.YtkhodpknpligpaaGreatMrgV
import Derived.Test.YtkhodpknpligpaaGreatMrgY
set_option maxRecDepth 100000
set_option maxHeartbeats 8000000
set_option linter.unusedVariables false
set_option linter.unusedSimpArgs false
namespace Go.Proofs.YtkhodpknpligpaaGreat
open Go Go.RowKit Copyhold Go.Proofs.Tryz
theorem Qj2 {f:Fsy} (hf:fewF f):midF f:=by
 have:=hf.1;unfold midF;omega
def fewT (t:Txn):Prop:=fewF t.was∧fewF t.now∧t.looks.length≤300∧t.now.next<1152921504606846976∧txnP t
def Zdw (s:Sto):Prop:=few s∧Qcc s∧s.stamp<1152921504606846976∧fewF (Qcl s s.stamp)∧Qe3 (Qcl s s.stamp)∧(Qcl s s.stamp).next<1152921504606846976
def Qkw (s:Sto) (t:Txn):Prop:=∃ x∈Qdl s t.stamp,x∈t.looks
theorem Zbf (s:Sto) (st:Int):(Qdl s st).length≤s.l.length+1:=Zgx s st
theorem Qyx (t:Txn) (okt:OkT t):Qag prog 47 [.agg (txnA t)] (aB (dP (fewT t))):=by
 have hbl:=okt.len;exact Qac func47 (let R:AV:=aB (dP (fewT t));
 .new fun b1=>.r 1<|.u 2 [b1]<|
 .call (Qqm t.was okt.was)<|
 .r 2<|.br 7 (!(dP (fewF t.was))) (fun q1=>have q1:=notT q1;have p1:=booF q1;.r 17<|.r 1<|.f R [] (aB false) (by
  refine sF (fun h=>?_);obtain ⟨h1,h2,h3,h4,h5⟩:=h
  first | omega | (simp_all [Qaa];done) | (simp_all [Qaa];omega)))
 <| fun q1=>have q1:=notF q1;have p1:=booT q1;.u 2 [b1]<|
 .call (Qqm t.now okt.now)<|
 .r 3<|.br 13 (!(dP (fewF t.now))) (fun q2=>have q2:=notT q2;have p2:=booF q2;.r 11<|.r 1<|.f R [] (aB false) (by
  refine sF (fun h=>?_);obtain ⟨h1,h2,h3,h4,h5⟩:=h
  first | omega | (simp_all [Qaa];done) | (simp_all [Qaa];omega)))
 <| fun q2=>have q2:=notF q2;have p2:=booT q2;.u 3 [b1]<|
 .lm 16 t.looks intA<|.r 3<|.br 19 (decide ((t.looks.length:Int)>300)) (fun q3=>have p3:=decT q3;.r 5<|.r 1<|.f R [] (aB false) (by
  refine sF (fun h=>?_);obtain ⟨h1,h2,h3,h4,h5⟩:=h
  first | omega | (simp_all [Qaa];done) | (simp_all [Qaa];omega)))
 <| fun q3=>have p3:=decF q3;.u 5 [b1]<|
 .br 24 (decide (t.now.next≥1152921504606846976)) (fun q4=>have p4:=decT q4;.r 1<|.f R [] (aB false) (by
  refine sF (fun h=>?_);obtain ⟨h1,h2,h3,h4,h5⟩:=h
  first | omega | (simp_all [Qaa];done) | (simp_all [Qaa];omega)))
 <| fun q4=>have p4:=decF q4;.u 1 [b1]<|
 .call (Qkm t okt (Qj2 (Qaf.1 q1)) (Qj2 (Qaf.1 q2)))<|
 .r 1<|.f R [] (aB (dP (txnP t))) (by
  refine sE ?_;unfold fewT;simp only [Qaf] at *;constructor
  ·intro h;exact ⟨by assumption,by assumption,by omega,by omega,h⟩
  ·intro h;exact h.2.2.2.2))
theorem Qy5 (s:Sto) (oks:OkS s):Qag prog 46 [.agg (stoA s)] (aB (dP (Zdw s))):=by
 exact Qac func46 (let R:AV:=aB (dP (Zdw s));
 .new fun b1=>.r 1<|.u 1 [b1]<|
 .call (Zea s oks)<|
 .r 2<|.br 7 (!(dP (few s))) (fun q1=>have q1:=notT q1;have p1:=booF q1;.r 9<|.r 1<|.f R [] (aB false) (by
  refine sF (fun h=>?_);obtain ⟨h1,h2,h3,h4,h5,h6⟩:=h
  first | omega | (simp_all [Qaa];done) | (simp_all [Qaa];omega)))
 <| fun q1=>have q1:=notF q1;have p1:=booT q1;.u 1 [b1]<|
 .call (Ql8 s oks)<|
 .r 3<|.br 12 (!(dP (Qcc s))) (fun q2=>have q2:=notT q2;have p2:=booF q2;.r 4<|.r 1<|.f R [] (aB false) (by
  refine sF (fun h=>?_);obtain ⟨h1,h2,h3,h4,h5,h6⟩:=h
  first | omega | (simp_all [Qaa];done) | (simp_all [Qaa];omega)))
 <| fun q2=>have q2:=notF q2;have p2:=booT q2;.u 4 [b1]<|
 .br 16 (decide (s.stamp≥1152921504606846976)) (fun q3=>have p3:=decT q3;.r 1<|.f R [] (aB false) (by
  refine sF (fun h=>?_);obtain ⟨h1,h2,h3,h4,h5,h6⟩:=h
  first | omega | (simp_all [Qaa];done) | (simp_all [Qaa];omega)))
 <| fun q3=>have p3:=decF q3;.u 3 [b1,b1]<|
 .call (Qod s s.stamp oks (by have:=Qqn (Qaf.1 q1);omega))<|
 .new fun b2=>.u 1 [b2]<|
 .u 1 [b2]<|
 .call (Qqm (Qcl s s.stamp) (Qlt oks _))<|
 .r 1<|.br 23 (dP (fewF (Qcl s s.stamp))) (fun q4=>have p4:=booT q4;.u 1 [b2]<|
 .call (Qfv (Qcl s s.stamp) (Qlt oks _) (Qj2 (Qaf.1 q4)))<|
 .r 2<|.br 27 (dP (Qe3 (Qcl s s.stamp))) (fun q5=>have p5:=booT q5;.u 5 [b2]<|
 .f R [] (aB (decide (((Qcl s s.stamp).next)<1152921504606846976))) (by
  refine sE ?_;unfold Zdw;simp only [Qaf,W2m] at *;constructor
  ·intro h;exact ⟨by assumption,by assumption,by omega,by assumption,by assumption,h⟩
  ·intro h;exact h.2.2.2.2.2))
 <| fun q5=>have p5:=booF q5;.r 5<|.f R [] (aB false) (by
  refine sF (fun h=>?_);obtain ⟨h1,h2,h3,h4,h5,h6⟩:=h
  first | omega | (simp_all [Qaa];done) | (simp_all [Qaa];omega)))
 <| fun q4=>have p4:=booF q4;.r 9<|.f R [] (aB false) (by
  refine sF (fun h=>?_);obtain ⟨h1,h2,h3,h4,h5,h6⟩:=h
  first | omega | (simp_all [Qaa];done) | (simp_all [Qaa];omega)))
end Go.Proofs.YtkhodpknpligpaaGreat

namespace Go.Proofs.YtkhodpknpligpaaGreat
open Go Go.RowKit Go.Shelf Copyhold
attribute [local go_sem] Oper.semAt_some
theorem Qsg {D:Nat→Prop} {W:World} {t:Bool} {L:List Int} {A:Option Addr} {c:Nat} (h:Ra D W (.sl 1 t (L.map intA)) (.slice A L.length c)) {k:Nat} (hk:k<L.length) :
  ∃ b off,A=some ⟨b,off,none⟩∧b<W.heap.size∧D b∧W.cell? ⟨b,off+k,none⟩=some (.int .i64 L[k]):=by
 generalize hv:Value.slice A L.length c=v at h;cases h with
 | sl _ _ _ A' c' b off vs h1 h2 h3 h4 h5 h6=>
  injection hv with e1 e2 e3
  subst e1;obtain ⟨a1,a2,a3⟩:=h3 (by rw [W0a];omega);have hx:(L.map intA)[k]?=some (intA L[k]):=by rw [W0v,W0d hk];rfl
  have q:=h5 k _ 0 (aI L[k]) hx rfl;have r:=h6 k _ 0 (aI L[k]) hx rfl;have e:vs k 0=.int .i64 L[k]:=by generalize vs k 0=u at r;cases r;rfl
  refine ⟨b,off,a1,a3,a2,?_⟩;rw [e,Nat.mul_one,Nat.add_zero] at q;exact q.1
theorem Zma (n:Nat) (hn:1≤n) (l Bs n₀ c:Nat) (A:Option Addr) (L:List Int) (hlen:L.length≤140737488351232) (D:Nat→Prop) (J Jx:List Int→World→Prop)
  (hY:∀ pre x W,J pre W→pre.length<L.length→YieldAt Fence.wide (n-1) Tryz.prog l #[.int .i64 x] W fun e W'=>
   (e=.returned (.bool true)∧J (pre++[x]) W'∧Below n₀ W W')∨(e=.returned (.bool false)∧Jx (pre++[x]) W'))
  (W:World) (hn0:n₀≤W.heap.size) (hBs:W.cell? ⟨Bs,5,none⟩=some (.slice A L.length c)) (hE:Ra D W (.sl 1 false (L.map intA)) (.slice A L.length c)) (hD:∀ b,D b→b<n₀) (h0:J [] W) :
  CallsIn Fence.wide n Tryz.prog 128 #[.func (.yield l) #[] #[],.pointer (some ⟨Bs,0,none⟩)] W fun e W'=>(∃ v,e=.returned v) ∧
   ((∃ ys,ys=L∧J ys W')∨(∃ pre,pre <+: L∧Jx pre W')):=by
 have HE:=Lib.hid hE;have HD:=Lib.hid hD;clear hE hD;refine callsIn_of_wp Tryz.func128 rfl trivial ?_ rfl;simp only [Tryz.ntmps128,W2h,W0b,W0f,Nat.reduceAdd,Nat.reduceSub,Array.replicate_succ,Array.replicate_zero,List.push_toArray,List.append_toArray,W1v,List.cons_append]
 gi_wp2
 gi_loopw [8] (fun i wr=>∃ k:Nat,k≤L.length∧i=.int .i64 k∧J (L.take k) wr∧Below n₀ W wr∧W.heap.size≤wr.heap.size)
  (fun i _=>L.length-(intOf i).toNat)
 case atStart=>exact ⟨0,W0j _,rfl,by simpa using h0,Below.refl _ _,W0m _⟩
 case round=>
  obtain ⟨k,hk,rfl,hJs,hnx,hsz⟩:=hrel;by_cases hlt:k<L.length
  ·have hE':Ra D wr (.sl 1 false (L.map intA)) (.slice A L.length c):=HE.out.frame (fun _ h=>h) hsz (fun b hb _=>hnx.block b (HD.out b hb));obtain ⟨b,off,hA,hbk,_,hc1⟩:=Qsg hE' hlt;subst hA;have hst:L.take (k+1)=L.take k++[L[k]]:=W14 hlt;have HST:=Lib.hid hst;have hll:(L.take k).length<L.length:=by simp;omega
   obtain ⟨fn,tmps,assign,body,hy,hR⟩:=hY _ L[k] _ hJs hll;have HR:=Lib.hid hR;have HNX:=Lib.hid hnx;have HPP:Hid (L.take (k+1) <+: L):=Lib.hid (List.take_prefix _ _);clear hE' hst hll hR hnx hJs hY;generalize L[k]=x at *
   gi_wp2
   refine HR.out.mono ?_;rintro e W3 (⟨rfl,hJ3,hk3⟩ | ⟨rfl,hJx3⟩)
   ·have hn3:Below n₀ W W3:=HNX.out.trans hk3;have hs3:=hk3.size
    gi_wp2
    go_roundw
    case rel=>exact ⟨k+1,by omega,by go_num,by rw [HST.out];exact hJ3,hn3,by omega⟩
    case measure=>simp [intOf];omega
   ·gi_wp2
    refine bodyPost_ret (results_none rfl _ _ _) rfl ?_;exact ⟨⟨_,rfl⟩,.inr ⟨_,by rw [← HST.out];exact HPP.out,hJx3⟩⟩
  ·obtain rfl:k=L.length:=by omega
   have hfin:L.take L.length=L:=W12;have HF:=Lib.hid hfin;clear hfin
   gi_wp2
   go_end0
   exact ⟨⟨_,rfl⟩,.inl (by rw [← HF.out];exact ⟨_,rfl,hJs⟩)⟩
theorem Zj8 (n:Nat) (st n1 n2:Int) (s1 s2 v:Value) (w:World) :
  CallsIn Fence.wide n Tryz.prog 86 #[.agg #[.int .i64 st,s1,.int .i64 n1,s2,.int .i64 n2,v]] w fun e w'=>e=.returned (.func (.func 128) #[] #[.pointer (some ⟨w.heap.size,0,none⟩)])∧w'=w.alloc (.cells #[.int .i64 st,s1,.int .i64 n1,s2,.int .i64 n2,v] 41):=by
 refine callsIn_of_wp Tryz.func86 rfl trivial ?_ rfl;simp only [Tryz.ntmps86,W2h,W0b,W0f,Nat.reduceAdd,Nat.reduceSub,Array.replicate_succ,Array.replicate_zero,List.push_toArray,List.append_toArray,W1v,List.cons_append]
 gi_wp2
 go_ret
 exact ⟨rfl,rfl⟩
theorem Zc3 (n:Nat) (hn:1≤n) (Bs n₀ c:Nat) (A:Option Addr) (L:List Int) (hlen:L.length≤140737488351232) (D:Nat→Prop) (hD:∀ b,D b→b<n₀) (w:World) (hBs:Bs<w.heap.size) (hn₀:n₀≤w.heap.size)
  (hc:w.cell? ⟨Bs,5,none⟩=some (.slice A L.length c)) (hE:Ra D w (.sl 1 false (L.map intA)) (.slice A L.length c)) :
  SeqStopsK Fence.wide n Tryz.prog 128 #[.pointer (some ⟨Bs,0,none⟩)] (fun x:Int=>#[Value.int .i64 x]) (Below n₀) (fun ys=>ys=L) (fun pre=>pre <+: L) L.length w:=fun l J Jx W hW hJ _ hY h0=>
 Zma n hn l Bs n₀ c A L hlen D J Jx hY W (W09 hn₀ hW.size) ((hW.cell (p:=⟨Bs,5,none⟩) hBs).trans hc) (hE.frame (fun _ h=>h) hW.size (fun b hb hl=>hW.block b hl)) hD h0
end Go.Proofs.YtkhodpknpligpaaGreat

namespace Go.Proofs.YtkhodpknpligpaaGreat
open Go Go.RowKit Go.Shelf Copyhold
attribute [local go_sem] Oper.semAt_some
theorem Zjd (n:Nat) (hn:3≤n) (q0 q1 q2:Value) (st n1 n2:Int) (s1 s2:Value) (A:Option Addr) (c:Nat) (L R:List Int) (hlL:L.length≤140737488351232) (hlR:R.length≤1000000) (w:World) (D:Nat→Prop) (hD:∀ b,D b→b<w.heap.size)
  (hL:Ra D w (.sl 1 false (L.map intA)) (.slice A L.length c))
  (hS:∀ W,Below w.heap.size w W→CallsIn Fence.wide (n-1) Tryz.prog 211 #[.agg #[q0,q1,q2],.int .i64 st] W fun e W'=>∃ A' c',∃ D':Nat→Prop,e=.returned (.slice A' R.length c')∧Below W.heap.size W W'∧Ra D' W' (.sl 1 false (R.map intA)) (.slice A' R.length c')∧∀ b,D' b→b<W'.heap.size) :
  CallsIn Fence.wide n Tryz.prog 170 #[.agg #[q0,q1,q2],.agg #[.int .i64 st,s1,.int .i64 n1,s2,.int .i64 n2,.slice A L.length c]] w fun e W'=>e=.returned (.bool (decide (∃ x∈L,x∈R)))∧Below w.heap.size w W':=by
 have h1:1≤n:=by omega
 have HL:=Lib.hid hL;have HS:=Lib.hid hS;have HD:=Lib.hid hD;clear hL hS hD;refine callsIn_of_wp_marks Tryz.func170 rfl trivial ?_ rfl;simp only [Tryz.ntmps170,W2h,W0b,W0f,Nat.reduceAdd,Nat.reduceSub,Array.replicate_succ,Array.replicate_zero,List.push_toArray,List.append_toArray,W1v,List.cons_append]
 gi_wp2
 refine wpIn_wide.2 (wp_scope_straight ((wpIn_wide (n:=n)).1 ?_))
 gi_wp2_with (first
  | (
    refine ⟨trivial,?_⟩;gi_at_call 211;refine (HS.out _ (((Below.refl _ w).alloc (W0m _) _).alloc (by simp) _)).mono ?_;rintro e w1 ⟨A',c',D',rfl,hb1,hR,hD'⟩;have hsz:w.heap.size+1+1≤w1.heap.size:=by have:=hb1.size;simpa using this
    have hlt3:w.heap.size+1<w1.heap.size:=by omega
    have hblk:w1.heap[w.heap.size+1]?=some (.cells #[.int .i64 st,s1,.int .i64 n1,s2,.int .i64 n2,.slice A L.length c] 41):=by
     rw [hb1.block (w.heap.size+1) (by simp)];have:=heap_alloc_new (w.alloc (.cells #[q0,q1,q2] 25)) (.cells #[.int .i64 st,s1,.int .i64 n1,s2,.int .i64 n2,.slice A L.length c] 41);simpa using this
    have e0:w1.cell? ⟨w.heap.size+1,0,none⟩=some (.int .i64 st):=by simp [World.cell?,hblk]
    have e1:w1.cell? ⟨w.heap.size+1,1,none⟩=some s1:=by simp [World.cell?,hblk]
    have e2:w1.cell? ⟨w.heap.size+1,2,none⟩=some (.int .i64 n1):=by simp [World.cell?,hblk]
    have e3:w1.cell? ⟨w.heap.size+1,3,none⟩=some s2:=by simp [World.cell?,hblk]
    have e4:w1.cell? ⟨w.heap.size+1,4,none⟩=some (.int .i64 n2):=by simp [World.cell?,hblk]
    have e5:w1.cell? ⟨w.heap.size+1,5,none⟩=some (.slice A L.length c):=by simp [World.cell?,hblk]
    have HB1:=Lib.hid hb1;have HR:=Lib.hid (And.intro hR hD');clear hb1 hR hD' hblk)
  | (refine ⟨trivial,?_⟩;gi_at_call 86;refine (Zj8 (n-1) st n1 n2 s1 s2 (.slice A L.length c) _).mono ?_;rintro e w' ⟨rfl,rfl⟩))
 rename_i K0 hK0;refine wpIn_label (hK0 _ _ ?_);clear hK0 K0;obtain ⟨W3,hW3⟩:∃ W,W=(w1.alloc (.cells #[.slice A' R.length c'] 39)).alloc (.cells #[.bool false] 4):=⟨_,rfl⟩
 have hbW:Below w1.heap.size w1 W3:=by rw [hW3];exact ((Below.refl _ w1).alloc (W0m _) _).alloc (by simp) _
 have hs3:W3.heap.size=w1.heap.size+1+1:=by rw [hW3];simp
 have bS:Boxed W3 w1.heap.size 39 (.slice A' R.length c'):=by rw [hW3];exact (Boxed.new w1 _ _).alloc _
 have bF:Boxed W3 (w1.heap.size+1) 4 (.bool false):=by
  rw [hW3];have:=Boxed.new (w1.alloc (.cells #[.slice A' R.length c'] 39)) 4 (.bool false);simpa using this
 have f0:=(hbW.cell (p:=⟨w.heap.size+1,0,none⟩) hlt3).trans e0;have f1:=(hbW.cell (p:=⟨w.heap.size+1,1,none⟩) hlt3).trans e1;have f2:=(hbW.cell (p:=⟨w.heap.size+1,2,none⟩) hlt3).trans e2;have f3:=(hbW.cell (p:=⟨w.heap.size+1,3,none⟩) hlt3).trans e3;have f4:=(hbW.cell (p:=⟨w.heap.size+1,4,none⟩) hlt3).trans e4;have f5:=(hbW.cell (p:=⟨w.heap.size+1,5,none⟩) hlt3).trans e5;have hB13:Below w.heap.size w w1:=(((Below.refl w.heap.size w).alloc (W0m _) _).alloc (by simp) _).trans (HB1.out.mono (by simp;omega));have hB0:Below w.heap.size w W3:=hB13.trans (hbW.mono (by omega));have hR3:Ra D' W3 (.sl 1 false (R.map intA)) (.slice A' R.length c'):=HR.out.1.frame (fun _ h=>h) hbW.size (fun b hb hl=>hbW.block b hl);have hL3:Ra D W3 (.sl 1 false (L.map intA)) (.slice A L.length c):=HL.out.frame (fun _ h=>h) hB0.size (fun b hb hl=>hB0.block b hl);rw [← hW3];clear hW3;have HBX:=Lib.hid (And.intro bS (And.intro bF (And.intro hB0 (And.intro hR3 hL3))));clear e0 e1 e2 e3 e4 e5 bS bF hB0 hR3 hL3 hbW hB13
 gi_wp2_with (refine ⟨trivial,?_⟩;gi_at_call 86;refine (Zj8 (n-1) st n1 n2 s1 s2 (.slice A L.length c) _).mono ?_;rintro e w' ⟨rfl,rfl⟩)
 rename_i K0 hK0;have HK0:=Lib.hid hK0;clear hK0 hsz hlt3 f0 f1 f2 f3 f4;obtain ⟨bS,bF,hB0,hR3,hL3⟩:=HBX.out;obtain ⟨W4,hW4⟩:∃ W,W=W3.alloc (.cells #[.int .i64 st,s1,.int .i64 n1,s2,.int .i64 n2,.slice A L.length c] 41):=⟨_,rfl⟩
 have hb34:Below W3.heap.size W3 W4:=by rw [hW4];exact (Below.refl _ W3).alloc (W0m _) _
 have hs4:W4.heap.size=w1.heap.size+1+1+1:=by rw [hW4];simp [hs3]
 have bS4:Boxed W4 w1.heap.size 39 (.slice A' R.length c'):=by rw [hW4];exact bS.alloc _
 have bF4:Boxed W4 (w1.heap.size+1) 4 (.bool false):=by rw [hW4];exact bF.alloc _
 have hR4:Ra D' W4 (.sl 1 false (R.map intA)) (.slice A' R.length c'):=hR3.frame (fun _ h=>h) hb34.size (fun b hb hl=>hb34.block b hl);have hL4:Ra D W4 (.sl 1 false (L.map intA)) (.slice A L.length c):=hL3.frame (fun _ h=>h) hb34.size (fun b hb hl=>hb34.block b hl);have hc5:W4.cell? ⟨w1.heap.size+1+1,5,none⟩=some (.slice A L.length c):=by
  rw [hW4];have:=heap_alloc_new W3 (.cells #[.int .i64 st,s1,.int .i64 n1,s2,.int .i64 n2,.slice A L.length c] 41);rw [hs3] at this;simp [World.cell?,this]
 have hB04:Below w.heap.size w W4:=hB0.trans (hb34.mono (by have:=hB0.size;omega));have hww1:w.heap.size≤w1.heap.size:=by have:=HB1.out.size;simp at this;omega
 have hDn:∀ b,D b→b<w1.heap.size+1:=fun b hb=>by have:=HD.out b hb;omega
 have hDn':∀ b,D' b→b<w1.heap.size+1:=fun b hb=>by have:=HR.out.2 b hb;omega
 rw [← hW4];clear hW4 bS bF hB0 hR3 hL3 HBX hb34 f5 hs3 HL HS HR HB1 HD;refine wpIn_rangeFunc_ownG rfl h1 (gf:=128) (lb:=#[.pointer (some ⟨w1.heap.size+1+1,0,none⟩)]) rfl trivial (enters_of Tryz.func128 (by kernel_rfl) rfl)
  (Zc3 (n-1) (by omega) (w1.heap.size+1+1) (w1.heap.size+1) c A L hlL D hDn W4 (by omega) (by omega) hc5 hL4) belowK_t (belowK_b (by omega)) (Below.refl _ _) (fun _=>rfl)
  (fun (pre:List Int) W=>(Boxed W (w1.heap.size+1) 4 (.bool false)∧(∀ x∈pre,x ∉ R))∧Below (w1.heap.size+1) W4 W)
  (fun c (pre:List Int) W=>(c=.exit 0∧(∃ x∈pre,x∈R)∧Boxed W (w1.heap.size+1) 4 (.bool true))∧Below (w1.heap.size+1) W4 W)
  (OwnFrom.and (Own.from (fun s X Y row hs hg hr=>⟨boxed_own (w1.heap.size+1) 4 (fun (_:List Int)=>.bool false) s X Y row hs.1 hg hr,hs.2⟩) _) (ownFrom_below (by omega) (by omega)))
  (fun c=>OwnFrom.and (Own.from (fun s X Y row hs hg hr=>⟨hs.1,hs.2.1,boxed_own (w1.heap.size+1) 4 (fun (_:List Int)=>.bool true) s X Y row hs.2.2 hg hr⟩) _) (ownFrom_below (by omega) (by omega)))
  ⟨⟨bF4,by simp⟩,Below.refl _ _⟩
  (fun (x:Int)=>{ tmps:=#[.agg #[q0,q1,q2],.agg #[.int .i64 st,s1,.int .i64 n1,s2,.int .i64 n2,.slice A L.length c],.pointer (some ⟨w.heap.size,0,none⟩),.pointer (some ⟨w.heap.size+1,0,none⟩),.bool false,.pointer (some ⟨w1.heap.size,0,none⟩),.pointer (some ⟨w1.heap.size+1,0,none⟩),.int .i64 x,undef,undef,.agg #[q0,q1,q2],.pointer (some ⟨w.heap.size+1,0,none⟩),.int .i64 st,.slice A' R.length c',.agg #[.int .i64 st,s1,.int .i64 n1,s2,.int .i64 n2,.slice A L.length c],.func (.func 128) #[] #[.pointer (some ⟨w1.heap.size+1+1,0,none⟩)],.int .i64 x,undef,undef,undef,undef,undef,undef,undef,undef,undef,undef,undef],defers:=[] }) ?assign ?body ?done ?stop
 case assign=>
  intro l x W K hK
  gi_wp2
  exact hK
 case body=>
  rintro l pre x W ⟨⟨hF,hall⟩,hB⟩ hlt;have cS:=(hB.cell (p:=⟨w1.heap.size,0,none⟩) (Nat.lt_succ_self _)).trans bS4.cell;have cF:=hF.cell;have fF:=hF.frozen;have hRW:Ra D' W (.sl 1 false (R.map intA)) (.slice A' R.length c'):=hR4.frame (fun _ h=>h) hB.size (fun b hb hl=>hB.block b (hDn' b hb));have HRW:=Lib.hid hRW;have HKK:=Lib.hid HK0;clear hRW hR4 hL4 hc5 hB04 bS4 bF4 HK0
  gi_wp2
  gi_loopw [19] (fun i wr=>∃ k:Nat,k≤R.length∧i=.int .i64 k∧(∀ y∈R.take k,y ≠ x)∧wr=W)
   (fun i _=>R.length-(intOf i).toNat)
  case atStart=>exact ⟨0,W0j _,rfl,by simp,rfl⟩
  case round=>
   obtain ⟨k,hk,rfl,hne,rfl⟩:=hrel;by_cases hlt2:k<R.length
   ·obtain ⟨b,off,hA,hbk,_,hc1⟩:=Qsg HRW.out hlt2;subst hA;have hst:R.take (k+1)=R.take k++[R[k]]:=W14 hlt2;have HST:=Lib.hid hst;have HM:Hid (R[k]∈R):=Lib.hid (W1m hlt2);clear hst;generalize R[k]=y at *;by_cases hxy:y=x
    ·subst hxy
     gi_wp2
     exact ⟨(KeepsOthers.setCell wr ⟨w1.heap.size+1,0,none⟩ (.bool true)).from _,⟨rfl,⟨y,by simp,HM.out⟩,hF.set _⟩,hB.setCell (p:=⟨w1.heap.size+1,0,none⟩) (W0m _) _⟩
    ·gi_wp2
     go_roundw
     case rel=>exact ⟨k+1,by omega,by go_num,by rw [HST.out];intro z hz;rcases W04.1 hz with hz | hz;exact hne z hz;rw [W0z.1 hz];exact hxy,trivial⟩
     case measure=>simp [intOf];omega
   ·obtain rfl:k=R.length:=by omega
    gi_wp2
    exact ⟨KeepsFrom.refl _ _,Below.refl _ _,⟨hF,fun z hz=>(W04.1 hz).elim (hall z) (fun h hR=>by rw [W0z.1 h] at hR;exact hne x (by rw [W12];exact hR) rfl)⟩,hB⟩
 case done=>
  rintro D1 ys W hD1 rfl ⟨⟨hF,hall⟩,hB⟩ hK;have cF:=hF.cell;have hcc:=cell_kept cF (grownBy_putObj' _ D1 (.deferred none)) (fun r e=>by cases e;exact ⟨_,hK,rfl⟩)
  gi_wp2
  refine HK0.out _ _ ?_
  gi_wp2
  refine ⟨by simp,.inl ⟨_,_,rfl,run_takeDeferred hK,?_⟩⟩;refine ⟨_,results_tmp rfl _ _ _,?_,(hB04.trans (hB.mono (by omega))).trans (belowK_b (w:=w) (W0m _) W D1 _ _ (by omega) hK rfl rfl)⟩;have hh:(∃ x,x∈ys∧x∈R)=False:=by simp only [eq_iff_iff,iff_false];rintro ⟨x,hx,hr⟩;exact hall x hx hr
  simp [hh]
 case stop=>
  rintro D1 c pre W hD1 hpre ⟨⟨rfl,⟨x,hxm,hx⟩,hF⟩,hB⟩ hK;have cF:=hF.cell;have hcc:=cell_kept cF (grownBy_putObj' _ D1 (.deferred none)) (fun r e=>by cases e;exact ⟨_,hK,rfl⟩)
  gi_wp2
  refine HK0.out _ _ ?_
  gi_wp2
  refine ⟨by simp,.inl ⟨_,_,rfl,run_takeDeferred hK,?_⟩⟩;refine ⟨_,results_tmp rfl _ _ _,?_,(hB04.trans (hB.mono (by omega))).trans (belowK_b (w:=w) (W0m _) W D1 _ _ (by omega) hK rfl rfl)⟩;have hh:(∃ x,x∈L∧x∈R)=True:=eq_true ⟨x,hpre.subset hxm,hx⟩;simp [hh]
end Go.Proofs.YtkhodpknpligpaaGreat

namespace Go.Proofs.YtkhodpknpligpaaGreat
open Go Go.RowKit Copyhold Go.Proofs.Tryz
theorem Zby {D:Nat→Prop} {w:World} {cs:List AV} {v:Value} (h:Ra D w (.agg cs) v):∃ vs:Array Value,v=.agg vs∧cs.length=vs.size∧∀ (j:Nat) (x:AV) (u:Value),cs[j]?=some x→vs[j]?=some u→Ra D w x u:=by
 cases h with
 | agg cs vs h1 h2 h3=>exact ⟨vs,rfl,h1,h3⟩
theorem Qwk {D:Nat→Prop} {w:World} {L:List Int} {t:Bool} {v:Value} (h:Ra D w (.sl 1 t (L.map intA)) v):∃ A c,v=.slice A L.length c:=by
 generalize hx:(AV.sl 1 t (L.map intA))=x at h;cases h<;>cases hx;exact ⟨_,_,by rw [W0a]⟩
theorem Qt8 {D:Nat→Prop} {w:World} {u v:Value} (h:Ra D w (.val u) v):v=u:=by
 cases h;rfl
theorem arr2 {vs:Array Value} (h:2=vs.size):∃ a b,vs=#[a,b]:=by
 rcases vs with ⟨l⟩
 match l,h with
 | [a,b],_=>exact ⟨a,b,rfl⟩
theorem arr3 {vs:Array Value} (h:3=vs.size):∃ a b c,vs=#[a,b,c]:=by
 rcases vs with ⟨l⟩
 match l,h with
 | [a,b,c],_=>exact ⟨a,b,c,rfl⟩
theorem arr6 {vs:Array Value} (h:6=vs.size):∃ a b c d e f,vs=#[a,b,c,d,e,f]:=by
 rcases vs with ⟨l⟩
 match l,h with
 | [a,b,c,d,e,f],_=>exact ⟨a,b,c,d,e,f,rfl⟩
theorem Qz5 (s:Sto) (t:Txn) (oks:OkS s) (hf:s.l.length≤100000) (okt:OkT t):Qag prog 170 [.agg (stoA s),.agg (txnA t)] (aB (dP (Qkw s t))):=by
 intro D w vs hD hvs;obtain ⟨hlen,hv⟩:=hvs;obtain ⟨v0,v1,rfl⟩:=arr2 hlen;have r0:=hv 0 _ v0 rfl rfl;obtain ⟨vs1,rfl,hl1,h1⟩:=Zby (hv 1 _ v1 rfl rfl);obtain ⟨vs0,rfl,hl0,h0⟩:=Zby r0;obtain ⟨q0,q1,q2,rfl⟩:=arr3 hl0;obtain ⟨a0,a1,a2,a3,a4,a5,rfl⟩:=arr6 hl1;obtain rfl:=Qt8 (h1 0 _ a0 rfl rfl);obtain rfl:=Qt8 (h1 2 _ a2 rfl rfl);obtain rfl:=Qt8 (h1 4 _ a4 rfl rfl);have r5:=h1 5 _ a5 rfl rfl;obtain ⟨A,c,rfl⟩:=Qwk r5;have hbl:=okt.len;have hsl:=Zbf s t.stamp;refine (callsIn_wide (n:=3)).1 ((Zjd 3 (W0m _) q0 q1 q2 t.stamp t.was.next t.now.next a1 a3 A c t.looks (Qdl s t.stamp) (by omega) (by omega) w D hD r5 ?_).mono ?_)
 ·intro W hW;refine (callsIn_wide.2 (Qyq s t.stamp oks hf D W #[.agg #[q0,q1,q2],.int .i64 t.stamp] (fun b hb=>W08 (hD b hb) hW.size) ⟨rfl,fun j x v hj hvj=>?_⟩)).mono ?_
  ·match j,hj,hvj with
   | 0,hj,hvj=>cases hj;cases hvj;exact r0.frame (fun _ h=>h) hW.size (fun b hb hl=>hW.block b hl)
   | 1,hj,hvj=>cases hj;cases hvj;exact .val _
  ·rintro e W' ⟨v,D',rfl,hb,_,hD',hr⟩;obtain ⟨A',c',rfl⟩:=Qwk hr;exact ⟨A',c',D',rfl,hb,hr,fun b hb=>(hD' b hb).1⟩
 ·rintro e w' ⟨rfl,hb⟩;refine ⟨_,D,rfl,hb,fun _ h=>h,fun b h=>⟨W08 (hD b h) hb.size,.inl h⟩,?_⟩;have e:decide (∃ x∈t.looks,x∈Qdl s t.stamp)=dP (Qkw s t):=by
   by_cases h:∃ x∈t.looks,x∈Qdl s t.stamp
   ·obtain ⟨x,h1,h2⟩:=h;rw [Qaf.2 ⟨x,h2,h1⟩];exact decide_eq_true ⟨x,h1,h2⟩
   ·rw [decide_eq_false h];exact (Qaa.2 (fun ⟨x,h2,h1⟩=>h ⟨x,h1,h2⟩)).symm
  rw [e];exact .val _
structure MidS (s:Sto):Prop where
 ok:OkS s
 l:s.l.length≤5000
 nexts:s.nexts.length≤5000
 rows:∀ c∈s.l,c.l.length≤5000
 stamp:s.stamp<1152921504606847976
noncomputable def Qa6 (s:Sto) (t:Txn):Sto × Int:=
 if dP (t.was=t.now)=true then (s,0) else if dP (Qkw s t)=true then (s,15) else (Qea s (Qbi t.was t.now) t.now.next,0)
theorem Qii {s:Sto} {t:Txn} (h:dP (t.was=t.now)=true):Qa6 s t=(s,0):=by unfold Qa6;rw [W1x h]
theorem Qgz {s:Sto} {t:Txn} (h:dP (t.was=t.now)=false) (h2:dP (Qkw s t)=true):Qa6 s t=(s,15):=by unfold Qa6;rw [W1w (by rw [h];decide),W1x h2]
theorem Qf4 {s:Sto} {t:Txn} (h:dP (t.was=t.now)=false) (h2:dP (Qkw s t)=false):Qa6 s t=(Qea s (Qbi t.was t.now) t.now.next,0):=by unfold Qa6;rw [W1w (by rw [h];decide),W1w (by rw [h2];decide)]
theorem Qvk (s:Sto) (t:Txn) (ms:MidS s) (okt:OkT t) (hw:Qat t.was) (hn:Qat t.now):Qag prog 145 [.agg (stoA s),.agg (txnA t)] (.tup [.agg (stoA (Qa6 s t).1),aI (Qa6 s t).2]):=by
 exact Qac func145 (
 .new fun b1=>.new fun b2=>.new fun b3=>.r 1<|.u 1 [b2]<|
 .call (Zdo t okt)<|
 .br 7 (dP (t.was=t.now)) (fun q1=>have p1:=booT q1;.u 3 [b1,b3]<|
 .f (.tup [.agg (stoA (Qa6 s t).1),aI (Qa6 s t).2]) [b3] (.tup [.agg (stoA s),aI 0]) (by
  rw [Qii q1];exact sR))
 <| fun q1=>have p1:=booF q1;.u 2 [b1,b2]<|
 .call (Qz5 s t ms.ok (by have:=ms.l;omega) okt)<|
 .br 11 (dP (Qkw s t)) (fun q2=>have p2:=booT q2;.u 3 [b1,b3]<|
 .f (.tup [.agg (stoA (Qa6 s t).1),aI (Qa6 s t).2]) [b3] (.tup [.agg (stoA s),aI 15]) (by
  rw [Qgz q1 q2];exact sR))
 <| fun q2=>have p2:=booF q2;.ord [0,1,2,3,4,6,7,8,5,9,10,11]<|.u 8 [b1,b2,b2,b2]<|
 .call (Qp1 t.was t.now okt.was okt.now (by have:=hw.1;omega) (by have:=hn.1;omega) (Qah hw) (Qah hn))<|
 .call (Qsh s (Qbi t.was t.now) t.now.next ms.ok ms.l (by have:=Qik t.was t.now;have:=hw.1;have:=hn.1;omega) ms.nexts ms.rows ms.stamp)<|
 .u 2 [b3]<|
 .f (.tup [.agg (stoA (Qa6 s t).1),aI (Qa6 s t).2]) [b3] (.tup [.agg [.sl 2 false ((Qea s (Qbi t.was t.now) t.now.next).l.map chnA),.sl 2 false ((Qea s (Qbi t.was t.now) t.now.next).nexts.map cntA),aI ((Qea s (Qbi t.was t.now) t.now.next).stamp)],aI 0]) (by
  rw [Qf4 q1 q2];exact sR))
noncomputable def Zj0:Txn→List Cal→Txn
 | t,[]=>t
 | t,c :: r=>Zj0 (Qdw t c) r
structure KeptT (t u:Txn) (k:Nat):Prop where
 now:KeptN t.now u.now k
 ok:OkT u
 was:u.was=t.was
 len:u.looks.length≤t.looks.length+7*k
theorem Qx3 {s:Sto} (oks:OkS s):OkT (Qas s):=⟨oks.1,Qlt oks _,Qlt oks _,by show ([]:List Int).length≤_;simp⟩
noncomputable def runD (s:Sto) (l:List Cal):Sto:=(Qa6 s (Zj0 (Qas s) l)).1
theorem Qo6 {f g:Fsy} (okf:OkF f) (okg:OkF g):∀ c∈Qbi f g,OkCh c:=fun c hc=>by
 obtain ⟨i,hi,h⟩:=W2i.1 hc;have hI:I64 i:=by
  rcases Qg5.1 hi with h | h
  ·obtain ⟨n,hn,rfl⟩:=W1i.1 h;exact (okf.2.2 n hn).1
  ·obtain ⟨n,hn,rfl⟩:=W1i.1 h;exact (okg.2.2 n hn).1
 unfold chgD at h
 split at h
 ·obtain rfl:=W0c h;exact ⟨hI,Qj1⟩
 ·rename_i hb
  split at h
  ·obtain rfl:=W0c h;exact ⟨hI,okg.2.2 _ (Qdh (Qf7 (by simpa using hb)))⟩
  ·cases h
theorem Zcx {s:Sto} {B:Nat} (h:Fit s B) (hB:B≤5000) (hs:s.stamp<1152921504606847976):MidS s:=⟨h.ok,by have:=h.l;omega,by have:=h.n;omega,fun c hc=>by have:=h.r c hc;omega,hs⟩
theorem Qwv:Fit newS 1:=⟨Zcq,by decide,by decide,fun c h=>by obtain rfl:=W0z.1 h;decide⟩
theorem Qp3:MidS newS:=Zcx Qwv (by decide) (by decide)
theorem Zcp:Qcl newS 1=newF:=by rfl
theorem Qon:Qas newS=⟨1,newF,newF,[]⟩:=by unfold Qas;rw [show newS.stamp=1 from rfl,Zcp]
noncomputable def tA:Txn:=Qdw (Qas newS) cA
theorem Qyk:tA=⟨1,newF,fA,Qda ([]++Qcr newF cA)⟩:=by unfold tA;rw [Qon];unfold Qdw;rw [doA1]
theorem tA_not:¬ tA.was=tA.now:=by
 rw [Qyk];intro h;have:=W1y Fsy.next h;rw [show (⟨1,newF,fA,Qda ([]++Qcr newF cA)⟩:Txn).now=fA from rfl,Qf1.2.2.1] at this;exact absurd this (by decide)
theorem Zjz:tA.looks.length≤7:=Ql0 (Qas newS) cA
theorem tA_ok:OkT tA:=by
 have h:=Zjz;refine ⟨?_,?_,?_,by omega⟩<;>rw [Qyk]
 ·exact Qw9 (by decide) (by decide)
 ·exact Qul
 ·exact Qf1.2.1
noncomputable def kA:Sto:=Qea newS (Qbi newF fA) 3
theorem kA_fit:Fit kA 513:=by
 have hl:(Qbi newF fA).length≤257:=by
  have:=Qik newF fA;have:=Qf1.1.1;have:=Zhw;omega
 have h:=Qwv.inst (Qo6 Qul Qf1.2.1) (next:=3) (Qw9 (by decide) (by decide)) (by decide) (by omega);have h2:kA.stamp=2:=rfl;exact ⟨h.ok,by have:=h.l;show kA.l.length≤_;unfold kA;omega,by have:=h.n;unfold kA;omega,fun c hc=>by have:=h.r c hc;omega⟩
theorem kA_mid:MidS kA:=Zcx kA_fit (by decide) (by decide)
def rA:Rep:=⟨0,2,0,0,[],[]⟩
theorem fA_was:tA.was=newF:=by rw [Qyk]
theorem Zkm:tA.now=fA:=by rw [Qyk]
structure Udw where
 client:Int
 epoch:Int
 seq:Int
 n:Int
 t:Txn
 last:Rep
 until_:Int
structure Hos where
 s:Sto
 rows:List TRow
 opens:List Udw
 now:Int
 lease:Int
structure Msg where
 kind:Int
 client:Int
 epoch:Int
 seq:Int
 n:Int
 stamp:Int
 c:Cal
structure Rsp where
 kind:Int
 client:Int
 epoch:Int
 seq:Int
 n:Int
 r:Rep
def opA (o:Udw):List AV:=[aI o.client,aI o.epoch,aI o.seq,aI o.n]++txnA o.t++repA o.last++[aI o.until_]
def hosA (h:Hos):List AV:=stoA h.s++[.sl 4 false (h.rows.map trA),.sl 17 false (h.opens.map opA),aI h.now,aI h.lease]
def msgA (m:Msg):List AV:=[aI m.kind,aI m.client,aI m.epoch,aI m.seq,aI m.n,aI m.stamp]++calA m.c
def rspA (r:Rsp):List AV:=[aI r.kind,aI r.client,aI r.epoch,aI r.seq,aI r.n]++repA r.r
def fs0:Fsy:=⟨[],0⟩
def tx0:Txn:=⟨0,fs0,fs0,[]⟩
def wr1 (n:Int):Int:=IntKind.i64.wrap (n+1)
theorem addW {P:Program} {t:TypeId} {a:Int} (D:Nat→Prop) (w:World) (xo yo:Operand) (u v:Value) (hu:Ra D w (aI a) u) (hv:Ra D w (aI 1) v) :
  ∃ r,((do Go.eqGuard .add t xo yo u v;Go.binOp .add t u v):Sem Value).run P w=.ok r w∧Ra D w (aI (wr1 a)) r:=by
 cases hu;cases hv;exact ⟨_,by simp [eqGuard,binOp,Op.intArith,wr1],.val _⟩
def rp0:Rep:=⟨0,0,0,0,[],[]⟩
def op0:Udw:=⟨0,0,0,0,tx0,rp0,0⟩
structure OkOp (o:Udw):Prop where
 client:I64 o.client
 epoch:I64 o.epoch
 seq:I64 o.seq
 n:I64 o.n
 until_:I64 o.until_
 t:OkT o.t
 looks:o.t.looks.length≤80000
 was:Qat o.t.was
 now:Qat o.t.now
 next:o.t.now.next<4611686018427387904
structure OkH (h:Hos):Prop where
 s:MidS h.s
 rows:OkRw h.rows
 many:h.rows.length≤80000
 each:∀ r∈h.rows,r.l.length≤80000
 opens:h.opens.length≤80000
 op:∀ o∈h.opens,OkOp o
 now:-4611686018427387000≤h.now∧h.now≤4611686018427387000
 lease:-4611686018427387000≤h.lease∧h.lease≤4611686018427387000
structure OkM (m:Msg):Prop where
 kind:I64 m.kind
 client:I64 m.client
 epoch:I64 m.epoch
 seq:I64 m.seq
 n:I64 m.n
 stamp:I64 m.stamp
 c:OkCal m.c
def plO (l:List Udw) (n:Int):Nat:=(Qax (l.map fun x=>x.client) n).1
def thO (l:List Udw) (n:Int):Bool:=(Qax (l.map fun x=>x.client) n).2
theorem Qgl (l:List Udw) (n:Int):plO l n≤l.length:=by have:=(Qd5 (l.map fun x=>x.client) n).1;rwa [W0a] at this
theorem Qgk {l:List Udw} {n:Int} (h:thO l n=true):plO l n<l.length:=by have:=(Qd5 (l.map fun x=>x.client) n).2 (show (Qax (l.map fun x=>x.client) n).2=true from h);rwa [W0a] at this
def Qbn (h:Hos) (n:Int):Udw × Bool:=if thO h.opens n=true then ((h.opens[plO h.opens n]?).getD op0,true) else (op0,false)
theorem Qqb {h:Hos} {n:Int} (q:thO h.opens n=false):Qbn h n=(op0,false):=W1w (by rw [q];decide)
theorem Qje {h:Hos} {n:Int} {x:Udw} (q:thO h.opens n=true) (hx:h.opens[plO h.opens n]?=some x):Qbn h n=(x,true):=by unfold Qbn;rw [W1x q,hx];rfl
theorem Zdq {h:Hos} {n:Int} (q:(Qbn h n).2=true):(Qbn h n).1∈h.opens:=by
 cases ht:thO h.opens n with
 | false=>rw [Qqb ht] at q;cases q
 | true=>
  obtain ⟨x,hx⟩:=Qdk (Qgk ht);rw [Qje ht hx];exact W0h hx
def Qad (h:Hos) (m:Msg):Udw × Bool:=if (Qbn h m.client).2=true∧(Qbn h m.client).1.epoch=m.epoch∧(Qbn h m.client).1.seq=m.seq then ((Qbn h m.client).1,true) else (op0,false)
theorem Qet {h:Hos} {m:Msg} (q:(Qad h m).2=true):Qad h m=((Qbn h m.client).1,true)∧(Qbn h m.client).1∈h.opens∧(Qbn h m.client).1.epoch=m.epoch∧(Qbn h m.client).1.seq=m.seq:=by
 unfold Qad at q ⊢
 split at q
 ·rename_i g;rw [W1x g];exact ⟨rfl,Zdq g.1,g.2⟩
 ·cases q
def Qa3 (h:Hos) (n:Int) (l:List Udw):Hos:=⟨h.s,h.rows,h.opens.take (plO h.opens n)++l++h.opens.drop (plO h.opens n+if thO h.opens n=true then 1 else 0),h.now,h.lease⟩
def Qcb (h:Hos) (o:Udw) (m:Msg):Bool:=decide (o.until_<h.now)||(decide (m.kind=2∨m.kind=3)&&(o.t.stamp != m.stamp))
def offH (h:Hos) (m:Msg):Hos:=if (Qad h m).2=true then Qa3 h m.client [] else h
def decH (h:Hos) (m:Msg) (s:Sto) (yes old:Bool):Hos × Int:=
 if ¬ (Qa0 h.rows m.client m.epoch m.seq yes).2.2=0 then (h,(Qa0 h.rows m.client m.epoch m.seq yes).2.2)
 else (⟨s,(Qa0 h.rows m.client m.epoch m.seq yes).1,(offH h m).opens,h.now,h.lease⟩,if yes=true then 0 else if old=true then 16 else 15)
def Qcw (kind:Int) (yes:Bool):Int:=if kind=1∨kind=2 then 7 else if yes=true then 0 else 15
noncomputable def Qbp (h:Hos) (m:Msg):Udw:=⟨m.client,m.epoch,m.seq,0,Qas h.s,rp0,h.now+h.lease⟩
def repS (st:Int):Rep:=⟨0,st,0,0,[],[]⟩
noncomputable def Qbo (h:Hos) (m:Msg):Hos × Rep × Int:=
 if (Qad h m).2=true then (h,repS (Qad h m).1.t.stamp,0)
 else if (Qbn h m.client).2=true∧(Qbn h m.client).1.epoch≥m.epoch∧¬ (Qbn h m.client).1.until_<h.now then (h,rp0,20)
 else if (Qbn h m.client).2=false∧h.opens.length≥64 then (h,rp0,12)
 else (Qa3 h m.client [Qbp h m],repS h.s.stamp,0)
noncomputable def Qdn (h:Hos) (m:Msg):Udw:=⟨(Qad h m).1.client,(Qad h m).1.epoch,(Qad h m).1.seq,m.n,Qdw (Qad h m).1.t m.c,(doF (Qad h m).1.t.now m.c).2,h.now+h.lease⟩
noncomputable def Qcv (h:Hos) (m:Msg):Hos × Rep × Int:=
 if (Qad h m).2=false then (h,rp0,6)
 else if Qcb h (Qad h m).1 m=true then (h,rp0,16)
 else if m.n=(Qad h m).1.n then (h,(Qad h m).1.last,0)
 else if ¬ m.n=wr1 (Qad h m).1.n then (h,rp0,1)
 else (Qa3 h m.client [Qdn h m],(doF (Qad h m).1.t.now m.c).2,0)
def oldH (h:Hos) (m:Msg):Bool:=(Qad h m).2&&Qcb h (Qad h m).1 m
noncomputable def Qb2 (h:Hos) (m:Msg):Hos × Int:=
 if (Qad h m).2=false∨oldH h m=true∨¬ (Qad h m).1.n=m.n then decH h m h.s false (oldH h m)
 else decH h m (Qa6 h.s (Qad h m).1.t).1 ((Qa6 h.s (Qad h m).1.t).2==0) false
def askH (h:Hos) (m:Msg):Hos × Int:=
 if (Qad h m).2=true∧Qcb h (Qad h m).1 m=false then (h,20) else decH h m h.s false false
noncomputable def Qid (h:Hos) (m:Msg):Hos × Rep × Int:=
 if m.kind=1 then Qbo h m else if m.kind=2 then Qcv h m else if m.kind=3 then ((Qb2 h m).1,rp0,(Qb2 h m).2)
 else if m.kind=4 then ((decH h m h.s false false).1,rp0,(decH h m h.s false false).2) else ((askH h m).1,rp0,(askH h m).2)
noncomputable def ansH (h:Hos) (m:Msg):Hos × Rep × Int:=
 if m.kind=6 then (⟨h.s,(Qbg h.rows m.client m.epoch m.seq).1,h.opens,h.now,h.lease⟩,rp0,(Qbg h.rows m.client m.epoch m.seq).2)
 else if (askF h.rows m.client m.epoch m.seq).2=6∧1≤m.kind∧m.kind≤5 then Qid h m
 else if ¬ (askF h.rows m.client m.epoch m.seq).2=0∧¬ (askF h.rows m.client m.epoch m.seq).2=6 then (h,rp0,(askF h.rows m.client m.epoch m.seq).2)
 else if ¬ (1≤m.kind∧m.kind≤5) then (h,rp0,1)
 else (h,rp0,Qcw m.kind (askF h.rows m.client m.epoch m.seq).1)
noncomputable def rspH (h:Hos) (m:Msg):Rsp:=
 if (ansH h m).2.2=0 then ⟨m.kind,m.client,m.epoch,m.seq,m.n,(ansH h m).2.1⟩
 else ⟨m.kind,m.client,m.epoch,m.seq,if m.kind=2 then -1 else m.n,⟨(ansH h m).2.2,0,0,0,[],[]⟩⟩
theorem op_eq {x y:Udw} (h1:x.client=y.client) (h2:x.epoch=y.epoch) (h3:x.seq=y.seq) (h4:x.n=y.n) (h5:x.t=y.t) (h6:x.last=y.last) (h7:x.until_=y.until_):x=y:=by cases x;cases y;simp_all
theorem hos_eq {x y:Hos} (h1:x.s=y.s) (h2:x.rows=y.rows) (h3:x.opens=y.opens) (h4:x.now=y.now) (h5:x.lease=y.lease):x=y:=by cases x;cases y;simp_all
theorem Zcj (x:Udw):Qag prog 88 [.agg [aI x.client,aI x.epoch,aI x.seq,aI x.n,aI x.t.stamp,.sl 5 false (x.t.was.l.map nodA),aI x.t.was.next,.sl 5 false (x.t.now.l.map nodA),aI x.t.now.next,.sl 1 false (x.t.looks.map intA),aI x.last.e,aI x.last.a,aI x.last.b,aI x.last.n,aS x.last.text,.sl 1 false (x.last.names.map txA),aI x.until_]] (aI x.client):=by
 exact Qac func88 (
 .new fun b1=>.r 1<|.u 3 [b1]<|
 .fi (aI x.client) [])
theorem Que (l:List Udw) (n:Int) (hl:l.length≤100000):Qag prog 87 [.sl 17 false (l.map opA),.val (.func (.func 88) #[] #[]),aI n] (.tup [aI ((Qax (l.map fun x=>x.client) n).1:Int),aB (Qax (l.map fun x=>x.client) n).2]):=by
 exact Qac func87 (
 .r 2<|.r 2<|.lm 12 l opA<|.r 1<|let L1:Lp (Nat):=⟨fun a1=>⟨[(0,.sl 17 false (l.map opA)),(1,.val (.func (.func 88) #[] #[])),(2,aI n),(11,.sl 17 false (l.map opA)),(12,aI (l.length:Int)),(13,aI (a1:Int))],[]⟩,fun a1=>l.length-a1,fun a1=>a1≤l.length∧Qaz (fun _ (c:Udw)=>c.client<n) l a1⟩
 .lp L1 0 ⟨W0j _,Qaz.zero _ _⟩ [(13,aI 0)] [] ⟨sR,sR,sR,sR,sR,sO,trivial⟩ trivial fun a1 ha1=>
 (fun (k:Nat) (hH1:k≤l.length∧Qaz (fun _ (c:Udw)=>c.client<n) l k)=>.r 1<|.bd 14 ((k:Int)<(l.length:Int)) (fun p1=>.r 1<|.idxM l opA k (m:=(k:Int)) rfl (by omega) fun x1 hx1=>
 .r 1<|.new fun b1=>.u 2 [b1]<|
 .u 2 [b1]<|
 .call (Zcj x1)<|
 .r 1<|.r 3<|.bd 23 (x1.client≥n) (fun p2=>.r 6<|.f (.tup [aI ((Qax (l.map fun x=>x.client) n).1:Int),aB (Qax (l.map fun x=>x.client) n).2]) [] (.tup [aI (k:Int),aB (x1.client==n)]) (by
  rw [Qhm (m:=x1.client) (Qn6 hH1.2) (by rw [W0v,hx1];rfl) (by omega)];exact sR))
 <| fun p2=>.run 2 [rng .i64 ((k:Int)+1)] ⟨Qal,trivial⟩<|
 .bk L1 k (k+1) ⟨by omega,hH1.2.step hx1 (by omega)⟩ (show l.length-(k+1)<l.length-k from (by omega)) [(13,aI ((k:Int)+1))] [] ⟨sR,sR,sR,sR,sR,sO,trivial⟩ trivial)
 <| fun p1=>.r 2<|.lm 30 l opA<|.r 2<|.f (.tup [aI ((Qax (l.map fun x=>x.client) n).1:Int),aB (Qax (l.map fun x=>x.client) n).2]) [] (.tup [aI (l.length:Int),aB false]) (by
  rw [Qjz (k:=k) (Qn6 hH1.2) (by rw [W0a];omega),W0a];exact sR)) a1 ha1)
theorem Qtg (h:Hos) (n:Int) (hl:h.opens.length≤100000):Qag prog 48 [.agg [.sl 2 false (h.s.l.map chnA),.sl 2 false (h.s.nexts.map cntA),aI h.s.stamp,.sl 4 false (h.rows.map trA),.sl 17 false (h.opens.map opA),aI h.now,aI h.lease],aI n] (.tup [aI (plO h.opens n:Int),aB (thO h.opens n)]):=by
 exact Qac func48 (let R:AV:=.tup [aI (plO h.opens n:Int),aB (thO h.opens n)];
 .new fun b1=>.r 2<|.u 3 [b1]<|
 .call (Que h.opens n hl)<|
 .r 4<|.fi R [])
theorem Qow (h:Hos) (n:Int) (hl:h.opens.length≤100000):Qag prog 18 [.agg [.sl 2 false (h.s.l.map chnA),.sl 2 false (h.s.nexts.map cntA),aI h.s.stamp,.sl 4 false (h.rows.map trA),.sl 17 false (h.opens.map opA),aI h.now,aI h.lease],aI n] (.tup [.agg (opA (Qbn h n).1),aB (Qbn h n).2]):=by
 exact Qac func18 (
 .new fun b1=>.new fun b2=>.r 1<|.u 2 [b1]<|
 .call (Qtg h n (by omega))<|
 .r 5<|.r 2<|.br 15 (!(thO h.opens n)) (fun q1=>have q1:=notT q1;have p1:=booF q1;.u 3 [b2]<|
 .f (.tup [.agg (opA (Qbn h n).1),aB (Qbn h n).2]) [b2] (.tup [.agg [aI 0,aI 0,aI 0,aI 0,aI 0,aN,aI 0,aN,aI 0,aN,aI 0,aI 0,aI 0,aI 0,aS ([]),aN,aI 0],aB false]) (by
  rw [Qqb q1];exact W2q ⟨W2r ⟨sR,sR,sR,sR,sR,Sub.nil _ _,sR,Sub.nil _ _,sR,Sub.nil _ _,sR,sR,sR,sR,sR,Sub.nil _ _,sR,trivial⟩,sR,trivial⟩))
 <| fun q1=>have q1:=notF q1;have p1:=booT q1;.u 3 [b1]<|
 .idxM h.opens opA (plO h.opens n) (m:=(plO h.opens n:Int)) rfl (Qgk (by assumption)) fun x1 hx1=>
 .u 3 [b2]<|
 .f (.tup [.agg (opA (Qbn h n).1),aB (Qbn h n).2]) [b2] (.tup [.agg [aI x1.client,aI x1.epoch,aI x1.seq,aI x1.n,aI x1.t.stamp,.sl 5 false (x1.t.was.l.map nodA),aI x1.t.was.next,.sl 5 false (x1.t.now.l.map nodA),aI x1.t.now.next,.sl 1 false (x1.t.looks.map intA),aI x1.last.e,aI x1.last.a,aI x1.last.b,aI x1.last.n,aS x1.last.text,.sl 1 false (x1.last.names.map txA),aI x1.until_],aB true]) (by
  rw [Qje q1 hx1];exact sR))
theorem Qd4 (h:Hos) (m:Msg) (hl:h.opens.length≤100000):Qag prog 142 [.agg [.sl 2 false (h.s.l.map chnA),.sl 2 false (h.s.nexts.map cntA),aI h.s.stamp,.sl 4 false (h.rows.map trA),.sl 17 false (h.opens.map opA),aI h.now,aI h.lease],.agg [aI m.kind,aI m.client,aI m.epoch,aI m.seq,aI m.n,aI m.stamp,aI m.c.kind,aI m.c.ino,aI m.c.to,aI m.c.at_,aI m.c.many,aS m.c.name,aS m.c.name2,aS m.c.text]] (.tup [.agg (opA (Qad h m).1),aB (Qad h m).2]):=by
 exact Qac func142 (
 .new fun b1=>.new fun b2=>.new fun b3=>.r 1<|.u 3 [b1,b2]<|
 .call (Qow h m.client (by omega))<|
 .r 3<|.new fun b4=>.u 2 [b4]<|
 .r 3<|.br 17 (!((Qbn h m.client).2)) (fun q1=>have q1:=notT q1;have p1:=booF q1;.r 13<|.u 3 [b3]<|
 .f (.tup [.agg (opA (Qad h m).1),aB (Qad h m).2]) [b3] (.tup [.agg [aI 0,aI 0,aI 0,aI 0,aI 0,aN,aI 0,aN,aI 0,aN,aI 0,aI 0,aI 0,aI 0,aS ([]),aN,aI 0],aB false]) (by
  rw [show Qad h m=(op0,false) from W1w (fun hc=>by obtain ⟨c1,c2,c3⟩:=hc;simp_all)];exact W2q ⟨W2r ⟨sR,sR,sR,sR,sR,Sub.nil _ _,sR,Sub.nil _ _,sR,Sub.nil _ _,sR,sR,sR,sR,sR,Sub.nil _ _,sR,trivial⟩,sR,trivial⟩))
 <| fun q1=>have q1:=notF q1;have p1:=booT q1;.u 7 [b4,b2]<|
 .bn 24 ((Qbn h m.client).1.epoch) m.epoch (fun p2=>.r 6<|.u 3 [b3]<|
 .f (.tup [.agg (opA (Qad h m).1),aB (Qad h m).2]) [b3] (.tup [.agg [aI 0,aI 0,aI 0,aI 0,aI 0,aN,aI 0,aN,aI 0,aN,aI 0,aI 0,aI 0,aI 0,aS ([]),aN,aI 0],aB false]) (by
  rw [show Qad h m=(op0,false) from W1w (fun hc=>by obtain ⟨c1,c2,c3⟩:=hc;simp_all)];exact W2q ⟨W2r ⟨sR,sR,sR,sR,sR,Sub.nil _ _,sR,Sub.nil _ _,sR,Sub.nil _ _,sR,sR,sR,sR,sR,Sub.nil _ _,sR,trivial⟩,sR,trivial⟩))
 <| fun p2=>.u 6 [b4,b2]<|
 .bn 30 ((Qbn h m.client).1.seq) m.seq (fun p3=>.u 3 [b3]<|
 .f (.tup [.agg (opA (Qad h m).1),aB (Qad h m).2]) [b3] (.tup [.agg [aI 0,aI 0,aI 0,aI 0,aI 0,aN,aI 0,aN,aI 0,aN,aI 0,aI 0,aI 0,aI 0,aS ([]),aN,aI 0],aB false]) (by
  rw [show Qad h m=(op0,false) from W1w (fun hc=>by obtain ⟨c1,c2,c3⟩:=hc;simp_all)];exact W2q ⟨W2r ⟨sR,sR,sR,sR,sR,Sub.nil _ _,sR,Sub.nil _ _,sR,Sub.nil _ _,sR,sR,sR,sR,sR,Sub.nil _ _,sR,trivial⟩,sR,trivial⟩))
 <| fun p3=>.u 3 [b4,b3]<|
 .f (.tup [.agg (opA (Qad h m).1),aB (Qad h m).2]) [b3] (.tup [.agg [aI ((Qbn h m.client).1.client),aI ((Qbn h m.client).1.epoch),aI ((Qbn h m.client).1.seq),aI ((Qbn h m.client).1.n),aI ((Qbn h m.client).1.t.stamp),.sl 5 false ((Qbn h m.client).1.t.was.l.map nodA),aI ((Qbn h m.client).1.t.was.next),.sl 5 false ((Qbn h m.client).1.t.now.l.map nodA),aI ((Qbn h m.client).1.t.now.next),.sl 1 false ((Qbn h m.client).1.t.looks.map intA),aI ((Qbn h m.client).1.last.e),aI ((Qbn h m.client).1.last.a),aI ((Qbn h m.client).1.last.b),aI ((Qbn h m.client).1.last.n),aS ((Qbn h m.client).1.last.text),.sl 1 false ((Qbn h m.client).1.last.names.map txA),aI ((Qbn h m.client).1.until_)],aB true]) (by
  rw [show Qad h m=((Qbn h m.client).1,true) from W1x ⟨q1,by simp_all,by simp_all⟩];exact sR))
theorem Qe9 (h:Hos) (x:Udw):Qag prog 51 [.agg [.sl 2 false (h.s.l.map chnA),.sl 2 false (h.s.nexts.map cntA),aI h.s.stamp,.sl 4 false (h.rows.map trA),.sl 17 false (h.opens.map opA),aI h.now,aI h.lease],.agg [aI x.client,aI x.epoch,aI x.seq,aI x.n,aI x.t.stamp,.sl 5 false (x.t.was.l.map nodA),aI x.t.was.next,.sl 5 false (x.t.now.l.map nodA),aI x.t.now.next,.sl 1 false (x.t.looks.map intA),aI x.last.e,aI x.last.a,aI x.last.b,aI x.last.n,aS x.last.text,.sl 1 false (x.last.names.map txA),aI x.until_]] (aB (decide (x.until_<h.now))):=by
 exact Qac func51 (let R:AV:=aB (decide (x.until_<h.now));
 .new fun b1=>.new fun b2=>.r 1<|.u 6 [b2,b1]<|
 .fi R [])
theorem Qmv (h:Hos) (x:Udw) (m:Msg):Qag prog 143 [.agg [.sl 2 false (h.s.l.map chnA),.sl 2 false (h.s.nexts.map cntA),aI h.s.stamp,.sl 4 false (h.rows.map trA),.sl 17 false (h.opens.map opA),aI h.now,aI h.lease],.agg [aI x.client,aI x.epoch,aI x.seq,aI x.n,aI x.t.stamp,.sl 5 false (x.t.was.l.map nodA),aI x.t.was.next,.sl 5 false (x.t.now.l.map nodA),aI x.t.now.next,.sl 1 false (x.t.looks.map intA),aI x.last.e,aI x.last.a,aI x.last.b,aI x.last.n,aS x.last.text,.sl 1 false (x.last.names.map txA),aI x.until_],.agg [aI m.kind,aI m.client,aI m.epoch,aI m.seq,aI m.n,aI m.stamp,aI m.c.kind,aI m.c.ino,aI m.c.to,aI m.c.at_,aI m.c.many,aS m.c.name,aS m.c.name2,aS m.c.text]] (aB (Qcb h x m)):=by
 exact Qac func143 (
 .new fun b1=>.new fun b2=>.new fun b3=>.r 1<|.u 2 [b3]<|
 .r 2<|.be 9 m.kind 2 (fun p1=>.u 2 [b1,b2]<|
 .call (Qe9 h x)<|
 .r 1<|.bd 16 (x.until_<h.now) (fun p2=>.r 8<|.f (aB (Qcb h x m)) [] (aB true) (by exact W2n (W1y aB (by unfold Qcb;rw [decide_eq_true (show x.until_<h.now from by omega)];rfl))))
 <| fun p2=>.u 8 [b2,b3]<|
 .f (aB (Qcb h x m)) [] (aB (x.t.stamp != m.stamp)) (by exact W2n (W1y aB (by unfold Qcb;rw [decide_eq_false (show ¬ x.until_<h.now from by omega),decide_eq_true (show m.kind=2∨m.kind=3 from by omega),W0u,Bool.true_and]))))
 <| fun p1=>.r 2<|.be 11 m.kind 3 (fun p3=>.u 2 [b1,b2]<|
 .call (Qe9 h x)<|
 .r 1<|.bd 16 (x.until_<h.now) (fun p4=>.r 8<|.f (aB (Qcb h x m)) [] (aB true) (by exact W2n (W1y aB (by unfold Qcb;rw [decide_eq_true (show x.until_<h.now from by omega)];rfl))))
 <| fun p4=>.u 8 [b2,b3]<|
 .f (aB (Qcb h x m)) [] (aB (x.t.stamp != m.stamp)) (by exact W2n (W1y aB (by unfold Qcb;rw [decide_eq_false (show ¬ x.until_<h.now from by omega),decide_eq_true (show m.kind=2∨m.kind=3 from by omega),W0u,Bool.true_and]))))
 <| fun p3=>.u 2 [b1,b2]<|
 .call (Qe9 h x)<|
 .r 1<|.f (aB (Qcb h x m)) [] (aB (decide (x.until_<h.now))) (by exact W2n (W1y aB (by unfold Qcb;rw [decide_eq_false (show ¬ (m.kind=2∨m.kind=3) from by omega),Bool.false_and,W01]))))
theorem Qkv (k:Int) (y:Bool):Qag prog 110 [aI k,aB y] (aI (Qcw k y)):=by
 exact Qac func110 (
 .r 1<|.r 1<|.r 2<|.be 6 k 1 (fun p1=>.r 1<|.f (aI (Qcw k y)) [] (aI 7) (by exact W2n (W1y aI (by unfold Qcw;simp_all))))
 <| fun p1=>.r 2<|.be 8 k 2 (fun p2=>.r 1<|.f (aI (Qcw k y)) [] (aI 7) (by exact W2n (W1y aI (by unfold Qcw;simp_all))))
 <| fun p2=>.r 1<|.bb 10 y (fun p3=>.r 1<|.f (aI (Qcw k y)) [] (aI 0) (by exact W2n (W1y aI (by unfold Qcw;simp_all))))
 <| fun p3=>.r 1<|.f (aI (Qcw k y)) [] (aI 15) (by exact W2n (W1y aI (by unfold Qcw;simp_all))))
end Go.Proofs.YtkhodpknpligpaaGreat
