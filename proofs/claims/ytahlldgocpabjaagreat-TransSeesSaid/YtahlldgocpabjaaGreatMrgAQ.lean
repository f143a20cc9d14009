import Derived.Test.YtahlldgocpabjaaGreatMrgAP
import Derived.Test.YtahlldgocpabjaaGreatMrgQ
import Derived.Scope
import Derived.Test.YtahlldgocpabjaaGreatMrgAJ
import Derived.Test.YtahlldgocpabjaaGreatMrgAE
set_option maxRecDepth 100000
set_option maxHeartbeats 8000000
set_option linter.unusedVariables false
set_option linter.unusedSimpArgs false
namespace Go.Proofs.YtahlldgocpabjaaGreat
open Go Go.RowKit Copyhold Go.Proofs.Tryz
theorem Zmo {f:Fsy} (hf:fewF f):midF f:=by
 have:=hf.1;unfold midF;omega
def Zav (s:Sto):Prop:=few s∧Qcf s∧s.stamp<1152921504606846976∧fewF (Qb5 s s.stamp)∧Qlt (Qb5 s s.stamp)∧(Qb5 s s.stamp).next<1152921504606846976
def Qft (s:Sto) (t:Txn):Prop:=∃ x∈Qbz s t.stamp,x∈t.looks
theorem Qso (s:Sto) (st:Int):(Qbz s st).length≤s.l.length+1:=Zhm s st
theorem Qz0 (s:Sto) (oks:OkS s):Qah prog 16 [.agg (stoA s)] (aB (dP (Zav s))):=by
 exact Qab func16 (let R:AV:=aB (dP (Zav s));
 .new fun b1=>.r 1<|.u 1 [b1]<|
 .call (Zfn s oks)<|
 .r 2<|.br 7 (!(dP (few s))) (fun q1=>have q1:=notT q1;have p1:=booF q1;.r 9<|.r 1<|.f R [] (aB false) (by
  refine sF (fun h=>?_);obtain ⟨h1,h2,h3,h4,h5,h6⟩:=h
  first | omega | (simp_all [Qac];done) | (simp_all [Qac];omega)))
 <| fun q1=>have q1:=notF q1;have p1:=booT q1;.u 1 [b1]<|
 .call (Qve s oks)<|
 .r 3<|.br 12 (!(dP (Qcf s))) (fun q2=>have q2:=notT q2;have p2:=booF q2;.r 4<|.r 1<|.f R [] (aB false) (by
  refine sF (fun h=>?_);obtain ⟨h1,h2,h3,h4,h5,h6⟩:=h
  first | omega | (simp_all [Qac];done) | (simp_all [Qac];omega)))
 <| fun q2=>have q2:=notF q2;have p2:=booT q2;.u 4 [b1]<|
 .br 16 (decide (s.stamp≥1152921504606846976)) (fun q3=>have p3:=decT q3;.r 1<|.f R [] (aB false) (by
  refine sF (fun h=>?_);obtain ⟨h1,h2,h3,h4,h5,h6⟩:=h
  first | omega | (simp_all [Qac];done) | (simp_all [Qac];omega)))
 <| fun q3=>have p3:=decF q3;.u 3 [b1,b1]<|
 .call (Qij s s.stamp oks (by have:=Qym (Qax.1 q1);omega))<|
 .new fun b2=>.u 1 [b2]<|
 .u 1 [b2]<|
 .call (Zjc (Qb5 s s.stamp) (Qmm oks _))<|
 .r 1<|.br 23 (dP (fewF (Qb5 s s.stamp))) (fun q4=>have p4:=booT q4;.u 1 [b2]<|
 .call (Qvm (Qb5 s s.stamp) (Qmm oks _) (Zmo (Qax.1 q4)))<|
 .r 2<|.br 27 (dP (Qlt (Qb5 s s.stamp))) (fun q5=>have p5:=booT q5;.u 5 [b2]<|
 .f R [] (aB (decide (((Qb5 s s.stamp).next)<1152921504606846976))) (by
  refine sE ?_;unfold Zav;simp only [Qax,decide_eq_true_eq] at *;constructor
  ·intro h;exact ⟨by assumption,by assumption,by omega,by assumption,by assumption,h⟩
  ·intro h;exact h.2.2.2.2.2))
 <| fun q5=>have p5:=booF q5;.r 5<|.f R [] (aB false) (by
  refine sF (fun h=>?_);obtain ⟨h1,h2,h3,h4,h5,h6⟩:=h
  first | omega | (simp_all [Qac];done) | (simp_all [Qac];omega)))
 <| fun q4=>have p4:=booF q4;.r 9<|.f R [] (aB false) (by
  refine sF (fun h=>?_);obtain ⟨h1,h2,h3,h4,h5,h6⟩:=h
  first | omega | (simp_all [Qac];done) | (simp_all [Qac];omega)))
theorem Qvr (s:Sto) (t:Txn) (oks:OkS s) (hf:s.l.length≤100000) (okt:OkT t):Qah prog 37 [.agg (stoA s),.agg (txnA t)] (aB (dP (Qft s t))):=by
 have hbl:=okt.len;have hsl:=Qso s t.stamp;exact Qab func37 (let R:AV:=aB (dP (Qft s t));
 .new fun b1=>.new fun b2=>.r 1<|.u 3 [b1,b2]<|
 .call (Qvc s t.stamp oks hf)<|
 .r 1<|.r 1<|let L1:Lp (Nat):=⟨fun a1=>⟨[(3,.ptr 3 b2 0),(5,.sl 1 false ((Qbz s t.stamp).map intA)),(6,aI (a1:Int))],[(3,.box b2 31 (txnA t))]⟩,fun a1=>(Qbz s t.stamp).length-a1,fun a1=>a1≤(Qbz s t.stamp).length∧Qa6 (fun _ x=>¬ x∈t.looks) (Qbz s t.stamp) a1⟩
 .lp L1 0 ⟨Nat.zero_le _,Qa6.zero _ _⟩ [(6,aI 0)] [] ⟨sR,sR,sO,trivial⟩ bb1 fun a1 ha1=>
 (fun (k:Nat) (hH1:k≤(Qbz s t.stamp).length∧Qa6 (fun _ x=>¬ x∈t.looks) (Qbz s t.stamp) k)=>.r 3<|.lm 14 (Qbz s t.stamp) intA<|.r 1<|.bd 15 ((k:Int)<((Qbz s t.stamp).length:Int)) (fun p1=>.r 1<|.ex (Qdo (l:=(Qbz s t.stamp)) (k:=k) (by omega)) fun x1 hx1=>
 let L2:Lp (Nat):=⟨fun a2=>⟨[(3,.ptr 3 b2 0),(5,.sl 1 false ((Qbz s t.stamp).map intA)),(6,aI (k:Int)),(7,aI (a2:Int))],[(3,.box b2 31 (txnA t))]⟩,fun a2=>t.looks.length-a2,fun a2=>a2≤t.looks.length∧Qa6 (fun _ y=>¬ x1=y) t.looks a2⟩
 .lp L2 0 ⟨Nat.zero_le _,Qa6.zero _ _⟩ [(7,aI 0)] [] ⟨sR,sR,sR,sO,trivial⟩ bb1 fun a2 ha2=>
 (fun (j:Nat) (hH2:j≤t.looks.length∧Qa6 (fun _ y=>¬ x1=y) t.looks j)=>.u 4 [b2]<|
 .lm 21 t.looks intA<|.r 1<|.bd 22 ((j:Int)<(t.looks.length:Int)) (fun p2=>.ord [0,1,2,3,4,5,6,7,8,9]<|.r 2<|.idx k (m:=(k:Int)) (xs:=(Qbz s t.stamp).map intA) (e:=intA x1) rfl (map_some hx1)<|
 .u 4 [b2]<|
 .idxM t.looks intA j (m:=(j:Int)) rfl (by omega) fun x2 hx2=>
 .r 2<|.be 34 x1 x2 (fun p3=>.r 1<|.f (aB (dP (Qft s t))) [] (aB true) (by
  refine sT ?_;refine ⟨x1,List.mem_of_getElem? hx1,?_⟩;have e:x1=x2:=by simp_all
  rw [e];exact List.mem_of_getElem? hx2))
 <| fun p3=>.run 3 [rng .i64 ((j:Int)+1)] ⟨Qaj (by omega) (by omega),trivial⟩<|
 .bk L2 j (j+1) ⟨by omega,hH2.2.step hx2 (by simp_all;try omega)⟩ (show t.looks.length-(j+1)<t.looks.length-j from (by omega)) [(7,aI ((j:Int)+1))] [] ⟨sR,sR,sR,sO,trivial⟩ bb1)
 <| fun p2=>.run 3 [rng .i64 ((k:Int)+1)] ⟨Qaj (by omega) (by omega),trivial⟩<|
 .bk L1 k (k+1) ⟨by omega,hH1.2.step hx1 (fun hm=>by obtain ⟨i,hi⟩:=List.getElem?_of_mem hm;exact (hH2.2.full (by omega)) i _ hi rfl)⟩ (show (Qbz s t.stamp).length-(k+1)<(Qbz s t.stamp).length-k from (by omega)) [(6,aI ((k:Int)+1))] [] ⟨sR,sR,sO,trivial⟩ bb1) a2 ha2)
 <| fun p1=>.r 1<|.f R [] (aB false) (by
  refine sF (fun h=>?_);obtain ⟨x,h1,h2⟩:=h;obtain ⟨i,hi⟩:=List.getElem?_of_mem h1;exact (hH1.2.full (by omega)) i x hi h2)) a1 ha1)
end Go.Proofs.YtahlldgocpabjaaGreat

namespace Go.Proofs.YtahlldgocpabjaaGreat
open Go Go.RowKit Go.Shelf Copyhold
attribute [local go_sem] Oper.semAt_some
theorem Qti {D:Nat→Prop} {W:World} {t:Bool} {L:List Int} {A:Option Addr} {c:Nat} (h:Ra D W (.sl 1 t (L.map intA)) (.slice A L.length c)) {k:Nat} (hk:k<L.length) :
  ∃ b off,A=some ⟨b,off,none⟩∧b<W.heap.size∧D b∧W.cell? ⟨b,off+k,none⟩=some (.int .i64 L[k]):=by
 generalize hv:Value.slice A L.length c=v at h;cases h with
 | sl _ _ _ A' c' b off vs h1 h2 h3 h4 h5 h6=>
  injection hv with e1 e2 e3
  subst e1;obtain ⟨a1,a2,a3⟩:=h3 (by rw [List.length_map];omega);have hx:(L.map intA)[k]?=some (intA L[k]):=by rw [List.getElem?_map,List.getElem?_eq_getElem hk];rfl
  have q:=h5 k _ 0 (aI L[k]) hx rfl;have r:=h6 k _ 0 (aI L[k]) hx rfl;have e:vs k 0=.int .i64 L[k]:=by generalize vs k 0=u at r;cases r;rfl
  refine ⟨b,off,a1,a3,a2,?_⟩;rw [e,Nat.mul_one,Nat.add_zero] at q;exact q.1
theorem Zmr (n:Nat) (hn:1≤n) (l Bs n₀ c:Nat) (A:Option Addr) (L:List Int) (hlen:L.length≤140737488351232) (D:Nat→Prop) (J Jx:List Int→World→Prop)
  (hY:∀ pre x W,J pre W→pre.length<L.length→YieldAt Fence.wide (n-1) Tryz.prog l #[.int .i64 x] W fun e W'=>
   (e=.returned (.bool true)∧J (pre++[x]) W'∧Below n₀ W W')∨(e=.returned (.bool false)∧Jx (pre++[x]) W'))
  (W:World) (hn0:n₀≤W.heap.size) (hBs:W.cell? ⟨Bs,5,none⟩=some (.slice A L.length c)) (hE:Ra D W (.sl 1 false (L.map intA)) (.slice A L.length c)) (hD:∀ b,D b→b<n₀) (h0:J [] W) :
  CallsIn Fence.wide n Tryz.prog 83 #[.func (.yield l) #[] #[],.pointer (some ⟨Bs,0,none⟩)] W fun e W'=>(∃ v,e=.returned v) ∧
   ((∃ ys,ys=L∧J ys W')∨(∃ pre,pre <+: L∧Jx pre W')):=by
 have HE:=Lib.hid hE;have HD:=Lib.hid hD;clear hE hD;refine callsIn_of_wp Tryz.func83 rfl trivial ?_ rfl;simp only [Tryz.ntmps83,List.size_toArray,List.length_cons,List.length_nil,Nat.reduceAdd,Nat.reduceSub,Array.replicate_succ,Array.replicate_zero,List.push_toArray,List.append_toArray,List.nil_append,List.cons_append]
 gi_wp2
 gi_loopw [8] (fun i wr=>∃ k:Nat,k≤L.length∧i=.int .i64 k∧J (L.take k) wr∧Below n₀ W wr∧W.heap.size≤wr.heap.size)
  (fun i _=>L.length-(intOf i).toNat)
 case atStart=>exact ⟨0,Nat.zero_le _,rfl,by simpa using h0,Below.refl _ _,Nat.le_refl _⟩
 case round=>
  obtain ⟨k,hk,rfl,hJs,hnx,hsz⟩:=hrel;by_cases hlt:k<L.length
  ·have hE':Ra D wr (.sl 1 false (L.map intA)) (.slice A L.length c):=HE.out.frame (fun _ h=>h) hsz (fun b hb _=>hnx.block b (HD.out b hb));obtain ⟨b,off,hA,hbk,_,hc1⟩:=Qti hE' hlt;subst hA;have hst:L.take (k+1)=L.take k++[L[k]]:=List.take_succ_eq_append_getElem hlt;have HST:=Lib.hid hst;have hll:(L.take k).length<L.length:=by simp;omega
   obtain ⟨fn,tmps,assign,body,hy,hR⟩:=hY _ L[k] _ hJs hll;have HR:=Lib.hid hR;have HNX:=Lib.hid hnx;have HPP:Hid (L.take (k+1) <+: L):=Lib.hid (List.take_prefix _ _);clear hE' hst hll hR hnx hJs hY;generalize L[k]=x at *
   gi_wp2
   refine HR.out.mono ?_;rintro e W3 (⟨rfl,hJ3,hk3⟩ | ⟨rfl,hJx3⟩)
   ·have hn3:Below n₀ W W3:=HNX.out.trans hk3;have hs3:=hk3.size
    gi_wp2
    go_roundw
    case rel=>exact ⟨k+1,by omega,by go_num,by rw [HST.out];exact hJ3,hn3,by omega⟩
    case measure=>simp [intOf];omega
   ·gi_wp2
    refine bodyPost_ret (results_none rfl _ _ _) rfl ?_;exact ⟨⟨_,rfl⟩,.inr ⟨_,by rw [← HST.out];exact HPP.out,hJx3⟩⟩
  ·obtain rfl:k=L.length:=by omega
   have hfin:L.take L.length=L:=List.take_length;have HF:=Lib.hid hfin;clear hfin
   gi_wp2
   go_end0
   exact ⟨⟨_,rfl⟩,.inl (by rw [← HF.out];exact ⟨_,rfl,hJs⟩)⟩
theorem Zkr (n:Nat) (st n1 n2:Int) (s1 s2 v:Value) (w:World) :
  CallsIn Fence.wide n Tryz.prog 45 #[.agg #[.int .i64 st,s1,.int .i64 n1,s2,.int .i64 n2,v]] w fun e w'=>e=.returned (.func (.func 83) #[] #[.pointer (some ⟨w.heap.size,0,none⟩)])∧w'=w.alloc (.cells #[.int .i64 st,s1,.int .i64 n1,s2,.int .i64 n2,v] 31):=by
 refine callsIn_of_wp Tryz.func45 rfl trivial ?_ rfl;simp only [Tryz.ntmps45,List.size_toArray,List.length_cons,List.length_nil,Nat.reduceAdd,Nat.reduceSub,Array.replicate_succ,Array.replicate_zero,List.push_toArray,List.append_toArray,List.nil_append,List.cons_append]
 gi_wp2
 go_ret
 exact ⟨rfl,rfl⟩
theorem Zeg (n:Nat) (hn:1≤n) (Bs n₀ c:Nat) (A:Option Addr) (L:List Int) (hlen:L.length≤140737488351232) (D:Nat→Prop) (hD:∀ b,D b→b<n₀) (w:World) (hBs:Bs<w.heap.size) (hn₀:n₀≤w.heap.size)
  (hc:w.cell? ⟨Bs,5,none⟩=some (.slice A L.length c)) (hE:Ra D w (.sl 1 false (L.map intA)) (.slice A L.length c)) :
  SeqStopsK Fence.wide n Tryz.prog 83 #[.pointer (some ⟨Bs,0,none⟩)] (fun x:Int=>#[Value.int .i64 x]) (Below n₀) (fun ys=>ys=L) (fun pre=>pre <+: L) L.length w:=fun l J Jx W hW hJ _ hY h0=>
 Zmr n hn l Bs n₀ c A L hlen D J Jx hY W (Nat.le_trans hn₀ hW.size) ((hW.cell (p:=⟨Bs,5,none⟩) hBs).trans hc) (hE.frame (fun _ h=>h) hW.size (fun b hb hl=>hW.block b hl)) hD h0
end Go.Proofs.YtahlldgocpabjaaGreat

namespace Go.Proofs.YtahlldgocpabjaaGreat
open Go Go.RowKit Go.Shelf Copyhold
attribute [local go_sem] Oper.semAt_some
theorem Zj1 (n:Nat) (hn:3≤n) (q0 q1 q2:Value) (st n1 n2:Int) (s1 s2:Value) (A:Option Addr) (c:Nat) (L R:List Int) (hlL:L.length≤140737488351232) (hlR:R.length≤1000000) (w:World) (D:Nat→Prop) (hD:∀ b,D b→b<w.heap.size)
  (hL:Ra D w (.sl 1 false (L.map intA)) (.slice A L.length c))
  (hS:∀ W,Below w.heap.size w W→CallsIn Fence.wide (n-1) Tryz.prog 62 #[.agg #[q0,q1,q2],.int .i64 st] W fun e W'=>∃ A' c',∃ D':Nat→Prop,e=.returned (.slice A' R.length c')∧Below W.heap.size W W'∧Ra D' W' (.sl 1 false (R.map intA)) (.slice A' R.length c')∧∀ b,D' b→b<W'.heap.size) :
  CallsIn Fence.wide n Tryz.prog 36 #[.agg #[q0,q1,q2],.agg #[.int .i64 st,s1,.int .i64 n1,s2,.int .i64 n2,.slice A L.length c]] w fun e W'=>e=.returned (.bool (decide (∃ x∈L,x∈R)))∧Below w.heap.size w W':=by
 have h1:1≤n:=by omega
 have HL:=Lib.hid hL;have HS:=Lib.hid hS;have HD:=Lib.hid hD;clear hL hS hD;refine callsIn_of_wp_marks Tryz.func36 rfl trivial ?_ rfl;simp only [Tryz.ntmps36,List.size_toArray,List.length_cons,List.length_nil,Nat.reduceAdd,Nat.reduceSub,Array.replicate_succ,Array.replicate_zero,List.push_toArray,List.append_toArray,List.nil_append,List.cons_append]
 gi_wp2
 refine wpIn_wide.2 (wp_scope_straight ((wpIn_wide (n:=n)).1 ?_))
 gi_wp2_with (first
  | (
    refine ⟨trivial,?_⟩;gi_at_call 62;refine (HS.out _ (((Below.refl _ w).alloc (Nat.le_refl _) _).alloc (by simp) _)).mono ?_;rintro e w1 ⟨A',c',D',rfl,hb1,hR,hD'⟩;have hsz:w.heap.size+1+1≤w1.heap.size:=by have:=hb1.size;simpa using this
    have hlt3:w.heap.size+1<w1.heap.size:=by omega
    have hblk:w1.heap[w.heap.size+1]?=some (.cells #[.int .i64 st,s1,.int .i64 n1,s2,.int .i64 n2,.slice A L.length c] 31):=by
     rw [hb1.block (w.heap.size+1) (by simp)];have:=heap_alloc_new (w.alloc (.cells #[q0,q1,q2] 25)) (.cells #[.int .i64 st,s1,.int .i64 n1,s2,.int .i64 n2,.slice A L.length c] 31);simpa using this
    have e0:w1.cell? ⟨w.heap.size+1,0,none⟩=some (.int .i64 st):=by simp [World.cell?,hblk]
    have e1:w1.cell? ⟨w.heap.size+1,1,none⟩=some s1:=by simp [World.cell?,hblk]
    have e2:w1.cell? ⟨w.heap.size+1,2,none⟩=some (.int .i64 n1):=by simp [World.cell?,hblk]
    have e3:w1.cell? ⟨w.heap.size+1,3,none⟩=some s2:=by simp [World.cell?,hblk]
    have e4:w1.cell? ⟨w.heap.size+1,4,none⟩=some (.int .i64 n2):=by simp [World.cell?,hblk]
    have e5:w1.cell? ⟨w.heap.size+1,5,none⟩=some (.slice A L.length c):=by simp [World.cell?,hblk]
    have HB1:=Lib.hid hb1;have HR:=Lib.hid (And.intro hR hD');clear hb1 hR hD' hblk)
  | (refine ⟨trivial,?_⟩;gi_at_call 45;refine (Zkr (n-1) st n1 n2 s1 s2 (.slice A L.length c) _).mono ?_;rintro e w' ⟨rfl,rfl⟩))
 rename_i K0 hK0;refine wpIn_label (hK0 _ _ ?_);clear hK0 K0;obtain ⟨W3,hW3⟩:∃ W,W=(w1.alloc (.cells #[.slice A' R.length c'] 29)).alloc (.cells #[.bool false] 4):=⟨_,rfl⟩
 have hbW:Below w1.heap.size w1 W3:=by rw [hW3];exact ((Below.refl _ w1).alloc (Nat.le_refl _) _).alloc (by simp) _
 have hs3:W3.heap.size=w1.heap.size+1+1:=by rw [hW3];simp
 have bS:Boxed W3 w1.heap.size 29 (.slice A' R.length c'):=by rw [hW3];exact (Boxed.new w1 _ _).alloc _
 have bF:Boxed W3 (w1.heap.size+1) 4 (.bool false):=by
  rw [hW3];have:=Boxed.new (w1.alloc (.cells #[.slice A' R.length c'] 29)) 4 (.bool false);simpa using this
 have f0:=(hbW.cell (p:=⟨w.heap.size+1,0,none⟩) hlt3).trans e0;have f1:=(hbW.cell (p:=⟨w.heap.size+1,1,none⟩) hlt3).trans e1;have f2:=(hbW.cell (p:=⟨w.heap.size+1,2,none⟩) hlt3).trans e2;have f3:=(hbW.cell (p:=⟨w.heap.size+1,3,none⟩) hlt3).trans e3;have f4:=(hbW.cell (p:=⟨w.heap.size+1,4,none⟩) hlt3).trans e4;have f5:=(hbW.cell (p:=⟨w.heap.size+1,5,none⟩) hlt3).trans e5;have hB13:Below w.heap.size w w1:=(((Below.refl w.heap.size w).alloc (Nat.le_refl _) _).alloc (by simp) _).trans (HB1.out.mono (by simp;omega));have hB0:Below w.heap.size w W3:=hB13.trans (hbW.mono (by omega));have hR3:Ra D' W3 (.sl 1 false (R.map intA)) (.slice A' R.length c'):=HR.out.1.frame (fun _ h=>h) hbW.size (fun b hb hl=>hbW.block b hl);have hL3:Ra D W3 (.sl 1 false (L.map intA)) (.slice A L.length c):=HL.out.frame (fun _ h=>h) hB0.size (fun b hb hl=>hB0.block b hl);rw [← hW3];clear hW3;have HBX:=Lib.hid (And.intro bS (And.intro bF (And.intro hB0 (And.intro hR3 hL3))));clear e0 e1 e2 e3 e4 e5 bS bF hB0 hR3 hL3 hbW hB13
 gi_wp2_with (refine ⟨trivial,?_⟩;gi_at_call 45;refine (Zkr (n-1) st n1 n2 s1 s2 (.slice A L.length c) _).mono ?_;rintro e w' ⟨rfl,rfl⟩)
 rename_i K0 hK0;have HK0:=Lib.hid hK0;clear hK0 hsz hlt3 f0 f1 f2 f3 f4;obtain ⟨bS,bF,hB0,hR3,hL3⟩:=HBX.out;obtain ⟨W4,hW4⟩:∃ W,W=W3.alloc (.cells #[.int .i64 st,s1,.int .i64 n1,s2,.int .i64 n2,.slice A L.length c] 31):=⟨_,rfl⟩
 have hb34:Below W3.heap.size W3 W4:=by rw [hW4];exact (Below.refl _ W3).alloc (Nat.le_refl _) _
 have hs4:W4.heap.size=w1.heap.size+1+1+1:=by rw [hW4];simp [hs3]
 have bS4:Boxed W4 w1.heap.size 29 (.slice A' R.length c'):=by rw [hW4];exact bS.alloc _
 have bF4:Boxed W4 (w1.heap.size+1) 4 (.bool false):=by rw [hW4];exact bF.alloc _
 have hR4:Ra D' W4 (.sl 1 false (R.map intA)) (.slice A' R.length c'):=hR3.frame (fun _ h=>h) hb34.size (fun b hb hl=>hb34.block b hl);have hL4:Ra D W4 (.sl 1 false (L.map intA)) (.slice A L.length c):=hL3.frame (fun _ h=>h) hb34.size (fun b hb hl=>hb34.block b hl);have hc5:W4.cell? ⟨w1.heap.size+1+1,5,none⟩=some (.slice A L.length c):=by
  rw [hW4];have:=heap_alloc_new W3 (.cells #[.int .i64 st,s1,.int .i64 n1,s2,.int .i64 n2,.slice A L.length c] 31);rw [hs3] at this;simp [World.cell?,this]
 have hB04:Below w.heap.size w W4:=hB0.trans (hb34.mono (by have:=hB0.size;omega));have hww1:w.heap.size≤w1.heap.size:=by have:=HB1.out.size;simp at this;omega
 have hDn:∀ b,D b→b<w1.heap.size+1:=fun b hb=>by have:=HD.out b hb;omega
 have hDn':∀ b,D' b→b<w1.heap.size+1:=fun b hb=>by have:=HR.out.2 b hb;omega
 rw [← hW4];clear hW4 bS bF hB0 hR3 hL3 HBX hb34 f5 hs3 HL HS HR HB1 HD;refine wpIn_rangeFunc_ownG rfl h1 (gf:=83) (lb:=#[.pointer (some ⟨w1.heap.size+1+1,0,none⟩)]) rfl trivial (enters_of Tryz.func83 (by kernel_rfl) rfl)
  (Zeg (n-1) (by omega) (w1.heap.size+1+1) (w1.heap.size+1) c A L hlL D hDn W4 (by omega) (by omega) hc5 hL4) belowK_t (belowK_b (by omega)) (Below.refl _ _) (fun _=>rfl)
  (fun (pre:List Int) W=>(Boxed W (w1.heap.size+1) 4 (.bool false)∧(∀ x∈pre,x ∉ R))∧Below (w1.heap.size+1) W4 W)
  (fun c (pre:List Int) W=>(c=.exit 0∧(∃ x∈pre,x∈R)∧Boxed W (w1.heap.size+1) 4 (.bool true))∧Below (w1.heap.size+1) W4 W)
  (OwnFrom.and (Own.from (fun s X Y row hs hg hr=>⟨boxed_own (w1.heap.size+1) 4 (fun (_:List Int)=>.bool false) s X Y row hs.1 hg hr,hs.2⟩) _) (ownFrom_below (by omega) (by omega)))
  (fun c=>OwnFrom.and (Own.from (fun s X Y row hs hg hr=>⟨hs.1,hs.2.1,boxed_own (w1.heap.size+1) 4 (fun (_:List Int)=>.bool true) s X Y row hs.2.2 hg hr⟩) _) (ownFrom_below (by omega) (by omega)))
  ⟨⟨bF4,by simp⟩,Below.refl _ _⟩
  (fun (x:Int)=>{ tmps:=#[.agg #[q0,q1,q2],.agg #[.int .i64 st,s1,.int .i64 n1,s2,.int .i64 n2,.slice A L.length c],.pointer (some ⟨w.heap.size,0,none⟩),.pointer (some ⟨w.heap.size+1,0,none⟩),.bool false,.pointer (some ⟨w1.heap.size,0,none⟩),.pointer (some ⟨w1.heap.size+1,0,none⟩),.int .i64 x,undef,undef,.agg #[q0,q1,q2],.pointer (some ⟨w.heap.size+1,0,none⟩),.int .i64 st,.slice A' R.length c',.agg #[.int .i64 st,s1,.int .i64 n1,s2,.int .i64 n2,.slice A L.length c],.func (.func 83) #[] #[.pointer (some ⟨w1.heap.size+1+1,0,none⟩)],.int .i64 x,undef,undef,undef,undef,undef,undef,undef,undef,undef,undef,undef],defers:=[] }) ?assign ?body ?done ?stop
 case assign=>
  intro l x W K hK
  gi_wp2
  exact hK
 case body=>
  rintro l pre x W ⟨⟨hF,hall⟩,hB⟩ hlt;have cS:=(hB.cell (p:=⟨w1.heap.size,0,none⟩) (Nat.lt_succ_self _)).trans bS4.cell;have cF:=hF.cell;have fF:=hF.frozen;have hRW:Ra D' W (.sl 1 false (R.map intA)) (.slice A' R.length c'):=hR4.frame (fun _ h=>h) hB.size (fun b hb hl=>hB.block b (hDn' b hb));have HRW:=Lib.hid hRW;have HKK:=Lib.hid HK0;clear hRW hR4 hL4 hc5 hB04 bS4 bF4 HK0
  gi_wp2
  gi_loopw [19] (fun i wr=>∃ k:Nat,k≤R.length∧i=.int .i64 k∧(∀ y∈R.take k,y ≠ x)∧wr=W)
   (fun i _=>R.length-(intOf i).toNat)
  case atStart=>exact ⟨0,Nat.zero_le _,rfl,by simp,rfl⟩
  case round=>
   obtain ⟨k,hk,rfl,hne,rfl⟩:=hrel;by_cases hlt2:k<R.length
   ·obtain ⟨b,off,hA,hbk,_,hc1⟩:=Qti HRW.out hlt2;subst hA;have hst:R.take (k+1)=R.take k++[R[k]]:=List.take_succ_eq_append_getElem hlt2;have HST:=Lib.hid hst;have HM:Hid (R[k]∈R):=Lib.hid (List.getElem_mem hlt2);clear hst;generalize R[k]=y at *;by_cases hxy:y=x
    ·subst hxy
     gi_wp2
     exact ⟨(KeepsOthers.setCell wr ⟨w1.heap.size+1,0,none⟩ (.bool true)).from _,⟨rfl,⟨y,by simp,HM.out⟩,hF.set _⟩,hB.setCell (p:=⟨w1.heap.size+1,0,none⟩) (Nat.le_refl _) _⟩
    ·gi_wp2
     go_roundw
     case rel=>exact ⟨k+1,by omega,by go_num,by rw [HST.out];intro z hz;rcases List.mem_append.1 hz with hz | hz;exact hne z hz;rw [List.mem_singleton.1 hz];exact hxy,trivial⟩
     case measure=>simp [intOf];omega
   ·obtain rfl:k=R.length:=by omega
    gi_wp2
    exact ⟨KeepsFrom.refl _ _,Below.refl _ _,⟨hF,fun z hz=>(List.mem_append.1 hz).elim (hall z) (fun h hR=>by rw [List.mem_singleton.1 h] at hR;exact hne x (by rw [List.take_length];exact hR) rfl)⟩,hB⟩
 case done=>
  rintro D1 ys W hD1 rfl ⟨⟨hF,hall⟩,hB⟩ hK;have cF:=hF.cell;have hcc:=cell_kept cF (grownBy_putObj' _ D1 (.deferred none)) (fun r e=>by cases e;exact ⟨_,hK,rfl⟩)
  gi_wp2
  refine HK0.out _ _ ?_
  gi_wp2
  refine ⟨by simp,.inl ⟨_,_,rfl,run_takeDeferred hK,?_⟩⟩;refine ⟨_,results_tmp rfl _ _ _,?_,(hB04.trans (hB.mono (by omega))).trans (belowK_b (w:=w) (Nat.le_refl _) W D1 _ _ (by omega) hK rfl rfl)⟩;have hh:(∃ x,x∈ys∧x∈R)=False:=by simp only [eq_iff_iff,iff_false];rintro ⟨x,hx,hr⟩;exact hall x hx hr
  simp [hh]
 case stop=>
  rintro D1 c pre W hD1 hpre ⟨⟨rfl,⟨x,hxm,hx⟩,hF⟩,hB⟩ hK;have cF:=hF.cell;have hcc:=cell_kept cF (grownBy_putObj' _ D1 (.deferred none)) (fun r e=>by cases e;exact ⟨_,hK,rfl⟩)
  gi_wp2
  refine HK0.out _ _ ?_
  gi_wp2
  refine ⟨by simp,.inl ⟨_,_,rfl,run_takeDeferred hK,?_⟩⟩;refine ⟨_,results_tmp rfl _ _ _,?_,(hB04.trans (hB.mono (by omega))).trans (belowK_b (w:=w) (Nat.le_refl _) W D1 _ _ (by omega) hK rfl rfl)⟩;have hh:(∃ x,x∈L∧x∈R)=True:=eq_true ⟨x,hpre.subset hxm,hx⟩;simp [hh]
end Go.Proofs.YtahlldgocpabjaaGreat

namespace Go.Proofs.YtahlldgocpabjaaGreat
open Go Go.RowKit Copyhold Go.Proofs.Tryz
theorem Zdb {D:Nat→Prop} {w:World} {cs:List AV} {v:Value} (h:Ra D w (.agg cs) v):∃ vs:Array Value,v=.agg vs∧cs.length=vs.size∧∀ (j:Nat) (x:AV) (u:Value),cs[j]?=some x→vs[j]?=some u→Ra D w x u:=by
 cases h with
 | agg cs vs h1 h2 h3=>exact ⟨vs,rfl,h1,h3⟩
theorem Qxn {D:Nat→Prop} {w:World} {L:List Int} {t:Bool} {v:Value} (h:Ra D w (.sl 1 t (L.map intA)) v):∃ A c,v=.slice A L.length c:=by
 generalize hx:(AV.sl 1 t (L.map intA))=x at h;cases h<;>cases hx;exact ⟨_,_,by rw [List.length_map]⟩
theorem Qvu {D:Nat→Prop} {w:World} {u v:Value} (h:Ra D w (.val u) v):v=u:=by
 cases h;rfl
theorem arr2 {vs:Array Value} (h:2=vs.size):∃ a b,vs=#[a,b]:=by
 rcases vs with ⟨l⟩
 match l,h with
 | [a,b],_=>exact ⟨a,b,rfl⟩
theorem arr3 {vs:Array Value} (h:3=vs.size):∃ a b c,vs=#[a,b,c]:=by
 rcases vs with ⟨l⟩
 match l,h with
 | [a,b,c],_=>exact ⟨a,b,c,rfl⟩
theorem arr6 {vs:Array Value} (h:6=vs.size):∃ a b c d e f,vs=#[a,b,c,d,e,f]:=by
 rcases vs with ⟨l⟩
 match l,h with
 | [a,b,c,d,e,f],_=>exact ⟨a,b,c,d,e,f,rfl⟩
theorem Qpy (s:Sto) (t:Txn) (oks:OkS s) (hf:s.l.length≤100000) (okt:OkT t):Qah prog 36 [.agg (stoA s),.agg (txnA t)] (aB (dP (Qft s t))):=by
 intro D w vs hD hvs;obtain ⟨hlen,hv⟩:=hvs;obtain ⟨v0,v1,rfl⟩:=arr2 hlen;have r0:=hv 0 _ v0 rfl rfl;obtain ⟨vs1,rfl,hl1,h1⟩:=Zdb (hv 1 _ v1 rfl rfl);obtain ⟨vs0,rfl,hl0,h0⟩:=Zdb r0;obtain ⟨q0,q1,q2,rfl⟩:=arr3 hl0;obtain ⟨a0,a1,a2,a3,a4,a5,rfl⟩:=arr6 hl1;obtain rfl:=Qvu (h1 0 _ a0 rfl rfl);obtain rfl:=Qvu (h1 2 _ a2 rfl rfl);obtain rfl:=Qvu (h1 4 _ a4 rfl rfl);have r5:=h1 5 _ a5 rfl rfl;obtain ⟨A,c,rfl⟩:=Qxn r5;have hbl:=okt.len;have hsl:=Qso s t.stamp;refine (callsIn_wide (n:=3)).1 ((Zj1 3 (Nat.le_refl _) q0 q1 q2 t.stamp t.was.next t.now.next a1 a3 A c t.looks (Qbz s t.stamp) (by omega) (by omega) w D hD r5 ?_).mono ?_)
 ·intro W hW;refine (callsIn_wide.2 (Qzm s t.stamp oks hf D W #[.agg #[q0,q1,q2],.int .i64 t.stamp] (fun b hb=>Nat.lt_of_lt_of_le (hD b hb) hW.size) ⟨rfl,fun j x v hj hvj=>?_⟩)).mono ?_
  ·match j,hj,hvj with
   | 0,hj,hvj=>cases hj;cases hvj;exact r0.frame (fun _ h=>h) hW.size (fun b hb hl=>hW.block b hl)
   | 1,hj,hvj=>cases hj;cases hvj;exact .val _
  ·rintro e W' ⟨v,D',rfl,hb,_,hD',hr⟩;obtain ⟨A',c',rfl⟩:=Qxn hr;exact ⟨A',c',D',rfl,hb,hr,fun b hb=>(hD' b hb).1⟩
 ·rintro e w' ⟨rfl,hb⟩;refine ⟨_,D,rfl,hb,fun _ h=>h,fun b h=>⟨Nat.lt_of_lt_of_le (hD b h) hb.size,.inl h⟩,?_⟩;have e:decide (∃ x∈t.looks,x∈Qbz s t.stamp)=dP (Qft s t):=by
   by_cases h:∃ x∈t.looks,x∈Qbz s t.stamp
   ·obtain ⟨x,h1,h2⟩:=h;rw [Qax.2 ⟨x,h2,h1⟩];exact decide_eq_true ⟨x,h1,h2⟩
   ·rw [decide_eq_false h];exact (Qac.2 (fun ⟨x,h2,h1⟩=>h ⟨x,h1,h2⟩)).symm
  rw [e];exact .val _
structure MidS (s:Sto):Prop where
 ok:OkS s
 l:s.l.length≤1000
 nexts:s.nexts.length≤1000
 rows:∀ c∈s.l,c.l.length≤1000
 stamp:s.stamp<1152921504606846977
noncomputable def Qbu (s:Sto) (t:Txn):Sto × Int:=
 if dP (t.was=t.now)=true then (s,0) else if dP (Qft s t)=true then (s,15) else (Qc1 s (Qbj t.was t.now) t.now.next,0)
theorem Qg9 {s:Sto} {t:Txn} (h:dP (t.was=t.now)=true):Qbu s t=(s,0):=by unfold Qbu;rw [if_pos h]
theorem Qh6 {s:Sto} {t:Txn} (h:dP (t.was=t.now)=false) (h2:dP (Qft s t)=true):Qbu s t=(s,15):=by unfold Qbu;rw [if_neg (by rw [h];decide),if_pos h2]
theorem Qfe {s:Sto} {t:Txn} (h:dP (t.was=t.now)=false) (h2:dP (Qft s t)=false):Qbu s t=(Qc1 s (Qbj t.was t.now) t.now.next,0):=by unfold Qbu;rw [if_neg (by rw [h];decide),if_neg (by rw [h2];decide)]
theorem Qoc (s:Sto) (t:Txn) (ms:MidS s) (okt:OkT t) (hw:Qaq t.was) (hn:Qaq t.now):Qah prog 30 [.agg (stoA s),.agg (txnA t)] (.tup [.agg (stoA (Qbu s t).1),aI (Qbu s t).2]):=by
 exact Qab func30 (
 .new fun b1=>.new fun b2=>.new fun b3=>.r 1<|.u 1 [b2]<|
 .call (Qtm t okt)<|
 .br 7 (dP (t.was=t.now)) (fun q1=>have p1:=booT q1;.u 3 [b1,b3]<|
 .f (.tup [.agg (stoA (Qbu s t).1),aI (Qbu s t).2]) [b3] (.tup [.agg (stoA s),aI 0]) (by
  rw [Qg9 q1];exact sR))
 <| fun q1=>have p1:=booF q1;.u 2 [b1,b2]<|
 .call (Qpy s t ms.ok (by have:=ms.l;omega) okt)<|
 .br 11 (dP (Qft s t)) (fun q2=>have p2:=booT q2;.u 3 [b1,b3]<|
 .f (.tup [.agg (stoA (Qbu s t).1),aI (Qbu s t).2]) [b3] (.tup [.agg (stoA s),aI 15]) (by
  rw [Qh6 q1 q2];exact sR))
 <| fun q2=>have p2:=booF q2;.ord [0,1,2,3,4,6,7,8,5,9,10,11]<|.u 8 [b1,b2,b2,b2]<|
 .call (Qqu t.was t.now okt.was okt.now (by have:=hw.1;omega) (by have:=hn.1;omega) (Qaf hw) (Qaf hn))<|
 .call (Qtj s (Qbj t.was t.now) t.now.next ms.ok ms.l (by have:=Qha t.was t.now;have:=hw.1;have:=hn.1;omega) ms.nexts ms.rows ms.stamp)<|
 .u 2 [b3]<|
 .f (.tup [.agg (stoA (Qbu s t).1),aI (Qbu s t).2]) [b3] (.tup [.agg [.sl 2 false ((Qc1 s (Qbj t.was t.now) t.now.next).l.map chnA),.sl 2 false ((Qc1 s (Qbj t.was t.now) t.now.next).nexts.map cntA),aI ((Qc1 s (Qbj t.was t.now) t.now.next).stamp)],aI 0]) (by
  rw [Qfe q1 q2];exact sR))
noncomputable def Qad:Txn→List Cal→Txn
 | t,[]=>t
 | t,c :: r=>Qad (Qb1 t c) r
theorem Qo3:∀ (a b:List Cal) (t:Txn),Qad t (a++b)=Qad (Qad t a) b
 | [],_,_=>rfl
 | c :: r,b,t=>Qo3 r b (Qb1 t c)
theorem Qec {t:Txn} {l:List Cal} {k:Nat} {x:Cal} (h:l[k]?=some x):Qad t (l.take (k+1))=Qb1 (Qad t (l.take k)) x:=by
 rw [Qap h,Qo3];rfl
theorem Qf5:∀ (l:List Cal) (t:Txn),(Qad t l).now=plF t.now l
 | [],_=>rfl
 | c :: r,t=>Qf5 r (Qb1 t c)
theorem Qmt:∀ (l:List Cal) (t:Txn),(Qad t l).was=t.was
 | [],_=>rfl
 | c :: r,t=>Qmt r (Qb1 t c)
theorem Qc6:∀ (l:List Cal) (t:Txn),(Qad t l).stamp=t.stamp
 | [],_=>rfl
 | c :: r,t=>Qc6 r (Qb1 t c)
theorem Qsl:∀ (l:List Cal) (t:Txn),(Qad t l).looks.length≤t.looks.length+7*l.length
 | [],_=>by show _≤_;simp [Qad]
 | c :: r,t=>by
  have h1:=Qsl r (Qb1 t c);have h2:=Qsm t c;show (Qad (Qb1 t c) r).looks.length≤_;rw [List.length_cons];omega
theorem Qcm {t:Txn} {l:List Cal} {k:Nat} {x:Cal} (h:l[k]?=some x):plR t.now (l.take (k+1))=plR t.now (l.take k)++[(doF (Qad t (l.take k)).now x).2]:=by
 rw [Qdc h,Qf5]
structure KeptT (t u:Txn) (k:Nat):Prop where
 now:KeptN t.now u.now k
 ok:OkT u
 was:u.was=t.was
 len:u.looks.length≤t.looks.length+7*k
theorem Qiv {t:Txn} (okt:OkT t) (T:TreeP t.now) {l:List Cal} (hl:l.length≤1000) (ok:∀ c∈l,OkCal c) (hx:t.now.next<1152921504606847976) (hk0:t.looks.length≤1000) {k:Nat} (hk:k≤l.length):KeptT t (Qad t (l.take k)) k:=by
 have h1:=Qwc okt.now T hl ok hx k hk;have h2:=Qsl (l.take k) t;rw [List.length_take,Nat.min_eq_left hk] at h2;exact ⟨by rw [Qf5];exact h1,⟨by rw [Qc6];exact okt.stamp,by rw [Qmt];exact okt.was,by rw [Qf5];exact h1.ok,by omega⟩,Qmt _ _,h2⟩
theorem Qi6 {s:Sto} (oks:OkS s):OkT (Qag s):=⟨oks.1,Qmm oks _,Qmm oks _,by show ([]:List Int).length≤_;simp⟩
noncomputable def runD (s:Sto) (l:List Cal):Sto:=(Qbu s (Qad (Qag s) l)).1
theorem Zhw (s:Sto) (l:List Cal) (ms:MidS s) (T:TreeP (Qag s).now) (hl:l.length≤1000) (ok:∀ c∈l,OkCal c) (hx:(Qag s).now.next<1152921504606847976):Qah prog 32 [.agg (stoA s),.sl 8 false (l.map calA)] (.tup [.agg (stoA (runD s l)),.sl 6 false ((plR (Qag s).now l).map repA)]):=by
 exact Qab func32 (
 .new fun b1=>.new fun b2=>.r 1<|.u 1 [b1]<|
 .call (Qej s ms.ok (by have:=ms.l;omega))<|
 .new fun b3=>.u 1 [b3]<|
 .r 2<|.lm 13 l calA<|.op (mkN prog) (59,(l.length:Int),(l.length:Int),45,[aI 0,aI 0,aI 0,aI 0,aS ([]),aN],14) (fun (V:Value) σ=>(σ.put (some 14) (.rw 14 V l.length)).setB 14 (.row V 45 6 (List.replicate l.length [aI 0,aI 0,aI 0,aI 0,aS ([]),aN]))) (Zh0 l.length 72 (by kernel_rfl) (by omega) (by omega) (by omega)) fun V1=>
 .r 1<|.r 2<|.lm 16 l calA<|.r 1<|let L1:Lp (Nat):=⟨fun a1=>⟨[(2,.ptr 2 b1 0),(4,.ptr 4 b2 0),(6,.ptr 6 b3 0),(7,.rw 14 V1 l.length),(15,.sl 8 false (l.map calA)),(16,aI (l.length:Int)),(17,aI (a1:Int))],[(2,.box b1 25 (stoA s)),(4,.box b2 25 [aN,aN,aI 0]),(6,.box b3 31 [aI ((Qad (Qag s) (l.take a1)).stamp),.sl 5 false ((Qad (Qag s) (l.take a1)).was.l.map nodA),aI ((Qad (Qag s) (l.take a1)).was.next),.sl 5 false ((Qad (Qag s) (l.take a1)).now.l.map nodA),aI ((Qad (Qag s) (l.take a1)).now.next),.sl 1 false ((Qad (Qag s) (l.take a1)).looks.map intA)]),(14,.row V1 45 6 (prow (plR (Qag s).now (l.take a1)) l.length))]⟩,fun a1=>l.length-a1,fun a1=>a1≤l.length⟩
 .lp L1 0 (show 0≤l.length from Nat.zero_le _) [(17,aI 0)] [(6,.box b3 31 [aI ((Qag s).stamp),.sl 5 false ((Qag s).was.l.map nodA),aI ((Qag s).was.next),.sl 5 false ((Qag s).now.l.map nodA),aI ((Qag s).now.next),.sl 1 false ((Qag s).looks.map intA)]),(14,.row V1 45 6 (List.replicate l.length [aI 0,aI 0,aI 0,aI 0,aS ([]),aN]))] ⟨sR,sR,sR,sR,sR,sR,sO,trivial⟩ ⟨sB,sB,⟨_,rfl,SubB.of_eq rfl⟩,⟨_,rfl,SubB.of_eq rfl⟩,trivial⟩ fun a1 ha1=>
 (fun (k:Nat) (hH1:k≤l.length)=>have kt:=Qiv (Qi6 ms.ok) T hl ok hx (Nat.zero_le _) (k:=k) (by omega);have kp:=kt.now;have kp2:=kp.next;have kl:=kt.len;have kl0:(Qag s).looks.length=0:=rfl;.r 1<|.bd 18 ((k:Int)<(l.length:Int)) (fun p1=>.r 1<|.idxM l calA k (m:=(k:Int)) rfl (by omega) fun x1 hx1=>
 have okx1:=ok x1 (List.mem_of_getElem? hx1);.r 1<|.new fun b4=>.u 2 [b4]<|
 .st (rowR 14) (V1,45,6,prow (plR (Qag s).now (l.take k)) l.length) (fun _ σ=>σ) (Qb9 14 (by first | omega | (rw [Qqn (by rw [Qhv,List.length_take];omega)];omega))) fun a5r=>
 .u 4 [b3,b4]<|
 .call (Qmu (Qad (Qag s) (l.take k)) x1 kp.ok okx1 kp.tree.rows (by omega) (by omega))<|
 .u 4 [b3]<|
 .op (ixR prog) (14,V1,l.length,6,(k:Int),some 30) (fun (_:Unit) σ=>σ.put (some 30) (.ep 14 V1 6 k 0)) (Qfk k a5r.2.1 (by omega) (by first | omega | (rw [Qqn (by rw [Qhv,List.length_take];omega)];omega))) fun _=>
 .op (stR prog) (14,V1,6,k,0,V1,45,6,prow (plR (Qag s).now (l.take k)) l.length,[aI ((doF (Qad (Qag s) (l.take k)).now x1).2.e),aI ((doF (Qad (Qag s) (l.take k)).now x1).2.a),aI ((doF (Qad (Qag s) (l.take k)).now x1).2.b),aI ((doF (Qad (Qag s) (l.take k)).now x1).2.n),aS ((doF (Qad (Qag s) (l.take k)).now x1).2.text),AV.sl 1 false ((doF (Qad (Qag s) (l.take k)).now x1).2.names.map txA)],none) (fun (_:Unit) σ=>(σ.put (none) .any).setB 14 (.row V1 45 6 ((prow (plR (Qag s).now (l.take k)) l.length).set k ((zRA ()).take 0++[aI ((doF (Qad (Qag s) (l.take k)).now x1).2.e),aI ((doF (Qad (Qag s) (l.take k)).now x1).2.a),aI ((doF (Qad (Qag s) (l.take k)).now x1).2.b),aI ((doF (Qad (Qag s) (l.take k)).now x1).2.n),aS ((doF (Qad (Qag s) (l.take k)).now x1).2.text),AV.sl 1 false ((doF (Qad (Qag s) (l.take k)).now x1).2.names.map txA)]++(zRA ()).drop (0+[aI ((doF (Qad (Qag s) (l.take k)).now x1).2.e),aI ((doF (Qad (Qag s) (l.take k)).now x1).2.a),aI ((doF (Qad (Qag s) (l.take k)).now x1).2.b),aI ((doF (Qad (Qag s) (l.take k)).now x1).2.n),aS ((doF (Qad (Qag s) (l.take k)).now x1).2.text),AV.sl 1 false ((doF (Qad (Qag s) (l.take k)).now x1).2.names.map txA)].length))))) (Qjy (zRA ()) (Zh9 (by rw [Qhv,List.length_take];omega) (by omega)) (Nat.le_of_ble_eq_true rfl)) fun _=>
 .run 2 [rng .i64 ((k:Int)+1)] ⟨Qaj (by omega) (by omega),trivial⟩<|
 .bk L1 k (k+1) (show (k+1)≤l.length from (by show _≤_;omega)) (show l.length-(k+1)<l.length-k from (by omega)) [(17,aI ((k:Int)+1))] [(6,.box b3 31 [aI ((Qb1 (Qad (Qag s) (l.take k)) x1).stamp),.sl 5 false ((Qb1 (Qad (Qag s) (l.take k)) x1).was.l.map nodA),aI ((Qb1 (Qad (Qag s) (l.take k)) x1).was.next),.sl 5 false ((Qb1 (Qad (Qag s) (l.take k)) x1).now.l.map nodA),aI ((Qb1 (Qad (Qag s) (l.take k)) x1).now.next),.sl 1 false ((Qb1 (Qad (Qag s) (l.take k)) x1).looks.map intA)]),(14,.row V1 45 6 ((prow (plR (Qag s).now (l.take k)) l.length).set k ((zRA ()).take 0++[aI ((doF (Qad (Qag s) (l.take k)).now x1).2.e),aI ((doF (Qad (Qag s) (l.take k)).now x1).2.a),aI ((doF (Qad (Qag s) (l.take k)).now x1).2.b),aI ((doF (Qad (Qag s) (l.take k)).now x1).2.n),aS ((doF (Qad (Qag s) (l.take k)).now x1).2.text),AV.sl 1 false ((doF (Qad (Qag s) (l.take k)).now x1).2.names.map txA)]++(zRA ()).drop (0+[aI ((doF (Qad (Qag s) (l.take k)).now x1).2.e),aI ((doF (Qad (Qag s) (l.take k)).now x1).2.a),aI ((doF (Qad (Qag s) (l.take k)).now x1).2.b),aI ((doF (Qad (Qag s) (l.take k)).now x1).2.n),aS ((doF (Qad (Qag s) (l.take k)).now x1).2.text),AV.sl 1 false ((doF (Qad (Qag s) (l.take k)).now x1).2.names.map txA)].length))))] ⟨sR,sR,sR,sR,sR,sR,sO,trivial⟩ ⟨sB,sB,⟨_,rfl,SubB.of_eq (by rw [Qec hx1])⟩,⟨_,rfl,SubB.of_eq (by rw [Qcm hx1];exact congrArg _ (Zh8 (v:=(doF (Qad (Qag s) (l.take k)).now x1).2) (by rw [Qhv,List.length_take];omega) (by omega)))⟩,trivial⟩)
 <| fun p1=>.u 2 [b1,b3]<|
 .call (Qoc s (Qad (Qag s) (l.take k)) ms kt.ok (by rw [kt.was];exact T.rows) kp.tree.rows)<|
 .u 4 [b1]<|
 .u 4 [b1,b2]<|
 .frz 14 [4,5] [4] [V1=V1,l.length=(prow (plR (Qag s).now (l.take k)) l.length).length] ⟨rfl,(Qqn (by rw [Qhv,List.length_take];omega)).symm,trivial⟩<|
 .f (.tup [.agg (stoA (runD s l)),.sl 6 false ((plR (Qag s).now l).map repA)]) [b2] (.tup [.agg [.sl 2 false ((Qbu s (Qad (Qag s) (l.take k))).1.l.map chnA),.sl 2 false ((Qbu s (Qad (Qag s) (l.take k))).1.nexts.map cntA),aI ((Qbu s (Qad (Qag s) (l.take k))).1.stamp)],.sl 6 false (prow (plR (Qag s).now (l.take k)) l.length)]) (by
  unfold runD;rw [show l.take k=l from Qav (by omega),Zdh (Qhv _ _)]
  first | exact sR | exact Sub.tups ⟨sR,Sub.loose _ _ _,trivial⟩)) a1 ha1)
end Go.Proofs.YtahlldgocpabjaaGreat
