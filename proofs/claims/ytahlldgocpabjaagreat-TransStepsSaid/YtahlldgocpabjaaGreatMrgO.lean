import Derived.Test.YtahlldgocpabjaaGreatMrgM
import Derived.Test.YtahlldgocpabjaaGreatMrgN
set_option maxRecDepth 100000
set_option maxHeartbeats 8000000
set_option linter.unusedVariables false
set_option linter.unusedSimpArgs false
namespace Go.Proofs.YtahlldgocpabjaaGreat
open Go Go.RowKit Copyhold Go.Proofs.Tryz
def Qa4 (f:Fsy) (i:Int):List Int:=if (Qaa f i).kind=2 then (Qaa f i).l.map Ent.ino else []
theorem Qp7 {f:Fsy} {i z:Int} (h:z∈Qa4 f i):z∈Qij f:=by
 unfold Qa4 at h
 split at h
 ·obtain ⟨e,he,rfl⟩:=List.mem_map.1 h;exact Qfb he
 ·cases h
def dfsF (f:Fsy):Nat→Int→List Int→List Int
 | 0,_,U=>U
 | n+1,i,U=>(Qa4 f i).foldl (fun U z=>if hasB U z=true then U else dfsF f n z (U++[z])) U
def upK (f:Fsy) (n:Nat) (i:Int) (U:List Int) (k:Nat):List Int:=((Qa4 f i).take k).foldl (fun U z=>if hasB U z=true then U else dfsF f n z (U++[z])) U
theorem Qz1 {f:Fsy} {n:Nat} {i z:Int} {U:List Int} {k:Nat} (hz:(Qa4 f i)[k]?=some z) (h:hasB (upK f n i U k) z=true):upK f n i U (k+1)=upK f n i U k:=by
 unfold upK at h ⊢;rw [Qak hz,List.foldl_append,List.foldl_cons,List.foldl_nil,if_pos h]
theorem Zjb {f:Fsy} {n:Nat} {i z:Int} {U:List Int} {k:Nat} (hz:(Qa4 f i)[k]?=some z) (h:hasB (upK f n i U k) z=false):upK f n i U (k+1)=dfsF f n z (upK f n i U k++[z]):=by
 unfold upK at h ⊢;rw [Qak hz,List.foldl_append,List.foldl_cons,List.foldl_nil,if_neg (by rw [h];decide)]
theorem Zkc {f:Fsy} {n:Nat} {i:Int} {U:List Int} {k:Nat} (hk:(Qa4 f i).length≤k):upK f n i U k=dfsF f (n+1) i U:=by unfold upK;rw [Qav hk];rfl
theorem Qkk {f:Fsy} {i:Int} {k:Nat} {x:Ent} (hk:(Qaa f i).kind=2) (h:(Qaa f i).l[k]?=some x):(Qa4 f i)[k]?=some x.ino:=by
 unfold Qa4;rw [if_pos hk,List.getElem?_map,h];rfl
theorem Zhb {f:Fsy} {i:Int} (hk:(Qaa f i).kind=2):(Qa4 f i).length=(Qaa f i).l.length:=by
 unfold Qa4;rw [if_pos hk,List.length_map]
theorem Zlq {f:Fsy} {i:Int} (h:¬ (Qaa f i).kind=2):Qa4 f i=[]:=if_neg h
theorem Zj1 {f:Fsy} {n:Nat} {i:Int} {U:List Int} (h:¬ (Qaa f i).kind=2):dfsF f n i U=U:=by
 cases n with
 | zero=>rfl
 | succ n=>show (Qa4 f i).foldl _ U=U;rw [Zlq h];rfl
theorem Qsp {f:Fsy} {i:Int} (h:Qau f i=false):¬ (Qaa f i).kind=2:=by
 unfold Qau at h;unfold Qaa;rw [List.find?_eq_none.2 fun x hx=>by simpa using List.any_eq_false.1 h x hx];decide
def remF (f:Fsy) (U:List Int):Nat:=(Qij f).countP fun z=>!hasB U z
theorem Qd1 {U:List Int} {x z:Int}:hasB (U++[x]) z=(hasB U z||x==z):=by unfold hasB;simp
theorem Qqv {α:Type} {p q:α→Bool}:∀ {l:List α},(∀ x∈l,p x=true→q x=true)→l.countP p≤l.countP q
 | [],_=>Nat.le_refl _
 | x :: r,h=>by
  have ih:=Qqv (l:=r) fun y hy=>h y (by simp [hy]);rw [List.countP_cons,List.countP_cons];have:=h x (by simp);cases hp:p x<;>cases hq:q x<;>simp_all<;>omega
theorem Qxg {α:Type} {p q:α→Bool}:∀ {l:List α} {z:α},(∀ x∈l,p x=true→q x=true)→z∈l→p z=false→q z=true→l.countP p<l.countP q
 | x :: r,z,h,hz,h1,h2=>by
  rw [List.countP_cons,List.countP_cons];have hx:=h x (by simp);rcases List.mem_cons.1 hz with e | hz
  ·rw [← e,h1,h2];have:=Qqv (l:=r) fun y hy=>h y (by simp [hy]);simp;omega
  ·have ih:=Qxg (l:=r) (fun y hy=>h y (by simp [hy])) hz h1 h2;cases hp:p x<;>cases hq:q x<;>simp_all<;>omega
theorem Qv8 {f:Fsy} {U V:List Int} (h:∀ z,hasB U z=true→hasB V z=true):remF f V≤remF f U:=by
 refine Qqv fun x _ hx=>?_;cases hu:hasB U x with
 | false=>rfl
 | true=>rw [h x hu] at hx;cases hx
theorem Quf {f:Fsy} {U:List Int} {z:Int} (hz:z∈Qij f) (h:hasB U z=false):remF f (U++[z])<remF f U:=by
 refine Qxg (z:=z) (fun x _ hx=>?_) hz (by rw [Qd1];simp) (by rw [h];rfl);rw [Qd1] at hx;simp only [Bool.not_eq_true',Bool.or_eq_false_iff] at hx;rw [hx.1];rfl
theorem Qqo {f:Fsy}:∀ (n:Nat) (i:Int) (U:List Int) (z:Int),hasB U z=true→hasB (dfsF f n i U) z=true
 | 0,_,_,_,h=>h
 | n+1,i,U,z,h=>by
  show hasB ((Qa4 f i).foldl _ U) z=true;generalize Qa4 f i=l
  induction l generalizing U with
  | nil=>exact h
  | cons x r ih=>
   rw [List.foldl_cons];refine ih _ ?_
   split
   ·exact h
   ·exact Qqo n x _ z (by rw [Qd1,h];rfl)
theorem Zk2 {f:Fsy} {n:Nat} {i:Int} {U:List Int}:remF f (dfsF f n i U)≤remF f U:=Qv8 fun z h=>Qqo n i U z h
inductive Reach (f:Fsy):Int→Int→Prop where
 | one {i z:Int}:z∈Qa4 f i→Reach f i z
 | more {i y z:Int}:y∈Qa4 f i→Reach f y z→Reach f i z
theorem Reach.trans {f:Fsy} {a b c:Int} (h:Reach f a b) (h2:Reach f b c):Reach f a c:=by
 induction h with
 | one h=>exact .more h h2
 | more h _ ih=>exact .more h (ih h2)
theorem Reach.snoc {f:Fsy} {a b c:Int} (h:Reach f a b) (h2:c∈Qa4 f b):Reach f a c:=h.trans (.one h2)
def Zfd (f:Fsy) (U V:List Int):Prop:=∀ z,hasB V z=true→hasB U z=false→∀ y∈Qa4 f z,hasB V y=true
theorem Qo4 {f:Fsy}:∀ (n:Nat) (i:Int) (U:List Int),remF f U<n →
  (∀ y∈Qa4 f i,hasB (dfsF f n i U) y=true)∧Zfd f U (dfsF f n i U)∧∀ z,hasB (dfsF f n i U) z=true→hasB U z=true∨Reach f i z
 | 0,_,_,h=>absurd h (Nat.not_lt_zero _)
 | n+1,i,U,h=>by
  have key:∀ (l:List Int),(∀ y∈l,y∈Qa4 f i)→∀ (V:List Int),(∀ z,hasB U z=true→hasB V z=true)→Zfd f U V→(∀ z,hasB V z=true→hasB U z=true∨Reach f i z) →
    let W:=l.foldl (fun U z=>if hasB U z=true then U else dfsF f n z (U++[z])) V
    (∀ z,hasB V z=true→hasB W z=true)∧(∀ y∈l,hasB W y=true)∧Zfd f U W∧∀ z,hasB W z=true→hasB U z=true∨Reach f i z:=by
   intro l
   induction l with
   | nil=>exact fun _ V _ h2 h3=>⟨fun _ h=>h,fun y hy=>by (cases hy),h2,h3⟩
   | cons x r ih=>
    intro hl V h1 h2 h3;simp only [List.foldl_cons];by_cases hx:hasB V x=true
    ·simp only [hx,if_true];obtain ⟨g0,g1,g2,g3⟩:=ih (fun y hy=>hl y (by simp [hy])) V h1 h2 h3;refine ⟨g0,fun y hy=>?_,g2,g3⟩;rcases List.mem_cons.1 hy with e | hy
     ·rw [e];exact g0 x hx
     ·exact g1 y hy
    ·rw [if_neg hx];have hx':hasB V x=false:=by simpa using hx
     have hr1:remF f V≤remF f U:=Qv8 (f:=f) h1;have hr2:=Quf (f:=f) (Qp7 (hl x (by simp))) hx';obtain ⟨d1,d2,d3⟩:=Qo4 (f:=f) n x (V++[x]) (by omega);have hm:=Qqo (f:=f) n x (V++[x]);have hxx:hasB (dfsF f n x (V++[x])) x=true:=hm x (by rw [Qd1];simp);obtain ⟨g0,g1,g2,g3⟩:=ih (fun y hy=>hl y (by simp [hy])) (dfsF f n x (V++[x])) (fun z hz=>hm z (by rw [Qd1,h1 z hz];rfl)) (fun z hz hu y hy=>by
      by_cases hv:hasB V z=true
      ·exact hm y (by rw [Qd1,h2 z hv hu y hy];rfl)
      ·by_cases hzx:z=x
       ·rw [hzx] at hy;exact d1 y hy
       ·refine d2 z hz ?_ y hy;rw [Qd1];have e1:hasB V z=false:=by simpa using hv
        have e2:(x==z)=false:=by simpa using fun e=>hzx (by rw [← e])
        rw [e1,e2];rfl) (fun z hz=>by
      rcases d3 z hz with hd | hd
      ·rw [Qd1] at hd;by_cases hv:hasB V z=true
       ·exact h3 z hv
       ·have e:x=z:=by simpa [hv] using hd
        rw [← e];exact .inr (.one (hl x (by simp)))
      ·exact .inr (.more (hl x (by simp)) hd))
     refine ⟨fun z hz=>g0 z (hm z (by rw [Qd1,hz];rfl)),fun y hy=>?_,g2,g3⟩;rcases List.mem_cons.1 hy with e | hy
     ·rw [e];exact g0 x hxx
     ·exact g1 y hy
  obtain ⟨_,g1,g2,g3⟩:=key (Qa4 f i) (fun _ h=>h) U (fun _ h=>h) (fun z h1 h2=>by rw [h1] at h2;cases h2) (fun z h=>.inl h);exact ⟨g1,g2,g3⟩
def Qcj (f:Fsy) (i:Int):List Int:=dfsF f ((Qij f).length+1) i []
theorem Za9 (f:Fsy):remF f []<(Qij f).length+1:=Nat.lt_succ_of_le List.countP_le_length
theorem Qgq {f:Fsy} {i z:Int}:hasB (Qcj f i) z=true↔Reach f i z:=by
 obtain ⟨h1,h2,h3⟩:=Qo4 _ i [] (Za9 f);refine ⟨fun h=>(h3 z h).resolve_left (by simp [hasB]),fun h=>?_⟩;have main:∀ a b,Reach f a b→(∀ y∈Qa4 f a,hasB (Qcj f i) y=true)→hasB (Qcj f i) b=true:=by
  intro a b hab
  induction hab with
  | one h=>exact fun hk=>hk _ h
  | more h _ ih=>exact fun hk=>ih fun y hy=>h2 _ (hk _ h) rfl y hy
 exact main i z h h1
def setM (U:List Int):List (MK × AV):=U.map fun z=>(MK.i z,.agg [])
theorem Qiz (U:List Int):∀ p∈setM U,∃ z,p.1=.i z:=fun p hp=>by
 obtain ⟨z,_,rfl⟩:=List.mem_map.1 hp;exact ⟨z,rfl⟩
theorem Qka:∀ (U:List Int) (z:Int) (i:Nat),(Qcf (.i z) (setM U) i).isSome=hasB U z∧∀ j x,Qcf (.i z) (setM U) i=some (j,x)→x=.agg []
 | [],z,i=>⟨rfl,fun j x h=>by cases h⟩
 | y :: r,z,i=>by
  obtain ⟨h1,h2⟩:=Qka r z (i+1);show (Qcf (.i z) ((MK.i y,AV.agg []) :: setM r) i).isSome=_∧∀ j x,Qcf (.i z) ((MK.i y,AV.agg []) :: setM r) i=some (j,x)→_;unfold Qcf;by_cases hy:y=z
  ·subst hy;simp only [if_true];exact ⟨by simp [hasB],fun j x h=>by cases h;rfl⟩
  ·rw [if_neg (fun e=>hy (by injection e))];refine ⟨?_,h2⟩;rw [h1];unfold hasB;have e:(y==z)=false:=by simpa using hy
   rw [List.any_cons,e,Bool.false_or]
theorem Zfj:Sub (.val (.agg #[])) (.agg []):=fun D w v h=>by
 cases h;exact .agg [] #[] rfl (fun j v h=>by simp at h) (fun j x v h=>by simp at h)
theorem Ql9 (U:List Int) (z:Int):lkS true (Qcf (.i z) (setM U) 0) (.agg #[]) (.tup [.agg [],aB (hasB U z)]):=by
 obtain ⟨h1,h2⟩:=Qka U z 0;unfold lkS Qp5;rw [if_pos rfl,h1];refine Sub.tups ⟨?_,sR,trivial⟩;cases hm:Qcf (.i z) (setM U) 0 with
 | none=>exact Zfj
 | some p=>
  obtain ⟨j,x⟩:=p;rw [h2 j x hm];exact sR
theorem Zfx {U:List Int} {z:Int} (h:hasB U z=false):mput (setM U) (.i z) (.agg [])=setM (U++[z]):=by
 obtain ⟨h1,h2⟩:=Qka U z 0;unfold mput;cases hm:Qcf (.i z) (setM U) 0 with
 | none=>simp [setM]
 | some p=>rw [hm,h] at h1;cases h1
theorem Zco (f:Fsy) (r:Nat) (okf:OkF f) (hl:f.l.length≤100000) (hr:Qbq f.l) (m:Nat) (ih:∀ (i:Int) (U:List Int),remF f U<m→Qh8 prog 129 [aI i,.dptr (fsyA f),.dptr [.mref 7 r],.dptr [CLn 129 [.dptr (fsyA f),.dptr [.mref 7 r]] m]] (.mp r (setM U)) (.tup []) (.mp r (setM (dfsF f m i U)))) (i:Int) (U:List Int) (h:remF f U<m+1):Qh8 prog 129 [aI i,.dptr (fsyA f),.dptr [.mref 7 r],.dptr [.clo 129 [.dptr (fsyA f),.dptr [.mref 7 r],.dptr [CLn 129 [.dptr (fsyA f),.dptr [.mref 7 r]] m]]]] (.mp r (setM U)) (.tup []) (.mp r (setM (dfsF f (m+1) i U))):=by
 have hfb:=(Qf6 okf i).2.2.2.2.1;exact Qjh (q:=7) func129 (
 .r 2<|.call (Qb4 f i (by omega) hr)<|
 .r 3<|.new fun b1=>.u 2 [b1]<|
 .r 3<|.br 19 (!(Qau f i)) (fun q1=>have q1:=notT q1;have p1:=booF q1;.r 4<|.st (mpR 7) (r,setM U) (fun (_:Unit) σ=>σ.setB 7 (.mp r (setM (dfsF f (m+1) i U)))) (Qt2 (by rw [Zj1 (Qsp q1)])) fun _=>
 .finB (x:=.tup []) (r:=.tup []) [] trivial (.mp r (setM (dfsF f (m+1) i U))) (by exact sR))
 <| fun q1=>have q1:=notF q1;have p1:=booT q1;.u 4 [b1]<|
 .br 23 (((Qaa f i).kind) != 2) (fun q2=>have p2:=bneT q2;.st (mpR 7) (r,setM U) (fun (_:Unit) σ=>σ.setB 7 (.mp r (setM (dfsF f (m+1) i U)))) (Qt2 (by rw [Zj1 (by assumption)])) fun _=>
 .finB (x:=.tup []) (r:=.tup []) [] trivial (.mp r (setM (dfsF f (m+1) i U))) (by exact sR))
 <| fun q2=>have p2:=bneF q2;have hk:(Qaa f i).kind=2:=(by simpa using q2);.u 3 [b1]<|
 .lm 26 ((Qaa f i).l) entA<|.r 1<|let L1:Lp (Nat):=⟨fun a1=>⟨[(2,.dptr [.mref 7 r]),(3,.dptr [.clo 129 [.dptr (fsyA f),.dptr [.mref 7 r],.dptr [CLn 129 [.dptr (fsyA f),.dptr [.mref 7 r]] m]]]),(25,.sl 2 false ((Qaa f i).l.map entA)),(26,aI (((Qaa f i).l).length:Int)),(27,aI (a1:Int))],[(7,.mp r (setM (upK f m i U a1)))]⟩,fun a1=>(Qaa f i).l.length-a1,fun a1=>a1≤(Qaa f i).l.length∧remF f (upK f m i U a1)<m+1⟩
 .lp L1 0 ⟨Nat.zero_le _,h⟩ [(27,aI 0)] [(7,.mp r (setM U))] ⟨sR,sR,sR,sR,sO,trivial⟩ ⟨⟨_,rfl,SubB.of_eq rfl⟩,trivial⟩ fun a1 ha1=>
 (fun (k:Nat) (hH1:k≤(Qaa f i).l.length∧remF f (upK f m i U k)<m+1)=>.r 1<|.bd 28 ((k:Int)<(((Qaa f i).l).length:Int)) (fun p3=>.idxM ((Qaa f i).l) entA k (m:=(k:Int)) rfl (by omega) fun x1 hx1=>
 .r 1<|.new fun b2=>.u 1 [b2]<|
 .u 3 [b2]<|
 .op (lkRB prog) ((3,some (.agg #[])),(7,r,r,setM (upK f m i U k)),.i x1.ino,true,some 35) (fun (_:Unit) σ=>σ.put (some 35) (.tup [.agg [],aB (hasB (upK f m i U k) x1.ino)])) (Qof (Qcf (.i x1.ino) (setM (upK f m i U k)) 0) (Qmy (by kernel_rfl) _ (Qiz (upK f m i U k))) (by kernel_rfl) rfl (Ql9 (upK f m i U k) x1.ino)) fun _=>
 .r 3<|.new fun b3=>.u 2 [b3]<|
 .r 1<|.br 38 (hasB (upK f m i U k) x1.ino) (fun q4=>have p4:=booT q4;.run 2 [rng .i64 ((k:Int)+1)] ⟨Qaj (by omega) (by omega),trivial⟩<|
 .bk L1 k (k+1) ⟨by omega,by rw [Qz1 (Qkk hk hx1) q4];exact hH1.2⟩ (show (Qaa f i).l.length-(k+1)<(Qaa f i).l.length-k from (by omega)) [(27,aI ((k:Int)+1))] [(7,.mp r (setM (upK f m i U k)))] ⟨sR,sR,sR,sR,sO,trivial⟩ ⟨⟨_,rfl,SubB.of_eq (by rw [Qz1 (Qkk hk hx1) q4])⟩,trivial⟩)
 <| fun q4=>have p4:=booF q4;.u 4 [b2]<|
 .op (insR prog) (3,(7,r,r,setM (upK f m i U k)),.i x1.ino,AV.agg []) (fun (_:Unit) σ=>σ.setB 7 (.mp r (setM ((upK f m i U k)++[x1.ino])))) (Qrl (Qmy (by kernel_rfl) _ (Qiz (upK f m i U k))) (by kernel_rfl) (Zfx q4)) fun _=>
 .lent 3<|.u 3 [b2]<|
 .lop (lcR prog 7) ((129,[aI x1.ino,.dptr (fsyA f),.dptr [.mref 7 r],.dptr [CLn 129 [.dptr (fsyA f),.dptr [.mref 7 r]] m]],some 46),.mp r (setM ((upK f m i U k)++[x1.ino]))) (fun (_:Unit) σ=>(σ.put (some 46) (.tup [])).setB 7 (.mp r (setM (dfsF f m x1.ino ((upK f m i U k)++[x1.ino]))))) (Qdd (args':=[aI x1.ino,.dptr (fsyA f),.dptr [.mref 7 r],.dptr [CLn 129 [.dptr (fsyA f),.dptr [.mref 7 r]] m]]) sr4 (ih x1.ino ((upK f m i U k)++[x1.ino]) (by have:=Quf (f:=f) (Qp7 (List.mem_of_getElem? (Qkk hk hx1))) q4;omega))) fun _=>
 .run 2 [rng .i64 ((k:Int)+1)] ⟨Qaj (by omega) (by omega),trivial⟩<|
 .bk L1 k (k+1) ⟨by omega,by rw [Zjb (Qkk hk hx1) q4];have:=Zk2 (f:=f) (n:=m) (i:=x1.ino) (U:=upK f m i U k++[x1.ino]);have:=Quf (f:=f) (Qp7 (List.mem_of_getElem? (Qkk hk hx1))) q4;omega⟩ (show (Qaa f i).l.length-(k+1)<(Qaa f i).l.length-k from (by omega)) [(27,aI ((k:Int)+1))] [(7,.mp r (setM (dfsF f m x1.ino ((upK f m i U k)++[x1.ino]))))] ⟨sR,sR,sR,sR,sO,trivial⟩ ⟨⟨_,rfl,SubB.of_eq (by rw [Zjb (Qkk hk hx1) q4])⟩,trivial⟩)
 <| fun p3=>.st (mpR 7) (r,setM (upK f m i U k)) (fun (_:Unit) σ=>σ.setB 7 (.mp r (setM (dfsF f (m+1) i U)))) (Qt2 (by rw [Zkc (by rw [Zhb hk];omega)])) fun _=>
 .finB (x:=.tup []) (r:=.tup []) [] trivial (.mp r (setM (dfsF f (m+1) i U))) (by exact sR)) a1 ha1)
theorem Qwp (f:Fsy) (r:Nat) (okf:OkF f) (hl:f.l.length≤100000) (hr:Qbq f.l):∀ (m:Nat) (i:Int) (U:List Int),remF f U<m→Qh8 prog 129 [aI i,.dptr (fsyA f),.dptr [.mref 7 r],.dptr [CLn 129 [.dptr (fsyA f),.dptr [.mref 7 r]] m]] (.mp r (setM U)) (.tup []) (.mp r (setM (dfsF f m i U)))
 | 0,_,_,h=>absurd h (Nat.not_lt_zero _)
 | m+1,i,U,h=>Zco f r okf hl hr m (Qwp f r okf hl hr m) i U h
theorem Qol (f:Fsy) (i:Int) (okf:OkF f) (hl:f.l.length≤100000) (hr:Qbq f.l):Qaf prog 82 [.agg (fsyA f),aI i] (.mp (setM (Qcj f i))):=by
 exact Qac func82 (let R:AV:=.mp (setM (Qcj f i));
 .new fun b1=>.r 1<|.mkMap fun r2=>.new fun b3=>.u 1 [b3]<|
 .new fun b4=>.u 2 [b4]<|
 .frz 2 [1,4,5,6] [7,5,6] [b1=b1] rt1<|
 .frz 5 [1,4,5,6] [7,6] [b3=b3,b3=b3] rt2<|
 .st (fun s=>(recR 6 s).map fun x=>(x,lget s.tm 6)) ((b4,178,129,[.dptr (fsyA f),.dptr [.mref 7 r2]],6,b4),.ptr 6 b4 0) (fun (_:Unit) σ=>recS 6 6 (CLn 129 [.dptr (fsyA f),.dptr [.mref 7 r2]] (((Qij f).length+1)+1)) [1,4,5] [7] σ) (Zf8 (((Qij f).length+1)+1) [1,4,5] [7]) fun _=>
 .lent 2<|.r 2<|.lop (lcR prog 7) ((129,[aI i,.dptr (fsyA f),.dptr [.mref 7 r2],.dptr [CLn 129 [.dptr (fsyA f),.dptr [.mref 7 r2]] ((Qij f).length+1)]],some 11),.mp r2 []) (fun (_:Unit) σ=>(σ.put (some 11) (.tup [])).setB 7 (.mp r2 (setM (Qcj f i)))) (Qdd (args':=[aI i,.dptr (fsyA f),.dptr [.mref 7 r2],.dptr [CLn 129 [.dptr (fsyA f),.dptr [.mref 7 r2]] ((Qij f).length+1)]]) sr4 (Qwp f r2 okf hl hr ((Qij f).length+1) i [] (Za9 f))) fun _=>
 .r 2<|.frz 7 [4] [] [r2=r2] rt1<|
 .fi R [])
theorem Qzo (f:Fsy) (i j:Int) (okf:OkF f) (hl:f.l.length≤100000) (hr:Qbq f.l):Qaf prog 222 [.agg (fsyA f),aI i,aI j] (aB (hasB (Qcj f j) i)):=by
 exact Qac func222 (let R:AV:=aB (hasB (Qcj f j) i);
 .new fun b1=>.r 1<|.u 2 [b1]<|
 .call (Qol f j okf hl hr)<|
 .r 1<|.op (lkRO prog) ((3,some (.agg #[])),setM (Qcj f j),.i i,true,some 14) (fun (_:Unit) σ=>σ.put (some 14) (.tup [.agg [],aB (hasB (Qcj f j) i)])) (Qkc (Qcf (.i i) (setM (Qcj f j)) 0) (Qmy (by kernel_rfl) _ (Qiz (Qcj f j))) (by kernel_rfl) rfl (Ql9 (Qcj f j) i)) fun _=>
 .r 3<|.new fun b2=>.u 2 [b2]<|
 .r 2<|.fi R [])
def cntI:List (Int × Nat)→Int→List (Int × Nat)
 | [],z=>[(z,1)]
 | p :: r,z=>if p.1=z then (p.1,p.2+1) :: r else p :: cntI r z
def cntG:List (Int × Nat)→Int→Nat
 | [],_=>0
 | p :: r,z=>if p.1=z then p.2 else cntG r z
def cntT (L:List (Int × Nat)):Nat:=(L.map (·.2)).sum
def cntM (L:List (Int × Nat)):List (MK × AV):=L.map fun p=>(MK.i p.1,aI (p.2:Int))
theorem Qnj (L:List (Int × Nat)):∀ p∈cntM L,∃ z,p.1=.i z:=fun p hp=>by
 obtain ⟨z,_,rfl⟩:=List.mem_map.1 hp;exact ⟨z.1,rfl⟩
theorem Qvh:∀ (L:List (Int × Nat)) (z:Int),cntG L z≤cntT L
 | [],_=>Nat.zero_le _
 | p :: r,z=>by
  have:=Qvh r z;unfold cntG cntT;simp only [List.map_cons,List.sum_cons];unfold cntT at this
  split<;>omega
theorem Zj4:∀ (L:List (Int × Nat)) (z:Int),cntT (cntI L z)=cntT L+1
 | [],z=>rfl
 | p :: r,z=>by
  have:=Zj4 r z;unfold cntI;unfold cntT at *
  split
  ·simp only [List.map_cons,List.sum_cons];omega
  ·simp only [List.map_cons,List.sum_cons];omega
theorem Zj5:∀ (L:List (Int × Nat)) (y z:Int),cntG (cntI L y) z=cntG L z+if y=z then 1 else 0
 | [],y,z=>by
  unfold cntI cntG
  split<;>simp_all [cntG]
 | p :: r,y,z=>by
  have ih:=Zj5 r y z;unfold cntI
  split
  ·rename_i h;subst h;simp only [cntG]
   split<;>simp_all
  ·rename_i h;simp only [cntG]
   split
   ·rename_i h2;have:¬ y=z:=fun e=>h (h2.trans e.symm);simp [this]
   ·exact ih
theorem Qnk:∀ (L:List (Int × Nat)) (z:Int) (i:Nat),
  (Qcf (.i z) (cntM L) i=none→cntG L z=0∧cntM (cntI L z)=cntM L++[(.i z,aI 1)]) ∧
  ∀ j x,Qcf (.i z) (cntM L) i=some (j,x)→i≤j∧x=aI (cntG L z:Int)∧cntM (cntI L z)=(cntM L).set (j-i) (.i z,aI ((cntG L z:Int)+1))
 | [],z,i=>⟨fun _=>⟨rfl,rfl⟩,fun j x h=>by cases h⟩
 | p :: r,z,i=>by
  obtain ⟨g1,g2⟩:=Qnk r z (i+1);show (Qcf (.i z) ((MK.i p.1,aI (p.2:Int)) :: cntM r) i=none→_)∧∀ j x,Qcf (.i z) ((MK.i p.1,aI (p.2:Int)) :: cntM r) i=some (j,x)→_;unfold Qcf;by_cases hp:p.1=z
  ·subst hp;simp only [if_true];refine ⟨fun h=>(by cases h),fun j x h=>?_⟩;simp only [Option.some.injEq,Prod.mk.injEq] at h;obtain ⟨rfl,rfl⟩:=h;refine ⟨Nat.le_refl _,by simp [cntG],?_⟩;simp [cntI,cntM,cntG]
  ·rw [if_neg (fun e=>hp (by injection e))];refine ⟨fun h=>?_,fun j x h=>?_⟩
   ·obtain ⟨h1,h2⟩:=g1 h;refine ⟨by simp [cntG,hp,h1],?_⟩;unfold cntI;rw [if_neg hp];show (MK.i p.1,aI (p.2:Int)) :: cntM (cntI r z)=_;rw [h2];rfl
   ·obtain ⟨h1,h2,h3⟩:=g2 j x h;refine ⟨by omega,by simp [cntG,hp,h2],?_⟩;unfold cntI;rw [if_neg hp];show (MK.i p.1,aI (p.2:Int)) :: cntM (cntI r z)=((MK.i p.1,aI (p.2:Int)) :: cntM r).set (j-i) _;rw [h3,show j-i=(j-(i+1))+1 from by omega,List.set_cons_succ,show cntG (p :: r) z=cntG r z from by simp [cntG,hp]]
theorem Qs3 (L:List (Int × Nat)) (z:Int):lkS false (Qcf (.i z) (cntM L) 0) (.int .i64 0) (aI (cntG L z:Int)):=by
 obtain ⟨h1,h2⟩:=Qnk L z 0;unfold lkS Qp5;rw [if_neg (by decide)];cases hm:Qcf (.i z) (cntM L) 0 with
 | none=>rw [(h1 hm).1];exact sR
 | some p=>
  obtain ⟨j,x⟩:=p;obtain ⟨_,e,_⟩:=h2 j x hm;rw [e];exact sR
theorem Zin (L:List (Int × Nat)) (z:Int):mput (cntM L) (.i z) (aI ((cntG L z:Int)+1))=cntM (cntI L z):=by
 obtain ⟨h1,h2⟩:=Qnk L z 0;unfold mput;cases hm:Qcf (.i z) (cntM L) 0 with
 | none=>obtain ⟨e1,e2⟩:=h1 hm;rw [e1];exact e2.symm
 | some p=>
  obtain ⟨j,x⟩:=p;obtain ⟨_,_,e⟩:=h2 j x hm;exact e.symm
def Qdq (L:List (Int × Nat)) (l:List Ent):List (Int × Nat):=l.foldl (fun L e=>cntI L e.ino) L
def Qcg (L:List (Int × Nat)) (l:List Nod):List (Int × Nat):=l.foldl (fun L n=>if n.kind=2 then Qdq L n.l else L) L
def Qbs (f:Fsy):List (Int × Nat):=Qcg [] f.l
theorem Qo8 {L:List (Int × Nat)} {l:List Ent} {j:Nat} {x:Ent} (h:l[j]?=some x):Qdq L (l.take (j+1))=cntI (Qdq L (l.take j)) x.ino:=by
 unfold Qdq;rw [Qak h,List.foldl_append];rfl
theorem Qs2 {L:List (Int × Nat)} {l:List Nod} {j:Nat} {x:Nod} (h:l[j]?=some x) (hk:x.kind=2):Qcg L (l.take (j+1))=Qdq (Qcg L (l.take j)) x.l:=by
 unfold Qcg;rw [Qak h,List.foldl_append,List.foldl_cons,List.foldl_nil,if_pos hk]
theorem Qxi {L:List (Int × Nat)} {l:List Nod} {j:Nat} {x:Nod} (h:l[j]?=some x) (hk:¬ x.kind=2):Qcg L (l.take (j+1))=Qcg L (l.take j):=by
 unfold Qcg;rw [Qak h,List.foldl_append,List.foldl_cons,List.foldl_nil,if_neg hk]
theorem Zgz {n:Nod} (h:nodP n):n.l.length≤256:=by
 rcases h.2.2.2 with ⟨_,_,h⟩ | ⟨_,_,h⟩
 ·exact h.1
 ·rw [h];decide
theorem Zga {f:Fsy} (h:Qam f) {n:Nod} (hn:n∈f.l):n.l.length≤256:=Zgz ((Qbg.1 h).2.2.1 n hn).1
theorem Qvd (f:Fsy) (hp:Qam f):Qaf prog 80 [.agg (fsyA f)] (.mp (cntM (Qcg [] (f.l.take f.l.length)))):=by
 have hfl:=hp.1;exact Qac func80 (
 .new fun b1=>.r 1<|.mkMap fun r2=>.r 1<|.u 3 [b1]<|
 .lm 11 f.l nodA<|.r 1<|let L1:Lp (Nat):=⟨fun a1=>⟨[(3,.mref 8 r2),(10,.sl 5 false (f.l.map nodA)),(11,aI (f.l.length:Int)),(12,aI (a1:Int))],[(8,.mp r2 (cntM (Qcg [] (f.l.take a1))))]⟩,fun a1=>f.l.length-a1,fun a1=>a1≤f.l.length∧cntT (Qcg [] (f.l.take a1))≤256*a1⟩
 .lp L1 0 ⟨Nat.zero_le _,Nat.le_refl _⟩ [(12,aI 0)] [(8,.mp r2 [])] ⟨sR,sR,sR,sO,trivial⟩ ⟨⟨_,rfl,SubB.of_eq rfl⟩,trivial⟩ fun a1 ha1=>
 (fun (k:Nat) (hH1:k≤f.l.length∧cntT (Qcg [] (f.l.take k))≤256*k)=>.r 1<|.br 13 (decide ((k:Int)<(f.l.length:Int))) (fun q1=>have p1:=decT q1;.idxM f.l nodA k (m:=(k:Int)) rfl (by omega) fun x1 hx1=>
 have blx1:=Zga hp (List.mem_of_getElem? hx1);.r 1<|.new fun b3=>.u 1 [b3]<|
 .u 3 [b3]<|
 .br 18 (x1.kind != 2) (fun q2=>have p2:=bneT q2;.run 2 [rng .i64 ((k:Int)+1)] ⟨Qaj (by omega) (by omega),trivial⟩<|
 .bk L1 k (k+1) ⟨by omega,by rw [Qxi hx1 (by assumption)];omega⟩ (show f.l.length-(k+1)<f.l.length-k from (by omega)) [(12,aI ((k:Int)+1))] [(8,.mp r2 (cntM (Qcg [] (f.l.take k))))] ⟨sR,sR,sR,sO,trivial⟩ ⟨⟨_,rfl,SubB.of_eq (by rw [Qxi hx1 (by assumption)])⟩,trivial⟩)
 <| fun q2=>have p2:=bneF q2;.u 3 [b3]<|
 .lm 21 x1.l entA<|.r 1<|let L2:Lp (Nat):=⟨fun a2=>⟨[(3,.mref 8 r2),(10,.sl 5 false (f.l.map nodA)),(11,aI (f.l.length:Int)),(12,aI (k:Int)),(20,.sl 2 false (x1.l.map entA)),(21,aI (x1.l.length:Int)),(22,aI (a2:Int))],[(8,.mp r2 (cntM (Qdq (Qcg [] (f.l.take k)) (x1.l.take a2))))]⟩,fun a2=>x1.l.length-a2,fun a2=>a2≤x1.l.length∧cntT (Qdq (Qcg [] (f.l.take k)) (x1.l.take a2))≤256*k+a2⟩
 .lp L2 0 ⟨Nat.zero_le _,hH1.2⟩ [(22,aI 0)] [(8,.mp r2 (cntM (Qcg [] (f.l.take k))))] ⟨sR,sR,sR,sR,sR,sR,sO,trivial⟩ ⟨⟨_,rfl,SubB.of_eq rfl⟩,trivial⟩ fun a2 ha2=>
 (fun (j:Nat) (hH2:j≤x1.l.length∧cntT (Qdq (Qcg [] (f.l.take k)) (x1.l.take j))≤256*k+j)=>.r 1<|.br 23 (decide ((j:Int)<(x1.l.length:Int))) (fun q3=>have p3:=decT q3;.idxM x1.l entA j (m:=(j:Int)) rfl (by omega) fun x2 hx2=>
 .r 1<|.new fun b4=>.u 1 [b4]<|
 .u 3 [b4]<|
 .op (lkRB prog) ((3,some (.int .i64 0)),(8,r2,r2,cntM (Qdq (Qcg [] (f.l.take k)) (x1.l.take j))),.i x2.ino,false,some 29) (fun (_:Unit) σ=>σ.put (some 29) (aI (cntG (Qdq (Qcg [] (f.l.take k)) (x1.l.take j)) x2.ino:Int))) (Qof (Qcf (.i x2.ino) (cntM (Qdq (Qcg [] (f.l.take k)) (x1.l.take j))) 0) (Qmy (by kernel_rfl) _ (Qnj (Qdq (Qcg [] (f.l.take k)) (x1.l.take j)))) (by kernel_rfl) rfl (Qs3 (Qdq (Qcg [] (f.l.take k)) (x1.l.take j)) x2.ino)) fun _=>
 have hcg:=Qvh (Qdq (Qcg [] (f.l.take k)) (x1.l.take j)) x2.ino;.run 1 [rng .i64 ((cntG (Qdq (Qcg [] (f.l.take k)) (x1.l.take j)) x2.ino:Int)+1)] ⟨Qaj (by omega) (by omega),trivial⟩<|
 .op (insR prog) (3,(8,r2,r2,cntM (Qdq (Qcg [] (f.l.take k)) (x1.l.take j))),.i x2.ino,aI ((cntG (Qdq (Qcg [] (f.l.take k)) (x1.l.take j)) x2.ino:Int)+1)) (fun (_:Unit) σ=>σ.setB 8 (.mp r2 (cntM (cntI (Qdq (Qcg [] (f.l.take k)) (x1.l.take j)) x2.ino)))) (Qrl (Qmy (by kernel_rfl) _ (Qnj (Qdq (Qcg [] (f.l.take k)) (x1.l.take j)))) (by kernel_rfl) (Zin (Qdq (Qcg [] (f.l.take k)) (x1.l.take j)) x2.ino)) fun _=>
 .run 2 [rng .i64 ((j:Int)+1)] ⟨Qaj (by omega) (by omega),trivial⟩<|
 .bk L2 j (j+1) ⟨by omega,by rw [Qo8 hx2,Zj4];omega⟩ (show x1.l.length-(j+1)<x1.l.length-j from (by omega)) [(22,aI ((j:Int)+1))] [(8,.mp r2 (cntM (cntI (Qdq (Qcg [] (f.l.take k)) (x1.l.take j)) x2.ino)))] ⟨sR,sR,sR,sR,sR,sR,sO,trivial⟩ ⟨⟨_,rfl,SubB.of_eq (by rw [Qo8 hx2])⟩,trivial⟩)
 <| fun q3=>have p3:=decF q3;.run 2 [rng .i64 ((k:Int)+1)] ⟨Qaj (by omega) (by omega),trivial⟩<|
 .bk L1 k (k+1) ⟨by omega,by rw [show Qcg [] (f.l.take (k+1))=Qdq (Qcg [] (f.l.take k)) (x1.l.take j) from (by rw [Qs2 hx1 (by assumption),Qav (show x1.l.length≤j from by omega)])];omega⟩ (show f.l.length-(k+1)<f.l.length-k from (by omega)) [(12,aI ((k:Int)+1))] [(8,.mp r2 (cntM (Qdq (Qcg [] (f.l.take k)) (x1.l.take j))))] ⟨sR,sR,sR,sO,trivial⟩ ⟨⟨_,rfl,SubB.of_eq (by rw [show Qcg [] (f.l.take (k+1))=Qdq (Qcg [] (f.l.take k)) (x1.l.take j) from (by rw [Qs2 hx1 (by assumption),Qav (show x1.l.length≤j from by omega)])])⟩,trivial⟩) a2 ha2)
 <| fun q1=>have p1:=decF q1;.r 2<|.frz 8 [2] [] [r2=r2] rt1<|
 .f (.mp (cntM (Qcg [] (f.l.take f.l.length)))) [] (.mp (cntM (Qcg [] (f.l.take k)))) (by exact Sub.of_eq (by rw [show k=f.l.length from by omega]))) a1 ha1)
theorem Qzj (f:Fsy) (hp:Qam f):Qaf prog 80 [.agg (fsyA f)] (.mp (cntM (Qbs f))):=by
 have h:=Qvd f hp;rw [Qav (Nat.le_refl _)] at h;exact h
end Go.Proofs.YtahlldgocpabjaaGreat
