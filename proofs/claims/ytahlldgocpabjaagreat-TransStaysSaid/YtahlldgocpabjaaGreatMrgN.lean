import Derived.Test.YtahlldgocpabjaaGreatMrgL
import Derived.Test.YtahlldgocpabjaaGreatMrgM
import Derived.Laws.IdiomRangeMap
import Derived.Test.YtahlldgocpabjaaGreatMrgB
set_option maxRecDepth 100000
set_option maxHeartbeats 8000000
set_option linter.unusedVariables false
set_option linter.unusedSimpArgs false
namespace Go.Proofs.YtahlldgocpabjaaGreat
open Go Go.RowKit Copyhold
def Qa3 (f:Fsy) (i:Int):List Int:=if (Qaa f i).kind=2 then (Qaa f i).l.map Ent.ino else []
theorem Qox {f:Fsy} {i z:Int} (h:z∈Qa3 f i):z∈Qho f:=by
 unfold Qa3 at h
 split at h
 ·obtain ⟨e,he,rfl⟩:=List.mem_map.1 h
  exact Qez he
 ·cases h
def dfsF (f:Fsy):Nat→Int→List Int→List Int
 | 0,_,U=>U
 | n+1,i,U=>(Qa3 f i).foldl (fun U z=>if hasB U z=true then U else dfsF f n z (U++[z])) U
def upK (f:Fsy) (n:Nat) (i:Int) (U:List Int) (k:Nat):List Int:=((Qa3 f i).take k).foldl (fun U z=>if hasB U z=true then U else dfsF f n z (U++[z])) U
theorem Qxv {f:Fsy} {n:Nat} {i z:Int} {U:List Int} {k:Nat} (hz:(Qa3 f i)[k]?=some z) (h:hasB (upK f n i U k) z=true):upK f n i U (k+1)=upK f n i U k:=by
 unfold upK at h ⊢
 rw [Qap hz,List.foldl_append,List.foldl_cons,List.foldl_nil,if_pos h]
theorem Zgd {f:Fsy} {n:Nat} {i z:Int} {U:List Int} {k:Nat} (hz:(Qa3 f i)[k]?=some z) (h:hasB (upK f n i U k) z=false):upK f n i U (k+1)=dfsF f n z (upK f n i U k++[z]):=by
 unfold upK at h ⊢
 rw [Qap hz,List.foldl_append,List.foldl_cons,List.foldl_nil,if_neg (by rw [h];decide)]
theorem Zhe {f:Fsy} {n:Nat} {i:Int} {U:List Int} {k:Nat} (hk:(Qa3 f i).length≤k):upK f n i U k=dfsF f (n+1) i U:=by unfold upK;rw [Qay hk];rfl
theorem Qjk {f:Fsy} {i:Int} {k:Nat} {x:Ent} (hk:(Qaa f i).kind=2) (h:(Qaa f i).l[k]?=some x):(Qa3 f i)[k]?=some x.ino:=by
 unfold Qa3
 rw [if_pos hk,List.getElem?_map,h];rfl
theorem Zej {f:Fsy} {i:Int} (hk:(Qaa f i).kind=2):(Qa3 f i).length=(Qaa f i).l.length:=by
 unfold Qa3
 rw [if_pos hk,List.length_map]
theorem Zik {f:Fsy} {i:Int} (h:¬ (Qaa f i).kind=2):Qa3 f i=[]:=if_neg h
theorem Zg4 {f:Fsy} {n:Nat} {i:Int} {U:List Int} (h:¬ (Qaa f i).kind=2):dfsF f n i U=U:=by
 cases n with
 | zero=>rfl
 | succ n=>show (Qa3 f i).foldl _ U=U;rw [Zik h];rfl
theorem Qq7 {f:Fsy} {i:Int} (h:Qar f i=false):¬ (Qaa f i).kind=2:=by
 unfold Qar at h
 unfold Qaa
 rw [List.find?_eq_none.2 fun x hx=>by simpa using List.any_eq_false.1 h x hx]
 decide
def remF (f:Fsy) (U:List Int):Nat:=(Qho f).countP fun z=>!hasB U z
theorem Qdw {U:List Int} {x z:Int}:hasB (U++[x]) z=(hasB U z||x==z):=by unfold hasB;simp
theorem Qpg {α:Type} {p q:α→Bool}:∀ {l:List α},(∀ x∈l,p x=true→q x=true)→l.countP p≤l.countP q
 | [],_=>Nat.le_refl _
 | x :: r,h=>by
  have ih:=Qpg (l:=r) fun y hy=>h y (by simp [hy])
  rw [List.countP_cons,List.countP_cons]
  have:=h x (by simp)
  cases hp:p x<;>cases hq:q x<;>simp_all<;>omega
theorem Qvg {α:Type} {p q:α→Bool}:∀ {l:List α} {z:α},(∀ x∈l,p x=true→q x=true)→z∈l→p z=false→q z=true→l.countP p<l.countP q
 | x :: r,z,h,hz,h1,h2=>by
  rw [List.countP_cons,List.countP_cons]
  have hx:=h x (by simp)
  rcases List.mem_cons.1 hz with e | hz
  ·rw [← e,h1,h2]
   have:=Qpg (l:=r) fun y hy=>h y (by simp [hy])
   simp
   omega
  ·have ih:=Qvg (l:=r) (fun y hy=>h y (by simp [hy])) hz h1 h2
   cases hp:p x<;>cases hq:q x<;>simp_all<;>omega
theorem Qt7 {f:Fsy} {U V:List Int} (h:∀ z,hasB U z=true→hasB V z=true):remF f V≤remF f U:=by
 refine Qpg fun x _ hx=>?_
 cases hu:hasB U x with
 | false=>rfl
 | true=>rw [h x hu] at hx;cases hx
theorem Qsi {f:Fsy} {U:List Int} {z:Int} (hz:z∈Qho f) (h:hasB U z=false):remF f (U++[z])<remF f U:=by
 refine Qvg (z:=z) (fun x _ hx=>?_) hz (by rw [Qdw];simp) (by rw [h];rfl)
 rw [Qdw] at hx
 simp only [Bool.not_eq_true',Bool.or_eq_false_iff] at hx
 rw [hx.1];rfl
theorem Qpd {f:Fsy}:∀ (n:Nat) (i:Int) (U:List Int) (z:Int),hasB U z=true→hasB (dfsF f n i U) z=true
 | 0,_,_,_,h=>h
 | n+1,i,U,z,h=>by
  show hasB ((Qa3 f i).foldl _ U) z=true
  generalize Qa3 f i=l
  induction l generalizing U with
  | nil=>exact h
  | cons x r ih=>
   rw [List.foldl_cons]
   refine ih _ ?_
   split
   ·exact h
   ·exact Qpd n x _ z (by rw [Qdw,h];rfl)
theorem Zh1 {f:Fsy} {n:Nat} {i:Int} {U:List Int}:remF f (dfsF f n i U)≤remF f U:=Qt7 fun z h=>Qpd n i U z h
inductive Reach (f:Fsy):Int→Int→Prop where
 | one {i z:Int}:z∈Qa3 f i→Reach f i z
 | more {i y z:Int}:y∈Qa3 f i→Reach f y z→Reach f i z
theorem Reach.trans {f:Fsy} {a b c:Int} (h:Reach f a b) (h2:Reach f b c):Reach f a c:=by
 induction h with
 | one h=>exact .more h h2
 | more h _ ih=>exact .more h (ih h2)
theorem Reach.snoc {f:Fsy} {a b c:Int} (h:Reach f a b) (h2:c∈Qa3 f b):Reach f a c:=h.trans (.one h2)
def Zcy (f:Fsy) (U V:List Int):Prop:=∀ z,hasB V z=true→hasB U z=false→∀ y∈Qa3 f z,hasB V y=true
theorem Qnw {f:Fsy}:∀ (n:Nat) (i:Int) (U:List Int),remF f U<n →
  (∀ y∈Qa3 f i,hasB (dfsF f n i U) y=true)∧Zcy f U (dfsF f n i U)∧∀ z,hasB (dfsF f n i U) z=true→hasB U z=true∨Reach f i z
 | 0,_,_,h=>absurd h (Nat.not_lt_zero _)
 | n+1,i,U,h=>by
  have key:∀ (l:List Int),(∀ y∈l,y∈Qa3 f i)→∀ (V:List Int),(∀ z,hasB U z=true→hasB V z=true)→Zcy f U V→(∀ z,hasB V z=true→hasB U z=true∨Reach f i z) →
    let W:=l.foldl (fun U z=>if hasB U z=true then U else dfsF f n z (U++[z])) V
    (∀ z,hasB V z=true→hasB W z=true)∧(∀ y∈l,hasB W y=true)∧Zcy f U W∧∀ z,hasB W z=true→hasB U z=true∨Reach f i z:=by
   intro l
   induction l with
   | nil=>exact fun _ V _ h2 h3=>⟨fun _ h=>h,fun y hy=>by (cases hy),h2,h3⟩
   | cons x r ih=>
    intro hl V h1 h2 h3
    simp only [List.foldl_cons]
    by_cases hx:hasB V x=true
    ·simp only [hx,if_true]
     obtain ⟨g0,g1,g2,g3⟩:=ih (fun y hy=>hl y (by simp [hy])) V h1 h2 h3
     refine ⟨g0,fun y hy=>?_,g2,g3⟩
     rcases List.mem_cons.1 hy with e | hy
     ·rw [e];exact g0 x hx
     ·exact g1 y hy
    ·rw [if_neg hx]
     have hx':hasB V x=false:=by simpa using hx
     have hr1:remF f V≤remF f U:=Qt7 (f:=f) h1
     have hr2:=Qsi (f:=f) (Qox (hl x (by simp))) hx'
     obtain ⟨d1,d2,d3⟩:=Qnw (f:=f) n x (V++[x]) (by omega)
     have hm:=Qpd (f:=f) n x (V++[x])
     have hxx:hasB (dfsF f n x (V++[x])) x=true:=hm x (by rw [Qdw];simp)
     obtain ⟨g0,g1,g2,g3⟩:=ih (fun y hy=>hl y (by simp [hy])) (dfsF f n x (V++[x])) (fun z hz=>hm z (by rw [Qdw,h1 z hz];rfl)) (fun z hz hu y hy=>by
      by_cases hv:hasB V z=true
      ·exact hm y (by rw [Qdw,h2 z hv hu y hy];rfl)
      ·by_cases hzx:z=x
       ·rw [hzx] at hy;exact d1 y hy
       ·refine d2 z hz ?_ y hy
        rw [Qdw]
        have e1:hasB V z=false:=by simpa using hv
        have e2:(x==z)=false:=by simpa using fun e=>hzx (by rw [← e])
        rw [e1,e2];rfl) (fun z hz=>by
      rcases d3 z hz with hd | hd
      ·rw [Qdw] at hd
       by_cases hv:hasB V z=true
       ·exact h3 z hv
       ·have e:x=z:=by simpa [hv] using hd
        rw [← e]
        exact .inr (.one (hl x (by simp)))
      ·exact .inr (.more (hl x (by simp)) hd))
     refine ⟨fun z hz=>g0 z (hm z (by rw [Qdw,hz];rfl)),fun y hy=>?_,g2,g3⟩
     rcases List.mem_cons.1 hy with e | hy
     ·rw [e];exact g0 x hxx
     ·exact g1 y hy
  obtain ⟨_,g1,g2,g3⟩:=key (Qa3 f i) (fun _ h=>h) U (fun _ h=>h) (fun z h1 h2=>by rw [h1] at h2;cases h2) (fun z h=>.inl h)
  exact ⟨g1,g2,g3⟩
def Qdb (f:Fsy) (i:Int):List Int:=dfsF f ((Qho f).length+1) i []
theorem Qyy (f:Fsy):remF f []<(Qho f).length+1:=Nat.lt_succ_of_le List.countP_le_length
theorem Qgf {f:Fsy} {i z:Int}:hasB (Qdb f i) z=true↔Reach f i z:=by
 obtain ⟨h1,h2,h3⟩:=Qnw _ i [] (Qyy f)
 refine ⟨fun h=>(h3 z h).resolve_left (by simp [hasB]),fun h=>?_⟩
 have main:∀ a b,Reach f a b→(∀ y∈Qa3 f a,hasB (Qdb f i) y=true)→hasB (Qdb f i) b=true:=by
  intro a b hab
  induction hab with
  | one h=>exact fun hk=>hk _ h
  | more h _ ih=>exact fun hk=>ih fun y hy=>h2 _ (hk _ h) rfl y hy
 exact main i z h h1
def setM (U:List Int):List (MK × AV):=U.map fun z=>(MK.i z,.agg [])
theorem Qk9 (U:List Int):∀ p∈setM U,∃ z,p.1=.i z:=fun p hp=>by
 obtain ⟨z,_,rfl⟩:=List.mem_map.1 hp
 exact ⟨z,rfl⟩
theorem Qjd:∀ (U:List Int) (z:Int) (i:Nat),(Qcb (.i z) (setM U) i).isSome=hasB U z∧∀ j x,Qcb (.i z) (setM U) i=some (j,x)→x=.agg []
 | [],z,i=>⟨rfl,fun j x h=>by cases h⟩
 | y :: r,z,i=>by
  obtain ⟨h1,h2⟩:=Qjd r z (i+1)
  show (Qcb (.i z) ((MK.i y,AV.agg []) :: setM r) i).isSome=_∧∀ j x,Qcb (.i z) ((MK.i y,AV.agg []) :: setM r) i=some (j,x)→_
  unfold Qcb
  by_cases hy:y=z
  ·subst hy
   simp only [if_true]
   exact ⟨by simp [hasB],fun j x h=>by cases h;rfl⟩
  ·rw [if_neg (fun e=>hy (by injection e))]
   refine ⟨?_,h2⟩
   rw [h1]
   unfold hasB
   have e:(y==z)=false:=by simpa using hy
   rw [List.any_cons,e,Bool.false_or]
theorem Zc3:Sub (.val (.agg #[])) (.agg []):=fun D w v h=>by
 cases h
 exact .agg [] #[] rfl (fun j v h=>by simp at h) (fun j x v h=>by simp at h)
theorem Qpz (U:List Int) (z:Int):lkS true (Qcb (.i z) (setM U) 0) (.agg #[]) (.tup [.agg [],aB (hasB U z)]):=by
 obtain ⟨h1,h2⟩:=Qjd U z 0
 unfold lkS Qql
 rw [if_pos rfl,h1]
 refine Sub.tups ⟨?_,sR,trivial⟩
 cases hm:Qcb (.i z) (setM U) 0 with
 | none=>exact Zc3
 | some p=>
  obtain ⟨j,x⟩:=p
  rw [h2 j x hm]
  exact sR
theorem Zdh {U:List Int} {z:Int} (h:hasB U z=false):mput (setM U) (.i z) (.agg [])=setM (U++[z]):=by
 obtain ⟨h1,h2⟩:=Qjd U z 0
 unfold mput
 cases hm:Qcb (.i z) (setM U) 0 with
 | none=>simp [setM]
 | some p=>rw [hm,h] at h1;cases h1
theorem Zab (f:Fsy) (r:Nat) (okf:OkF f) (hl:f.l.length≤100000) (hr:Qbs f.l) (m:Nat) (ih:∀ (i:Int) (U:List Int),remF f U<m→Qja Tryz.prog 129 [aI i,.dptr (fsyA f),.dptr [.mref 7 r],.dptr [CLn 129 [.dptr (fsyA f),.dptr [.mref 7 r]] m]] (.mp r (setM U)) (.tup []) (.mp r (setM (dfsF f m i U)))) (i:Int) (U:List Int) (h:remF f U<m+1):Qja Tryz.prog 129 [aI i,.dptr (fsyA f),.dptr [.mref 7 r],.dptr [.clo 129 [.dptr (fsyA f),.dptr [.mref 7 r],.dptr [CLn 129 [.dptr (fsyA f),.dptr [.mref 7 r]] m]]]] (.mp r (setM U)) (.tup []) (.mp r (setM (dfsF f (m+1) i U))):=by
 have hfb:=(Qf0 okf i).2.2.2.2.1
 exact Qil (q:=7) (F:=Tryz.f129) 400 (
 .r 2<|.call (Qce f i (by omega) hr)<|
 .r 3<|.new fun b1=>.run 2 [b1=b1] rt1<|
 .r 3<|.br 19 (!(Qar f i)) (fun q1=>have q1:=notT q1;have p1:=booF q1;.r 4<|.st (mpR 7) (r,setM U) (fun (_:Unit) σ=>σ.setB 7 (.mp r (setM (dfsF f (m+1) i U)))) (Qr6 (by rw [Zg4 (Qq7 q1)])) fun _=>
 .finB (x:=.tup []) (r:=.tup []) [] trivial (.mp r (setM (dfsF f (m+1) i U))) (by exact sR))
 <| fun q1=>have q1:=notF q1;have p1:=booT q1;.run 4 [b1=b1] rt1<|
 .br 23 (((Qaa f i).kind) != 2) (fun q2=>have p2:=bneT q2;.st (mpR 7) (r,setM U) (fun (_:Unit) σ=>σ.setB 7 (.mp r (setM (dfsF f (m+1) i U)))) (Qr6 (by rw [Zg4 (by assumption)])) fun _=>
 .finB (x:=.tup []) (r:=.tup []) [] trivial (.mp r (setM (dfsF f (m+1) i U))) (by exact sR))
 <| fun q2=>have p2:=bneF q2;have hk:(Qaa f i).kind=2:=(by simpa using q2);.run 3 [b1=b1] rt1<|
 .val 26 (show (aI (((Qaa f i).l.map entA).length:Int):AV)=aI (((Qaa f i).l).length:Int) from by rw [List.length_map])<|.r 1<|let L1:Lp (Nat):=⟨fun a1=>⟨[(2,.dptr [.mref 7 r]),(3,.dptr [.clo 129 [.dptr (fsyA f),.dptr [.mref 7 r],.dptr [CLn 129 [.dptr (fsyA f),.dptr [.mref 7 r]] m]]]),(25,.sl 2 false ((Qaa f i).l.map entA)),(26,aI (((Qaa f i).l).length:Int)),(27,aI (a1:Int))],[(7,.mp r (setM (upK f m i U a1)))]⟩,fun a1=>(Qaa f i).l.length-a1,fun a1=>a1≤(Qaa f i).l.length∧remF f (upK f m i U a1)<m+1⟩
 .loop L1 0 (show 0≤(Qaa f i).l.length∧remF f (upK f m i U 0)<m+1 from ⟨Nat.zero_le _,h⟩) ⟨[(2,.dptr [.mref 7 r]),(3,.dptr [.clo 129 [.dptr (fsyA f),.dptr [.mref 7 r],.dptr [CLn 129 [.dptr (fsyA f),.dptr [.mref 7 r]] m]]]),(25,.sl 2 false ((Qaa f i).l.map entA)),(26,aI (((Qaa f i).l).length:Int)),(27,aI 0)],[(7,.mp r (setM U))]⟩ ⟨sR,sR,sR,sR,Sub.of_eq (congrArg aI (by first | omega | rfl)),trivial⟩ ⟨⟨_,rfl,SubB.of_eq rfl⟩,trivial⟩ fun a1 ha1=>
 (fun (k:Nat) (hH1:k≤(Qaa f i).l.length∧remF f (upK f m i U k)<m+1)=>.r 1<|.br 28 (decide ((k:Int)<(((Qaa f i).l).length:Int))) (fun q3=>have p3:=decT q3;.idxM ((Qaa f i).l) entA k (m:=(k:Int)) rfl (by omega) fun x1 hx1=>
 .r 1<|.new fun b2=>.run 1 [b2=b2] rt1<|
 .run 3 [b2=b2] rt1<|
 .op (lkRB Tryz.prog) ((3,some (.agg #[])),(7,r,r,setM (upK f m i U k)),.i x1.ino,true,some 35) (fun (_:Unit) σ=>σ.put (some 35) (.tup [.agg [],aB (hasB (upK f m i U k) x1.ino)])) (Qv7 (Qcb (.i x1.ino) (setM (upK f m i U k)) 0) (Zam (by kernel_rfl) _ (Qk9 (upK f m i U k))) (by kernel_rfl) rfl (Qpz (upK f m i U k) x1.ino)) fun _=>
 .r 3<|.new fun b3=>.run 2 [b3=b3] rt1<|
 .r 1<|.br 38 (hasB (upK f m i U k) x1.ino) (fun q4=>have p4:=booT q4;.run 2 [rng .i64 ((k:Int)+1)] ⟨Qas (by omega) (by omega),trivial⟩<|
 .back L1 k (k+1) (show (k+1)≤(Qaa f i).l.length∧remF f (upK f m i U (k+1))<m+1 from ⟨by omega,by rw [Qxv (Qjk hk hx1) q4];exact hH1.2⟩) (show (Qaa f i).l.length-(k+1)<(Qaa f i).l.length-k from (by omega)) ⟨[(2,.dptr [.mref 7 r]),(3,.dptr [.clo 129 [.dptr (fsyA f),.dptr [.mref 7 r],.dptr [CLn 129 [.dptr (fsyA f),.dptr [.mref 7 r]] m]]]),(25,.sl 2 false ((Qaa f i).l.map entA)),(26,aI (((Qaa f i).l).length:Int)),(27,aI ((k:Int)+1))],[(7,.mp r (setM (upK f m i U k)))]⟩ ⟨sR,sR,sR,sR,Sub.of_eq (congrArg aI (by first | omega | rfl)),trivial⟩ ⟨⟨_,rfl,SubB.of_eq (by rw [Qxv (Qjk hk hx1) q4])⟩,trivial⟩)
 <| fun q4=>have p4:=booF q4;.run 4 [b2=b2] rt1<|
 .op (insR Tryz.prog) (3,(7,r,r,setM (upK f m i U k)),.i x1.ino,AV.agg []) (fun (_:Unit) σ=>σ.setB 7 (.mp r (setM ((upK f m i U k)++[x1.ino])))) (Qym (Zam (by kernel_rfl) _ (Qk9 (upK f m i U k))) (by kernel_rfl) (Zdh q4)) fun _=>
 .lent 3<|.run 3 [b2=b2] rt1<|
 .lop (lcR Tryz.prog 7) ((129,[aI x1.ino,.dptr (fsyA f),.dptr [.mref 7 r],.dptr [CLn 129 [.dptr (fsyA f),.dptr [.mref 7 r]] m]],some 46),.mp r (setM ((upK f m i U k)++[x1.ino]))) (fun (_:Unit) σ=>(σ.put (some 46) (.tup [])).setB 7 (.mp r (setM (dfsF f m x1.ino ((upK f m i U k)++[x1.ino]))))) (Qda (args':=[aI x1.ino,.dptr (fsyA f),.dptr [.mref 7 r],.dptr [CLn 129 [.dptr (fsyA f),.dptr [.mref 7 r]] m]]) sr4 (ih x1.ino ((upK f m i U k)++[x1.ino]) (by have:=Qsi (f:=f) (Qox (List.mem_of_getElem? (Qjk hk hx1))) q4;omega))) fun _=>
 .run 2 [rng .i64 ((k:Int)+1)] ⟨Qas (by omega) (by omega),trivial⟩<|
 .back L1 k (k+1) (show (k+1)≤(Qaa f i).l.length∧remF f (upK f m i U (k+1))<m+1 from ⟨by omega,by rw [Zgd (Qjk hk hx1) q4];have:=Zh1 (f:=f) (n:=m) (i:=x1.ino) (U:=upK f m i U k++[x1.ino]);have:=Qsi (f:=f) (Qox (List.mem_of_getElem? (Qjk hk hx1))) q4;omega⟩) (show (Qaa f i).l.length-(k+1)<(Qaa f i).l.length-k from (by omega)) ⟨[(2,.dptr [.mref 7 r]),(3,.dptr [.clo 129 [.dptr (fsyA f),.dptr [.mref 7 r],.dptr [CLn 129 [.dptr (fsyA f),.dptr [.mref 7 r]] m]]]),(25,.sl 2 false ((Qaa f i).l.map entA)),(26,aI (((Qaa f i).l).length:Int)),(27,aI ((k:Int)+1))],[(7,.mp r (setM (dfsF f m x1.ino ((upK f m i U k)++[x1.ino]))))]⟩ ⟨sR,sR,sR,sR,Sub.of_eq (congrArg aI (by first | omega | rfl)),trivial⟩ ⟨⟨_,rfl,SubB.of_eq (by rw [Zgd (Qjk hk hx1) q4])⟩,trivial⟩)
 <| fun q3=>have p3:=decF q3;.st (mpR 7) (r,setM (upK f m i U k)) (fun (_:Unit) σ=>σ.setB 7 (.mp r (setM (dfsF f (m+1) i U)))) (Qr6 (by rw [Zhe (by rw [Zej hk];omega)])) fun _=>
 .finB (x:=.tup []) (r:=.tup []) [] trivial (.mp r (setM (dfsF f (m+1) i U))) (by exact sR)) a1 ha1) Tryz.func129 rfl (by kernel_rfl) (by kernel_rfl)
theorem Quo (f:Fsy) (r:Nat) (okf:OkF f) (hl:f.l.length≤100000) (hr:Qbs f.l):∀ (m:Nat) (i:Int) (U:List Int),remF f U<m→Qja Tryz.prog 129 [aI i,.dptr (fsyA f),.dptr [.mref 7 r],.dptr [CLn 129 [.dptr (fsyA f),.dptr [.mref 7 r]] m]] (.mp r (setM U)) (.tup []) (.mp r (setM (dfsF f m i U)))
 | 0,_,_,h=>absurd h (Nat.not_lt_zero _)
 | m+1,i,U,h=>Zab f r okf hl hr m (Quo f r okf hl hr m) i U h
theorem Qwg (f:Fsy) (i:Int) (okf:OkF f) (hl:f.l.length≤100000) (hr:Qbs f.l):Qaj Tryz.prog 82 [.agg (fsyA f),aI i] (.mp (setM (Qdb f i))):=by
 exact Qac (F:=Tryz.f82) 400 (
 .new fun b1=>.r 1<|.mkMap fun r2=>.new fun b3=>.run 1 [b3=b3] rt1<|
 .new fun b4=>.run 2 [b4=b4] rt1<|
 .frz 2 [1,4,5,6] [7,5,6] [b1=b1] rt1<|
 .frz 5 [1,4,5,6] [7,6] [b3=b3,b3=b3] rt2<|
 .st (fun s=>(recR 6 s).map fun x=>(x,lget s.tm 6)) ((b4,178,129,[.dptr (fsyA f),.dptr [.mref 7 r2]],6,b4),.ptr 6 b4 0) (fun (_:Unit) σ=>recS 6 6 (CLn 129 [.dptr (fsyA f),.dptr [.mref 7 r2]] (((Qho f).length+1)+1)) [1,4,5] [7] σ) (Zdq (((Qho f).length+1)+1) [1,4,5] [7]) fun _=>
 .lent 2<|.r 2<|.lop (lcR Tryz.prog 7) ((129,[aI i,.dptr (fsyA f),.dptr [.mref 7 r2],.dptr [CLn 129 [.dptr (fsyA f),.dptr [.mref 7 r2]] ((Qho f).length+1)]],some 11),.mp r2 []) (fun (_:Unit) σ=>(σ.put (some 11) (.tup [])).setB 7 (.mp r2 (setM (Qdb f i)))) (Qda (args':=[aI i,.dptr (fsyA f),.dptr [.mref 7 r2],.dptr [CLn 129 [.dptr (fsyA f),.dptr [.mref 7 r2]] ((Qho f).length+1)]]) sr4 (Quo f r2 okf hl hr ((Qho f).length+1) i [] (Qyy f))) fun _=>
 .r 2<|.frz 7 [4] [] [r2=r2] rt1<|
 .fin (x:=.mp (setM (Qdb f i))) (r:=.mp (setM (Qdb f i))) [] trivial (by exact sR)) Tryz.func82 rfl (by kernel_rfl) (by kernel_rfl)
theorem Qxh (f:Fsy) (i j:Int) (okf:OkF f) (hl:f.l.length≤100000) (hr:Qbs f.l):Qaj Tryz.prog 222 [.agg (fsyA f),aI i,aI j] (aB (hasB (Qdb f j) i)):=by
 exact Qac (F:=Tryz.f222) 400 (
 .new fun b1=>.r 1<|.run 2 [b1=b1] rt1<|
 .call (Qwg f j okf hl hr)<|
 .r 1<|.op (lkRO Tryz.prog) ((3,some (.agg #[])),setM (Qdb f j),.i i,true,some 14) (fun (_:Unit) σ=>σ.put (some 14) (.tup [.agg [],aB (hasB (Qdb f j) i)])) (Qv6 (Qcb (.i i) (setM (Qdb f j)) 0) (Zam (by kernel_rfl) _ (Qk9 (Qdb f j))) (by kernel_rfl) rfl (Qpz (Qdb f j) i)) fun _=>
 .r 3<|.new fun b2=>.run 2 [b2=b2] rt1<|
 .r 2<|.fin (x:=aB (hasB (Qdb f j) i)) (r:=aB (hasB (Qdb f j) i)) [] trivial (by exact sR)) Tryz.func222 rfl (by kernel_rfl) (by kernel_rfl)
def cntI:List (Int × Nat)→Int→List (Int × Nat)
 | [],z=>[(z,1)]
 | p :: r,z=>if p.1=z then (p.1,p.2+1) :: r else p :: cntI r z
def cntG:List (Int × Nat)→Int→Nat
 | [],_=>0
 | p :: r,z=>if p.1=z then p.2 else cntG r z
def cntM (L:List (Int × Nat)):List (MK × AV):=L.map fun p=>(MK.i p.1,aI (p.2:Int))
theorem Zg7:∀ (L:List (Int × Nat)) (y z:Int),cntG (cntI L y) z=cntG L z+if y=z then 1 else 0
 | [],y,z=>by
  unfold cntI cntG
  split<;>simp_all [cntG]
 | p :: r,y,z=>by
  have ih:=Zg7 r y z
  unfold cntI
  split
  ·rename_i h
   subst h
   simp only [cntG]
   split<;>simp_all
  ·rename_i h
   simp only [cntG]
   split
   ·rename_i h2
    have:¬ y=z:=fun e=>h (h2.trans e.symm)
    simp [this]
   ·exact ih
def Qxd (L:List (Int × Nat)) (l:List Ent):List (Int × Nat):=l.foldl (fun L e=>cntI L e.ino) L
def Zb7 (L:List (Int × Nat)) (l:List Nod):List (Int × Nat):=l.foldl (fun L n=>if n.kind=2 then Qxd L n.l else L) L
def Qga (f:Fsy):List (Int × Nat):=Zb7 [] f.l
def nodeT (f:Fsy) (_:Nat) (n:Nod):Prop:=1≤n.links∧n.links=(cntG (Qga f) n.ino:Int)∧(n.kind=2→n.links=1∧hasB (Qdb f 1) n.ino=true)
def keyT (f:Fsy) (z:Int):Prop:=Qar f z=true∧¬ z=1
def rightT (f:Fsy):Prop:=Qal f∧(∃ n,f.l[0]?=some n∧n.ino=1∧n.kind=2∧n.links=0)∧(∀ p∈Qga f,keyT f p.1)∧AllQ (nodeT f) (f.l.drop 1)
def Qtv (f:Fsy) (sn:List Nat):Prop:=sn.Nodup∧(∀ j∈sn,j<(Qga f).length)∧∀ j∈sn,∀ p,(Qga f)[j]?=some p→keyT f p.1
theorem Qtv.nil (f:Fsy):Qtv f []:=⟨List.nodup_nil,fun j h=>(by cases h),fun j h=>(by cases h)⟩
theorem Qtv.more {f:Fsy} {sn:List Nat} {j:Nat} {y:Int × Nat} (h:Qtv f sn) (hl:j<(Qga f).length) (hn:j ∉ sn) (hy:(Qga f)[j]?=some y) (hk:keyT f y.1):Qtv f (j :: sn):=by
 refine ⟨List.nodup_cons.2 ⟨hn,h.1⟩,fun k hk'=>?_,fun k hk' p hp=>?_⟩
 ·rcases List.mem_cons.1 hk' with rfl | hk'
  ·exact hl
  ·exact h.2.1 k hk'
 ·rcases List.mem_cons.1 hk' with rfl | hk'
  ·rw [hy] at hp
   obtain rfl:=Option.some.inj hp
   exact hk
  ·exact h.2.2 k hk' p hp
theorem Qtv.all {f:Fsy} {sn:List Nat} (h:Qtv f sn) (ha:∀ j,j<(cntM (Qga f)).length→j∈sn):∀ p∈Qga f,keyT f p.1:=fun p hp=>by
 obtain ⟨j,hj⟩:=List.getElem?_of_mem hp
 exact h.2.2 j (ha j (by have:=Qan hj;simpa [cntM] using this)) p hj
theorem Qis (U:List Int) (i:Int) (hl:U.length≤100000):Qaj Tryz.prog 87 [.sl 1 false (U.map intA),aI i] (aB (hasB U i)):=by
 exact Qac (F:=Tryz.f87) 400 (
 .r 1<|.r 1<|let L1:Lp (Nat):=⟨fun a1=>⟨[(0,.sl 1 false (U.map intA)),(1,aI i),(5,aI (a1:Int))],[]⟩,fun a1=>U.length-a1,fun a1=>Qa1 (fun _ z=>(z==i)=false) U a1⟩
 .loop L1 0 (show Qa1 (fun _ z=>(z==i)=false) U 0 from Qa1.zero _ _) ⟨[(0,.sl 1 false (U.map intA)),(1,aI i),(5,aI 0)],[]⟩ ⟨sR,sR,Sub.of_eq (congrArg aI (by first | omega | rfl)),trivial⟩ trivial fun a1 ha1=>
 (fun (k:Nat) (hH1:Qa1 (fun _ z=>(z==i)=false) U k)=>.r 3<|.val 8 (show (aI ((U.map intA).length:Int):AV)=aI (U.length:Int) from by rw [List.length_map])<|.r 1<|.br 9 (decide ((k:Int)<(U.length:Int))) (fun q1=>have p1:=decT q1;.r 2<|.idxM U intA k (m:=(k:Int)) rfl (by omega) fun x1 hx1=>
 .r 3<|.br 17 (x1==i) (fun q2=>have p2:=beqT q2;.r 1<|.fin (x:=aB true) (r:=aB (hasB U i)) [] trivial (by exact Sub.of_eq (congrArg aB (Zin hx1 (by assumption)).symm)))
 <| fun q2=>have p2:=beqF q2;.run 3 [rng .i64 ((k:Int)+1)] ⟨Qas (by omega) (by omega),trivial⟩<|
 .back L1 k (k+1) (show Qa1 (fun _ z=>(z==i)=false) U (k+1) from (hH1.step hx1 (by assumption))) (show U.length-(k+1)<U.length-k from (by omega)) ⟨[(0,.sl 1 false (U.map intA)),(1,aI i),(5,aI ((k:Int)+1))],[]⟩ ⟨sR,sR,Sub.of_eq (congrArg aI (by first | omega | rfl)),trivial⟩ trivial)
 <| fun q1=>have p1:=decF q1;.r 1<|.fin (x:=aB false) (r:=aB (hasB U i)) [] trivial (by exact Sub.of_eq (congrArg aB (has_no (hH1.full (by omega))).symm))) a1 ha1) Tryz.func87 rfl (by kernel_rfl) (by kernel_rfl)
end Go.Proofs.YtahlldgocpabjaaGreat

namespace Go.Proofs.YtahlldgocpabjaaGreat
open Go Go.RowKit Copyhold Copyhold.Name
abbrev NEnt:=Copyhold.Name.Ent
def entO (x:NEnt):Ent:=⟨x.1,x.2⟩
def lI (l:List Ent):List NEnt:=l.map fun e=>((e.name,e.ino):NEnt)
theorem lI_O (l:List Ent):(lI l).map entO=l:=by
 unfold lI
 rw [List.map_map]
 have:(entO ∘ fun e:Ent=>((e.name,e.ino):NEnt))=id:=by funext e;rfl
 rw [this,List.map_id]
theorem Qjn {s:Txt}:okN s=true↔Qmh s:=by
 simp only [okN,Qmh,Bool.and_eq_true,Bool.not_eq_true',decide_eq_true_eq,beq_eq_false_iff_ne,ne_eq]
 constructor
 ·rintro ⟨⟨⟨⟨⟨h1,h2⟩,h3⟩,h4⟩,h5⟩,h6⟩
  exact ⟨h1,h2,h3,h4,by simpa using h5,by simpa using h6⟩
 ·rintro ⟨h1,h2,h3,h4,h5,h6⟩
  exact ⟨⟨⟨⟨⟨h1,h2⟩,h3⟩,h4⟩,by simpa using h5⟩,by simpa using h6⟩
theorem Qt5 (l:List NEnt):rightE l=true↔rowP (l.map entO):=by
 simp only [rightE,rowP,Bool.and_eq_true,decide_eq_true_eq,List.all_eq_true,List.mem_range,List.length_map]
 refine and_congr_right fun _=>⟨fun h i e he=>?_,fun h i hi=>?_⟩
 ·rw [List.getElem?_map] at he
  cases hx:l[i]? with
  | none=>rw [hx] at he;cases he
  | some x=>
   rw [hx] at he
   obtain rfl:=Option.some.inj he
   have:=h i (Qan hx)
   simp only [okAt,hx,Bool.and_eq_true,okE,decide_eq_true_eq] at this
   refine ⟨Qjn.1 this.1.1,this.1.2,fun d h0 hd=>?_⟩
   rw [List.getElem?_map] at hd
   cases hy:l[i-1]? with
   | none=>rw [hy] at hd;cases hd
   | some y=>
    rw [hy] at hd
    obtain rfl:=Option.some.inj hd
    have hu:=this.2
    simp only [upAt,hy,Bool.or_eq_true,beq_iff_eq,decide_eq_true_eq] at hu
    show Op.bytesLess y.1 x.1=true
    rw [Qls]
    exact decide_eq_true (hu.resolve_left (by omega))
 ·have hx:=List.getElem?_eq_getElem hi
  have:=h i (entO l[i]) (by rw [List.getElem?_map,hx];rfl)
  simp only [okAt,hx,Bool.and_eq_true,okE,decide_eq_true_eq]
  refine ⟨⟨Qjn.2 this.1,this.2.1⟩,?_⟩
  simp only [upAt,Bool.or_eq_true,beq_iff_eq]
  by_cases h0:i=0
  ·exact .inl h0
  ·have hy:=List.getElem?_eq_getElem (l:=l) (i:=i-1) (by omega)
   right
   rw [hy]
   have h2:=this.2.2 (entO l[i-1]) (by omega) (by rw [List.getElem?_map,hy];rfl)
   have h3:Op.bytesLess l[i-1].1 l[i].1=true:=h2
   rw [Qls] at h3
   exact h3
theorem Zhd {D:Nat→Prop} {w:World} {vals us:List Value} (hl:us.length=vals.length) (h:∀ (j:Nat) (a:AV) (u:Value),(vals.map AV.val)[j]?=some a→us[j]?=some u→Ra D w a u):us=vals:=by
 apply List.ext_getElem?
 intro j
 by_cases hj:j<vals.length
 ·have h1:=List.getElem?_eq_getElem hj
  have h2:=List.getElem?_eq_getElem (l:=us) (i:=j) (by omega)
  have:=h j (.val vals[j]) us[j] (by rw [List.getElem?_map,h1];rfl) h2
  rw [h1,h2]
  generalize us[j]=u at this
  cases this
  rfl
 ·rw [List.getElem?_eq_none (by omega),List.getElem?_eq_none (by omega)]
theorem Zbm (l:List Ent):(l.map entA).flatten=((l.map fun e=>((e.name,e.ino):NEnt)).flatMap Copyhold.Name.entC).map AV.val:=by
 induction l with
 | nil=>rfl
 | cons e r ih=>
  simp only [List.map_cons,List.flatten_cons,List.flatMap_cons,List.map_append,ih]
  rfl
theorem Qcs {l:List Ent} (h:rowP l):Srt (lI l):=Qyw ((Qt5 (lI l)).2 (by rw [lI_O];exact h))
def getI (l:List Ent) (s:Txt):Int:=(getE (lI l) s).getD 0
def isB (l:List Ent) (s:Txt):Bool:=isAt (lI l) s
theorem Qo5 {l:List Ent} {s:Txt} (h:isB l s=false):getI l s=0:=by
 unfold getI isB at *
 unfold isAt at h
 unfold getE
 rw [List.find?_eq_none.2 fun x hx=>by simpa using List.any_eq_false.1 h x hx]
 rfl
theorem Qg8 {D:Nat→Prop} {w:World} {t:Bool} {l:List Ent} {v:Value} (h:Ra D w (.sl 2 t (l.map entA)) v):∃ A c,v=.slice A (lI l).length c∧Ents w v (lI l):=by
 obtain ⟨us,hsl,hus,hru⟩:=Qgv h
 rw [Zbm] at hru
 have hsl0:=hsl
 obtain ⟨A,cc,rfl,hc,hl,hh⟩:=hsl0
 have hlen:∀ l:List NEnt,(l.flatMap Copyhold.Name.entC).length=l.length*2:=fun l=>by
  induction l with
  | nil=>rfl
  | cons y r ih=>simp only [List.flatMap_cons,List.length_append,ih,List.length_cons];simp [Copyhold.Name.entC];omega
 have e:=Zhd (by rw [hlen,hl];simp) hru
 subst e
 simp only [List.length_map] at hsl ⊢
 have hn:(lI l).length=l.length:=by simp [lI]
 refine ⟨A,cc,by rw [hn],?_⟩
 show Sl w 2 _ (lI l).length _
 rw [hn]
 exact hsl
theorem Qfq (a b:Value) (D:Nat→Prop) (w:World):Ra D w (.tup [.val a,.val b]) (.tuple #[a,b]):=.tup _ _ rfl fun j x v hx hv=>by
 match j,hx,hv with
 | 0,hx,hv=>cases hx;cases hv;exact .val _
 | 1,hx,hv=>cases hx;cases hv;exact .val _
 | j+2,hx,_=>simp at hx
theorem Qca {P:Program} {f:FuncId} {args:List AV} {r:AV} {v:Value} (hr:∀ D w,Ra D w r v) (h:∀ D w vs,Qcx D w args vs→Calls P f vs w (fun e w'=>e=.returned v∧Below w.heap.size w w')):Qaj P f args r:=fun D w vs hD hv=>
 (h D w vs hv).mono fun e w' ⟨h1,h2⟩=>⟨v,D,h1,h2,fun _ h=>h,fun b hb=>⟨Nat.lt_of_lt_of_le (hD b hb) h2.size,.inl hb⟩,hr D w'⟩
theorem Qfk (l:List Ent) (s:Txt) (hl:l.length≤1000000) (hr:Srt (lI l)):Qaj Tryz.prog 96 [.sl 2 false (l.map entA),aS s] (.tup [aI (getI l s),aB (isB l s)]):=Qca (Qfq _ _) fun D w vs h=>by
 obtain ⟨u,v,rfl,hu,hv⟩:=Qcx.two h
 cases hv
 obtain ⟨A,c,rfl,he⟩:=Qg8 hu
 exact Qz3 (lI l) s A c w he (by simp [lI];omega) hr
theorem Qem (l:List Ent) (s:Txt) (hl:l.length≤1000000):Qaj Tryz.prog 115 [.sl 2 false (l.map entA),aS s] (.tup [aI (getI l s),aB (isB l s)]):=Qca (Qfq _ _) fun D w vs h=>by
 obtain ⟨u,v,rfl,hu,hv⟩:=Qcx.two h
 cases hv
 obtain ⟨A,c,rfl,he⟩:=Qg8 hu
 exact (Qwf (lI l) s A c w he (by simp [lI];omega)).mono fun e w' ⟨g1,g2⟩=>⟨g1,g2 ▸ Below.refl _ _⟩
theorem Zc6 {D:Nat→Prop} {w:World} {l:List Txt} {v:Value} (h:Row w v (l.map strV)) (hat:At D v):Ra D w (.sl 1 false (l.map txA)) v:=by
 rcases h with ⟨a,c,rfl,he⟩ | ⟨b,off,cap,rfl,h0,hc,hb,hcell⟩
 ·have:l=[]:=by simpa using he
  subst this
  exact .sl 1 false [] a c 0 0 (fun _ _=>undef) (Nat.zero_le _) (fun h=>by cases h) (fun h=>absurd h (by simp)) (fun i e h=>by simp at h) (fun i e j x h=>by simp at h) (fun i e j x h=>by simp at h)
 ·have key:∀ (i:Nat) (e:List AV) (j:Nat) (x:AV),(l.map txA)[i]?=some e→e[j]?=some x→∃ y,l[i]?=some y∧j=0∧x=aS y:=by
   intro i e j x he hx
   rw [List.getElem?_map] at he
   cases hli:l[i]? with
   | none=>rw [hli] at he;cases he
   | some y=>
    rw [hli] at he
    obtain rfl:=Option.some.inj he
    match j,hx with
    | 0,hx=>obtain rfl:=Option.some.inj hx;exact ⟨y,rfl,rfl,rfl⟩
    | j+1,hx=>simp [txA] at hx
  have:=Ra.sl (D:=D) (w:=w) 1 false (l.map txA) (some ⟨b,off,none⟩) cap b off (fun i _=>strV (l.getD i [])) (by simpa using hc) (fun h=>by cases h) (fun _=>⟨rfl,hat h0,hb⟩)
   (fun i e he=>by
    rw [List.getElem?_map] at he
    cases hli:l[i]? with
    | none=>rw [hli] at he;cases he
    | some y=>rw [hli] at he;obtain rfl:=Option.some.inj he;rfl)
   (fun i e j x he hx=>by
    obtain ⟨y,h1,rfl,rfl⟩:=key i e j x he hx
    simp only [List.getD,h1,Option.getD_some]
    refine ⟨?_,rfl⟩
    have:=hcell i (strV y) (by rw [List.getElem?_map,h1];rfl)
    rw [show off+(i*1+0)=off+i from by omega]
    exact this)
   (fun i e j x he hx=>by
    obtain ⟨y,h1,rfl,rfl⟩:=key i e j x he hx
    simp only [List.getD,h1,Option.getD_some]
    exact .val _)
  simp only [List.length_map] at this ⊢
  exact this
theorem Zjc {D1 D2 D3:Nat→Prop} {v:Value} (h1:At D1 v) (h2:At D2 v) (h:∀ b,D1 b→D2 b→D3 b):At D3 v:=by
 unfold At at h1 h2 ⊢
 split
 ·exact fun h0=>h _ (h1 h0) (h2 h0)
 ·trivial
end Go.Proofs.YtahlldgocpabjaaGreat
