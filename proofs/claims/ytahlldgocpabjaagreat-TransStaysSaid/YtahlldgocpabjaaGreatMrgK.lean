import Derived.Test.YtahlldgocpabjaaGreatNodV13
import Derived.Test.YtahlldgocpabjaaGreatMrgJ
set_option maxRecDepth 100000
set_option maxHeartbeats 8000000
set_option linter.unusedVariables false
set_option linter.unusedSimpArgs false
namespace Go.Proofs.YtahlldgocpabjaaGreat
open Go Go.RowKit Copyhold
theorem Zdp (t e:TypeId) (ht:Tryz.prog.underlying t=some (.array 3 e)) (he:Tryz.prog.underlying e=some (.int .i64)) (hs:∀ w,(Go.sizeOf e).run Tryz.prog w=.ok 1 w) (a b c x y z:Int) (w:World) :
  (Op.equalIn 10000 t (.agg #[.int .i64 a,.int .i64 b,.int .i64 c]) (.agg #[.int .i64 x,.int .i64 y,.int .i64 z])).run Tryz.prog w=.ok (a==x&&b==y&&c==z) w:=by
 show (Op.equalIn (9999+1) _ _ _).run _ _=_
 have p0:∀ (u0 u1 u2:Value) w,(part e #[u0,u1,u2] 0).run Tryz.prog w=.ok u0 w:=fun _ _ _ _=>by simp [go_sem,part,hs,isAgg,run_underlying he]
 have p1:∀ (u0 u1 u2:Value) w,(part e #[u0,u1,u2] 1).run Tryz.prog w=.ok u1 w:=fun _ _ _ _=>by simp [go_sem,part,hs,isAgg,run_underlying he]
 have p2:∀ (u0 u1 u2:Value) w,(part e #[u0,u1,u2] 2).run Tryz.prog w=.ok u2 w:=fun _ _ _ _=>by simp [go_sem,part,hs,isAgg,run_underlying he]
 have q:∀ a b w,(Op.equalIn 9999 e (.int .i64 a) (.int .i64 b)).run Tryz.prog w=.ok (a==b) w:=fun a b w=>run_equalIn_int w 9998 e .i64 .i64 a b he
 rw [Op.equalIn]
 simp only [Sem.run_bind,run_underlying ht,Result.andThen_ok,hs,Std.Legacy.Range.forIn_eq_forIn_range',Std.Legacy.Range.size,List.range',List.forIn_cons,List.forIn_nil]
 cases h1:(a==x)<;>cases h2:(b==y)<;>cases h3:(c==z)<;>simp [Sem.run_bind,Result.andThen,p0,p1,p2,q,h1,h2,h3]
theorem eqInt3 (t:TypeId) (a b c x y z:Int) (hg:Tryz.prog.eqGuardType Tryz.prog.depth t=false) (hr:∀ w,(Op.equalIn 10000 t (.agg #[.int .i64 a,.int .i64 b,.int .i64 c]) (.agg #[.int .i64 x,.int .i64 y,.int .i64 z])).run Tryz.prog w=.ok (a==x&&b==y&&c==z) w)
  (D:Nat→Prop) (w:World) (xo yo:Operand) (u v:Value) (hu:Ra D w (.agg [aI a,aI b,aI c]) u) (hv:Ra D w (.agg [aI x,aI y,aI z]) v) :
  ∃ r,((do Go.eqGuard .eql t xo yo u v;Go.binOp .eql t u v):Sem Value).run Tryz.prog w=.ok r w∧Ra D w (aB (a==x&&b==y&&c==z)) r:=by
 have e1:=Qzb (vs:=[.int .i64 a,.int .i64 b,.int .i64 c]) hu
 have e2:=Qzb (vs:=[.int .i64 x,.int .i64 y,.int .i64 z]) hv
 subst e1 e2
 refine ⟨_,?_,.val _⟩
 simp [run_eqGuard_agg _ _ _ _ _ _ _ hg,run_eql_struct,hr]
theorem Zg1 {x y:Ent} (h1:x.name=y.name) (h2:x.ino=y.ino):x=y:=by cases x;cases y;simp_all
theorem Ze6 (a b:List Ent) (ha:a.length≤8796093022207) (hb:b.length≤8796093022207):Qaj Tryz.prog 159 [.sl 2 false (a.map entA),.sl 2 false (b.map entA)] (aB (dP (a=b))):=by
 exact Qac (F:=Tryz.f159) 400 (
 .r 1<|.r 2<|.val 7 (show (aI ((a.map entA).length:Int):AV)=aI (a.length:Int) from by rw [List.length_map])<|.r 2<|.val 9 (show (aI ((b.map entA).length:Int):AV)=aI (b.length:Int) from by rw [List.length_map])<|.r 1<|.br 10 ((a.length:Int) != (b.length:Int)) (fun q1=>have p1:=bneT q1;.r 1<|.fin (x:=aB false) (r:=aB (dP (a=b))) [] trivial (by exact sF (fun h=>by have:=congrArg List.length h;omega)))
 <| fun q1=>have p1:=bneF q1;.r 2<|.val 12 (show (aI ((a.map entA).length:Int):AV)=aI (a.length:Int) from by rw [List.length_map])<|.r 1<|let L1:Lp (Nat):=⟨fun a1=>⟨[(0,.sl 2 false (a.map entA)),(1,.sl 2 false (b.map entA)),(12,aI (a.length:Int)),(13,aI (a1:Int))],[]⟩,fun a1=>a.length-a1,fun a1=>a1≤a.length∧a.take a1=b.take a1⟩
 .loop L1 0 (show 0≤a.length∧a.take 0=b.take 0 from ⟨Nat.zero_le _,rfl⟩) ⟨[(0,.sl 2 false (a.map entA)),(1,.sl 2 false (b.map entA)),(12,aI (a.length:Int)),(13,aI 0)],[]⟩ ⟨sR,sR,sR,Sub.of_eq (congrArg aI (by first | omega | rfl)),trivial⟩ trivial fun a1 ha1=>
 (fun (k:Nat) (hH1:k≤a.length∧a.take k=b.take k)=>.r 1<|.br 14 (decide ((k:Int)<(a.length:Int))) (fun q2=>have p2:=decT q2;.r 2<|.ord [0,1,2,3,4,5,6,7,8]<|.r 2<|.idxM a entA k (m:=(k:Int)) rfl (by omega) fun x1 hx1=>
 .r 3<|.idxM b entA k (m:=(k:Int)) rfl (by omega) fun x2 hx2=>
 .r 1<|.eqS<|.br 24 (!((x1.name==x2.name)&&((x1.ino==x2.ino)&&(true)))) (fun q3=>have q3:=notT q3;have p3:=booF q3;.r 1<|.fin (x:=aB false) (r:=aB (dP (a=b))) [] trivial (by
  refine sF (fun h=>?_)
  rw [h,hx2] at hx1
  obtain rfl:=Option.some.inj hx1
  simp_all))
 <| fun q3=>have q3:=notF q3;have p3:=booT q3;.run 2 [rng .i64 ((k:Int)+1)] ⟨Qas (by omega) (by omega),trivial⟩<|
 .back L1 k (k+1) (show (k+1)≤a.length∧a.take (k+1)=b.take (k+1) from ⟨by omega,by rw [Qap hx1,Qap hx2,hH1.2];congr 2;exact Zg1 (by simp_all) (by simp_all)⟩) (show a.length-(k+1)<a.length-k from (by omega)) ⟨[(0,.sl 2 false (a.map entA)),(1,.sl 2 false (b.map entA)),(12,aI (a.length:Int)),(13,aI ((k:Int)+1))],[]⟩ ⟨sR,sR,sR,Sub.of_eq (congrArg aI (by first | omega | rfl)),trivial⟩ trivial)
 <| fun q2=>have p2:=decF q2;.r 1<|.fin (x:=aB true) (r:=aB (dP (a=b))) [] trivial (by
  refine sT ?_
  have h:=hH1.2
  rw [Qay (by omega),Qay (by omega)] at h
  exact h)) a1 ha1) Tryz.func159 rfl (by kernel_rfl) (by kernel_rfl)
theorem Qyx (a b:List Ent) (ha:a.length≤8796093022207) (hb:b.length≤8796093022207):Qaj Tryz.prog 101 [.sl 2 false (a.map entA),.sl 2 false (b.map entA)] (aB (dP (a=b))):=by
 exact Qac (F:=Tryz.f101) 400 (
 .r 1<|.r 2<|.val 7 (show (aI ((a.map entA).length:Int):AV)=aI (a.length:Int) from by rw [List.length_map])<|.r 2<|.val 9 (show (aI ((b.map entA).length:Int):AV)=aI (b.length:Int) from by rw [List.length_map])<|.r 1<|.br 10 ((a.length:Int) != (b.length:Int)) (fun q1=>have p1:=bneT q1;.r 1<|.fin (x:=aB false) (r:=aB (dP (a=b))) [] trivial (by exact sF (fun h=>by have:=congrArg List.length h;omega)))
 <| fun q1=>have p1:=bneF q1;.r 1<|let L1:Lp (Nat):=⟨fun a1=>⟨[(0,.sl 2 false (a.map entA)),(1,.sl 2 false (b.map entA)),(5,aI (a1:Int))],[]⟩,fun a1=>a.length-a1,fun a1=>a1≤a.length∧a.take a1=b.take a1⟩
 .loop L1 0 (show 0≤a.length∧a.take 0=b.take 0 from ⟨Nat.zero_le _,rfl⟩) ⟨[(0,.sl 2 false (a.map entA)),(1,.sl 2 false (b.map entA)),(5,aI 0)],[]⟩ ⟨sR,sR,Sub.of_eq (congrArg aI (by first | omega | rfl)),trivial⟩ trivial fun a1 ha1=>
 (fun (k:Nat) (hH1:k≤a.length∧a.take k=b.take k)=>.r 3<|.val 13 (show (aI ((a.map entA).length:Int):AV)=aI (a.length:Int) from by rw [List.length_map])<|.r 1<|.br 14 (decide ((k:Int)<(a.length:Int))) (fun q2=>have p2:=decT q2;.ord [0,1,2,3,4,5,6,7,8]<|.r 2<|.idxM a entA k (m:=(k:Int)) rfl (by omega) fun x1 hx1=>
 .r 3<|.idxM b entA k (m:=(k:Int)) rfl (by omega) fun x2 hx2=>
 .r 1<|.eqS<|.br 25 (!((x1.name==x2.name)&&((x1.ino==x2.ino)&&(true)))) (fun q3=>have q3:=notT q3;have p3:=booF q3;.r 1<|.fin (x:=aB false) (r:=aB (dP (a=b))) [] trivial (by
  refine sF (fun h=>?_)
  rw [h,hx2] at hx1
  obtain rfl:=Option.some.inj hx1
  simp_all))
 <| fun q3=>have q3:=notF q3;have p3:=booT q3;.run 3 [rng .i64 ((k:Int)+1)] ⟨Qas (by omega) (by omega),trivial⟩<|
 .back L1 k (k+1) (show (k+1)≤a.length∧a.take (k+1)=b.take (k+1) from ⟨by omega,by rw [Qap hx1,Qap hx2,hH1.2];congr 2;exact Zg1 (by simp_all) (by simp_all)⟩) (show a.length-(k+1)<a.length-k from (by omega)) ⟨[(0,.sl 2 false (a.map entA)),(1,.sl 2 false (b.map entA)),(5,aI ((k:Int)+1))],[]⟩ ⟨sR,sR,Sub.of_eq (congrArg aI (by first | omega | rfl)),trivial⟩ trivial)
 <| fun q2=>have p2:=decF q2;.r 1<|.fin (x:=aB true) (r:=aB (dP (a=b))) [] trivial (by
  refine sT ?_
  have h:=hH1.2
  rw [Qay (by omega),Qay (by omega)] at h
  exact h)) a1 ha1) Tryz.func101 rfl (by kernel_rfl) (by kernel_rfl)
theorem Qqg (n:Nod):Qaj Tryz.prog 158 [.agg (nodA n)] (.agg [aI n.ino,aI n.kind,aI n.links]):=by
 exact Qac (F:=Tryz.f158) 400 (
 .new fun b1=>.new fun b2=>.run 8 [b1=b1,b1=b1,b1=b1,b2=b2] rt4<|
 .fin (x:=.agg [aI n.ino,aI n.kind,aI n.links]) (r:=.agg [aI n.ino,aI n.kind,aI n.links]) [b2=b2] rt1 (by exact sR)) Tryz.func158 rfl (by kernel_rfl) (by kernel_rfl)
theorem Zgl {x y:Nod} (h1:x.ino=y.ino) (h2:x.kind=y.kind) (h3:x.links=y.links) (h4:x.text=y.text) (h5:x.l=y.l):x=y:=by cases x;cases y;simp_all
theorem Qnk (a b:Nod) (oka:OkN a) (okb:OkN b):Qaj Tryz.prog 100 [.agg (nodA a),.agg (nodA b)] (aB (dP (a=b))):=by
 have ha:=oka.2.2.2.2.1
 have hb:=okb.2.2.2.2.1
 exact Qac (F:=Tryz.f100) 400 (
 .new fun b1=>.new fun b2=>.r 1<|.r 1<|.ord [0,1,3,4,2,5,6,7,8,9,10,11,12,13,14,15,16,17,18,19,20,21]<|.run 4 [b1=b1,b2=b2] rt2<|
 .call (Qqg a)<|
 .call (Qqg b)<|
 .binV .eql 189 (eqInt3 189 a.ino a.kind a.links b.ino b.kind b.links (by kernel_rfl) (Zdp 189 3 (by kernel_rfl) (by kernel_rfl) (fun _=>by kernel_rfl) a.ino a.kind a.links b.ino b.kind b.links))<|
 .r 1<|.br 13 (a.ino==b.ino&&a.kind==b.kind&&a.links==b.links) (fun q1=>have p1:=booT q1;.run 7 [b1=b1,b2=b2] rt2<|
 .br 20 (a.text==b.text) (fun q2=>have p2:=beqT q2;.run 4 [b1=b1,b2=b2] rt2<|
 .call (Ze6 a.l b.l (by assumption) (by assumption))<|
 .r 2<|.fin (x:=aB (dP (a.l=b.l))) (r:=aB (dP (a=b))) [] trivial (by
  refine sE ?_
  constructor
  ·intro h
   simp only [Bool.and_eq_true,beq_iff_eq,Qbb] at *
   refine Zgl ?_ ?_ ?_ ?_ ?_<;>simp_all
  ·intro h
   subst h
   simp_all [Qbb]))
 <| fun q2=>have p2:=beqF q2;.r 7<|.fin (x:=aB false) (r:=aB (dP (a=b))) [] trivial (by
  refine sF (fun h=>?_)
  subst h
  simp_all [Qag]))
 <| fun q1=>have p1:=booF q1;.r 14<|.fin (x:=aB false) (r:=aB (dP (a=b))) [] trivial (by
  refine sF (fun h=>?_)
  subst h
  simp_all [Qag])) Tryz.func100 rfl (by kernel_rfl) (by kernel_rfl)
theorem Qsa (a b:Nod) (oka:OkN a) (okb:OkN b):Qaj Tryz.prog 57 [.agg (nodA a),.agg (nodA b)] (aB (dP (a=b))):=by
 have ha:=oka.2.2.2.2.1
 have hb:=okb.2.2.2.2.1
 exact Qac (F:=Tryz.f57) 400 (
 .new fun b1=>.new fun b2=>.r 1<|.run 4 [b1=b1,b2=b2] rt2<|
 .call (Qyx a.l b.l (by assumption) (by assumption))<|
 .r 1<|.r 2<|.br 12 (dP (a.l=b.l)) (fun q1=>have p1:=booT q1;.run 7 [b1=b1,b2=b2] rt2<|
 .br 19 (a.ino==b.ino) (fun q2=>have p2:=beqT q2;.run 7 [b1=b1,b2=b2] rt2<|
 .br 26 (a.kind==b.kind) (fun q3=>have p3:=beqT q3;.run 7 [b1=b1,b2=b2] rt2<|
 .br 33 (a.links==b.links) (fun q4=>have p4:=beqT q4;.run 7 [b1=b1,b2=b2] rt2<|
 .fin (x:=aB (a.text==b.text)) (r:=aB (dP (a=b))) [] trivial (by
  refine sE ?_
  constructor
  ·intro h
   simp only [Bool.and_eq_true,beq_iff_eq,Qbb] at *
   refine Zgl ?_ ?_ ?_ ?_ ?_<;>simp_all
  ·intro h
   subst h
   simp_all [Qbb]))
 <| fun q4=>have p4:=beqF q4;.r 7<|.fin (x:=aB false) (r:=aB (dP (a=b))) [] trivial (by
  refine sF (fun h=>?_)
  subst h
  simp_all [Qag]))
 <| fun q3=>have p3:=beqF q3;.r 14<|.fin (x:=aB false) (r:=aB (dP (a=b))) [] trivial (by
  refine sF (fun h=>?_)
  subst h
  simp_all [Qag]))
 <| fun q2=>have p2:=beqF q2;.r 21<|.fin (x:=aB false) (r:=aB (dP (a=b))) [] trivial (by
  refine sF (fun h=>?_)
  subst h
  simp_all [Qag]))
 <| fun q1=>have p1:=booF q1;.r 28<|.fin (x:=aB false) (r:=aB (dP (a=b))) [] trivial (by
  refine sF (fun h=>?_)
  subst h
  simp_all [Qag])) Tryz.func57 rfl (by kernel_rfl) (by kernel_rfl)
end Go.Proofs.YtahlldgocpabjaaGreat

namespace Go.Proofs.YtahlldgocpabjaaGreat
open Go Go.RowKit Copyhold
section
variable {α:Type}
def Qd0 (f:α→Int) (l:List α) (n:Int):Nat:=(l.takeWhile fun c=>decide (f c<n)).length
def Qk1 (f:α→Int) (l:List α) (n:Int):Bool:=match l[Qd0 f l n]? with | some c=>f c==n | none=>false
def Qxl (f:α→Int) (l:List α):Prop:=l.Pairwise fun c d=>f c<f d
theorem Qzj (f:α→Int) (l:List α) (n:Int):Qd0 f l n≤l.length:=by
 have h:=congrArg List.length (List.takeWhile_append_dropWhile (p:=fun c=>decide (f c<n)) (l:=l))
 rw [List.length_append] at h
 unfold Qd0;omega
theorem Qfg {f:α→Int} {n:Int}:∀ {l:List α} {k:Nat},k≤l.length→Qa1 (fun _ c=>f c<n) l k→(∀ x,l[k]?=some x→¬ f x<n)→Qd0 f l n=k
 | [],k,hk,_,_=>by simp at hk;subst hk;rfl
 | x :: r,0,_,_,he=>by
  have:=he x rfl
  unfold Qd0
  simp [this]
 | x :: r,k+1,hk,h,he=>by
  have h1:=h 0 x (by omega) rfl
  have h2:=Qfg (l:=r) (k:=k) (by simpa using hk) (fun j e hj he=>h (j+1) e (by omega) (by simpa using he)) (fun y hy=>he y (by simpa using hy))
  unfold Qd0 at h2 ⊢
  simp [h1,h2]
theorem Qk0 {f:α→Int} {n:Int} {l:List α} {k:Nat} {x:α} (h:Qd0 f l n=k) (hx:l[k]?=some x):Qk1 f l n=(f x==n):=by
 unfold Qk1;rw [h,hx]
theorem Qvu {f:α→Int} {n:Int} {l:List α} (h:Qd0 f l n=l.length):Qk1 f l n=false:=by
 unfold Qk1;rw [h,List.getElem?_eq_none (Nat.le_refl _)]
theorem Qfr {f:α→Int} {l:List α} {n:Int} (h:Qk1 f l n=true):∃ c,l[Qd0 f l n]?=some c∧f c=n:=by
 unfold Qk1 at h
 split at h
 ·rename_i c hc
  exact ⟨c,hc,by simpa using h⟩
 ·cases h
theorem Qxl.le {f:α→Int} {l:List α} (h:Qxl f l) {i j:Nat} {c d:α} (hc:l[i]?=some c) (hd:l[j]?=some d) (hij:i≤j):f c≤f d:=by
 rcases Nat.lt_or_ge i j with hlt | hge
 ·have h3:=List.pairwise_iff_getElem.1 h
  have l1:=Qan hc
  have l2:=Qan hd
  have:=h3 i j l1 l2 hlt
  have e1:l[i]=c:=Option.some.inj ((List.getElem?_eq_getElem l1).symm.trans hc)
  have e2:l[j]=d:=Option.some.inj ((List.getElem?_eq_getElem l2).symm.trans hd)
  rw [e1,e2] at this
  omega
 ·obtain rfl:i=j:=by omega
  rw [hc] at hd
  obtain rfl:=Option.some.inj hd
  exact Int.le_refl _
theorem Qxl.cut {f:α→Int} {l:List α} (h:Qxl f l) (n:Int):(∀ c∈l.take (Qd0 f l n),f c<n)∧∀ c∈l.drop (Qd0 f l n),¬ f c<n:=by
 induction l with
 | nil=>exact ⟨fun c hc=>by simp at hc,fun c hc=>by simp at hc⟩
 | cons x r ih=>
  obtain ⟨h1,h2⟩:=List.pairwise_cons.1 h
  by_cases hx:f x<n
  ·have e:Qd0 f (x :: r) n=Qd0 f r n+1:=by unfold Qd0;simp [hx]
   rw [e]
   refine ⟨fun c hc=>?_,fun c hc=>(ih h2).2 c (by simpa using hc)⟩
   rcases List.mem_cons.1 (by simpa using hc) with rfl | hc
   ·exact hx
   ·exact (ih h2).1 c hc
  ·have e:Qd0 f (x :: r) n=0:=by unfold Qd0;simp [hx]
   rw [e]
   refine ⟨fun c hc=>by simp at hc,fun c hc=>?_⟩
   rcases List.mem_cons.1 (by simpa using hc) with rfl | hc
   ·exact hx
   ·have:=h1 c hc;omega
end
def cmpD (a b:Int):Int:=if a<b then -1 else if a>b then 1 else 0
theorem Zg8 {a b:Int}:decide (cmpD a b<0)=decide (a<b):=by
 unfold cmpD;split
 ·simp [*]
 ·split<;>simp [*]
theorem cmp_eq {a b:Int}:(cmpD a b==0)=(a==b):=by
 unfold cmpD;split
 ·have:¬ a=b:=by omega
  simp [this]
 ·split
  ·have:¬ a=b:=by omega
   simp [this]
  ·have:a=b:=by omega
   simp [this]
theorem cmp1 {a b:Int} (h:a<b):cmpD a b = -1:=if_pos h
theorem cmp2 {a b:Int} (h:¬ a<b) (h2:a>b):cmpD a b=1:=by unfold cmpD;rw [if_neg h,if_pos h2]
theorem cmp3 {a b:Int} (h:¬ a<b) (h2:¬ a>b):cmpD a b=0:=by unfold cmpD;rw [if_neg h,if_neg h2]
def nod0:Nod:=⟨0,0,0,[],[]⟩
theorem Qor:OkN nod0:=⟨⟨by decide,by decide⟩,⟨by decide,by decide⟩,⟨by decide,by decide⟩,by show (0:Nat)≤_;omega,by show (0:Nat)≤_;omega,fun e h=>by cases h⟩
def isNo (i:Int) (n:Nod):Bool:=n.ino==i
def Qar (f:Fsy) (i:Int):Bool:=f.l.any (isNo i)
def Qaa (f:Fsy) (i:Int):Nod:=(f.l.find? (isNo i)).getD nod0
theorem Qf0 {f:Fsy} (ok:OkF f) (i:Int):OkN (Qaa f i):=by
 unfold Qaa
 cases h:f.l.find? (isNo i) with
 | none=>exact Qor
 | some n=>exact ok.2.2 n (List.mem_of_find?_eq_some h)
theorem Qs5 {i:Int}:∀ {l:List Nod} {k:Nat} {x:Nod},Qa1 (fun _ n=>isNo i n=false) l k→l[k]?=some x→isNo i x=true→l.any (isNo i)=true∧l.find? (isNo i)=some x
 | y :: r,0,x,_,hx,hp=>by simp at hx;subst hx;simp [hp]
 | y :: r,k+1,x,h,hx,hp=>by
  have h1:=h 0 y (by omega) rfl
  obtain ⟨h2,h3⟩:=Qs5 (l:=r) (k:=k) (fun j e hj he=>h (j+1) e (by omega) (by simpa using he)) (by simpa using hx) hp
  simp [h1,h2,h3]
theorem Zbf {i:Int} {l:List Nod} (h:AllQ (fun _ n=>isNo i n=false) l):l.any (isNo i)=false∧l.find? (isNo i)=none:=by
 have h0:∀ x∈l,isNo i x=false:=fun x hx=>by obtain ⟨j,hj⟩:=List.getElem?_of_mem hx;exact h j x hj
 constructor
 ·rw [List.any_eq_false];intro x hx;simp [h0 x hx]
 ·rw [List.find?_eq_none];intro x hx;simp [h0 x hx]
abbrev plN (l:List Nod) (n:Int):Nat:=Qd0 Nod.ino l n
abbrev thN (l:List Nod) (n:Int):Bool:=Qk1 Nod.ino l n
abbrev Qbs (l:List Nod):Prop:=Qxl Nod.ino l
theorem Qnv {l:List Nod} {i:Int} (hr:Qbs l) {x:Nod} (h:thN l i=true) (hx:l[plN l i]?=some x):l.any (isNo i)=true∧l.find? (isNo i)=some x:=by
 refine Qs5 (k:=plN l i) (fun j e hj he=>?_) hx ?_
 ·have:=(hr.cut i).1 e (List.mem_of_getElem? (i:=j) (by rw [List.getElem?_take,if_pos hj];exact he))
  have hne:¬ e.ino=i:=by omega
  simp [isNo,hne]
 ·have h2:(x.ino==i)=true:=(Qk0 rfl hx).symm.trans h
  exact h2
theorem Ql8 {l:List Nod} {i:Int} (hr:Qbs l) (h:thN l i=false):l.any (isNo i)=false∧l.find? (isNo i)=none:=by
 refine Zbf fun j e he=>?_
 have hne:¬ e.ino=i:=fun hi=>by
  have hc:=hr.cut i
  by_cases hj:j<plN l i
  ·have:=hc.1 e (List.mem_of_getElem? (i:=j) (by rw [List.getElem?_take,if_pos hj];exact he))
   omega
  ·obtain ⟨y,hy⟩:=Qfs (l:=l) (k:=plN l i) (by have:=Qan he;omega)
   replace h:(y.ino==i)=false:=(Qk0 rfl hy).symm.trans h
   have h2:=hr.le hy he (by omega)
   have h3:=hc.2 y (List.mem_of_getElem? (i:=0) (by rw [List.getElem?_drop,Nat.add_zero];exact hy))
   have:¬ y.ino=i:=by simpa using h
   omega
 simp [isNo,hne]
theorem Ze3 {f:Fsy} {i:Int} (hr:Qbs f.l):Qar f i=thN f.l i:=by
 cases h:thN f.l i with
 | false=>exact (Ql8 hr h).1
 | true=>
  obtain ⟨c,hc,_⟩:=Qfr h
  exact (Qnv hr h hc).1
def Qwa (f:Fsy) (i:Nat) (n:Nod):Prop:=nodP n∧n.ino<f.next∧∀ d,0<i→f.l[i-1]?=some d→d.ino<n.ino
def Qal (f:Fsy):Prop:=f.l.length≤256∧1≤f.next∧AllQ (Qwa f) f.l
theorem Qbj {f:Fsy}:Qal f↔f.l.length≤256∧1≤f.next∧(∀ n∈f.l,nodP n∧n.ino<f.next)∧Qbs f.l:=by
 constructor
 ·rintro ⟨h1,h2,h3⟩
  refine ⟨h1,h2,fun n hn=>?_,?_⟩
  ·obtain ⟨k,hk⟩:=List.getElem?_of_mem hn
   exact ⟨(h3.at hk).1,(h3.at hk).2.1⟩
  ·have key:∀ (i j:Nat) (c d:Nod),i<j→f.l[i]?=some c→f.l[j]?=some d→c.ino<d.ino:=by
    intro i j
    induction j with
    | zero=>intro c d h;omega
    | succ j ih=>
     intro c d hij hc hd
     obtain ⟨e,he⟩:=Qfs (l:=f.l) (k:=j) (by have:=Qan hd;omega)
     have h1:=(h3.at hd).2.2 e (by omega) (by simpa using he)
     rcases Nat.lt_or_ge i j with hij' | hij'
     ·have:=ih c e hij' hc he;omega
     ·obtain rfl:i=j:=by omega
      rw [hc] at he
      obtain rfl:=Option.some.inj he
      exact h1
   exact List.pairwise_iff_getElem.2 fun i j hi hj hij=>key i j _ _ hij (List.getElem?_eq_getElem hi) (List.getElem?_eq_getElem hj)
 ·rintro ⟨h1,h2,h3,h4⟩
  refine ⟨h1,h2,fun i n hn=>⟨(h3 n (List.mem_of_getElem? hn)).1,(h3 n (List.mem_of_getElem? hn)).2,fun d h0 hd=>?_⟩⟩
  have h5:=List.pairwise_iff_getElem.1 h4
  have l1:=Qan hd
  have l2:=Qan hn
  have:=h5 (i-1) i l1 l2 (by omega)
  have e1:f.l[i-1]=d:=Option.some.inj ((List.getElem?_eq_getElem l1).symm.trans hd)
  have e2:f.l[i]=n:=Option.some.inj ((List.getElem?_eq_getElem l2).symm.trans hn)
  rw [e1,e2] at this
  exact this
theorem Qad {f:Fsy} (h:Qal f):Qbs f.l:=(Qbj.1 h).2.2.2
def putN (l:List Nod) (n:Nod):List Nod:=l.take (plN l n.ino)++n :: l.drop (plN l n.ino+if thN l n.ino then 1 else 0)
def putF (f:Fsy) (n:Nod):Fsy:=⟨putN f.l n,if n.ino+1>f.next then n.ino+1 else f.next⟩
def outN (l:List Nod) (i:Int):List Nod:=if thN l i then l.take (plN l i)++l.drop (plN l i+1) else l
def outF (f:Fsy) (i:Int):Fsy:=⟨outN f.l i,f.next⟩
theorem Zia:Elem Tryz.prog 26 84 (.agg #[.int .i64 0,.int .i64 0,.int .i64 0,.string ByteArray.empty,.slice none 0 0]) 5 64:=⟨Tryz.underlying26,by kernel_rfl,by kernel_rfl,by decide⟩
theorem Za2 (n:Nat) (hn:n≤1000000) (w:World) :
  Calls Tryz.prog 163 #[.slice none 0 0,.int .i64 (n:Int)] w (Zcx w 84 5 0 []):=by
 by_cases h0:0<n
 ·obtain ⟨G,w',hrun,hG1,hG2,hown,hb⟩:=Qpp Zia Tryz.underlying3 n h0 (by omega) (by omega) w
  have HO:=Lib.hid (And.intro hown hb)
  have hi0:(0:Int)<(n:Int):=by omega
  clear hown hb
  go_enter Tryz.func163,Tryz.ntmps163
  go_wp2_with (at_builtin;refine Qeo rfl _ _ _ _ rfl _ _ _ _ rfl rfl (hrun _) ?_)
  go_ret
  exact ⟨_,rfl,HO.out.1,HO.out.2⟩
 ·obtain rfl:n=0:=by omega
  go_enter Tryz.func163,Tryz.ntmps163
  go_wp2_with fail
  go_ret
  exact ⟨_,rfl,World.ownsRow_nil _ _ _ _,Below.refl _ _⟩
def pc5 (p:List (List AV)):List AV:=[.sl 5 false p]
theorem Qf4 (ps:List (List (List AV))) (hl:ps.length≤100000) (ht:ps.flatten.length≤100000):Qaj Tryz.prog 108 [.sl 1 false (ps.map pc5)] (.sl 5 false ps.flatten):=by
 exact Qac (F:=Tryz.f108) 400 (
 .r 1<|.r 1<|.r 2<|.val 10 (show (aI ((ps.map pc5).length:Int):AV)=aI (ps.length:Int) from by rw [List.length_map])<|.r 1<|let L1:Lp (Nat):=⟨fun a1=>⟨[(0,.sl 1 false (ps.map pc5)),(9,.sl 1 false (ps.map pc5)),(10,aI (ps.length:Int)),(3,aI ((ps.take a1).flatten.length:Int)),(11,aI (a1:Int))],[]⟩,fun a1=>ps.length-a1,fun a1=>a1≤ps.length⟩
 .loop L1 0 (show 0≤ps.length from Nat.zero_le _) ⟨[(0,.sl 1 false (ps.map pc5)),(9,.sl 1 false (ps.map pc5)),(10,aI (ps.length:Int)),(3,aI 0),(11,aI 0)],[]⟩ ⟨sR,sR,sR,Sub.of_eq (congrArg aI (by first | omega | rfl)),Sub.of_eq (congrArg aI (by first | omega | rfl)),trivial⟩ trivial fun a1 ha1=>
 (fun (k:Nat) (hH1:k≤ps.length)=>.r 1<|.br 12 (decide ((k:Int)<(ps.length:Int))) (fun q1=>have p1:=decT q1;.idxM ps pc5 k (m:=(k:Int)) rfl (by omega) fun x1 hx1=>
 have tx1:=Qc8 ps (k+1);have ux1:=congrArg List.length (Qc4 hx1);have vx1:=(@List.length_append _ (ps.take k).flatten x1);.r 2<|.run 5 [rng .i64 (((ps.take k).flatten.length:Int)+((x1).length:Int))] ⟨Qas (by omega) (by omega),trivial⟩<|
 .r 2<|.br 20 (decide ((((ps.take k).flatten.length:Int)+((x1).length:Int))<0)) (fun q2=>have p2:=decT q2;.no (by omega))
 <| fun q2=>have p2:=decF q2;.run 2 [rng .i64 ((k:Int)+1)] ⟨Qas (by omega) (by omega),trivial⟩<|
 .back L1 k (k+1) (show (k+1)≤ps.length from (by show _≤_;omega)) (show ps.length-(k+1)<ps.length-k from (by omega)) ⟨[(0,.sl 1 false (ps.map pc5)),(9,.sl 1 false (ps.map pc5)),(10,aI (ps.length:Int)),(3,aI (((ps.take k).flatten.length:Int)+((x1).length:Int))),(11,aI ((k:Int)+1))],[]⟩ ⟨sR,sR,sR,Sub.of_eq (congrArg aI (by rw [Qc4 hx1,List.length_append];omega)),Sub.of_eq (congrArg aI (by first | omega | rfl)),trivial⟩ trivial)
 <| fun q1=>have p1:=decF q1;.r 1<|.callRow (args0:=[aN,aI ((ps.take k).flatten.length:Int)]) (args:=[aN,aI ((ps.take k).flatten.length:Int)]) (xs:=[]) sr2 (by simp) (Qqy (fun w=>Za2 ((ps.take k).flatten.length) (by have:=Qc8 ps k;omega) w)) fun V1=>
 .r 1<|.r 2<|.val 26 (show (aI ((ps.map pc5).length:Int):AV)=aI (ps.length:Int) from by rw [List.length_map])<|.r 1<|let L2:Lp (Nat × Value):=⟨fun a2=>⟨[(25,.sl 1 false (ps.map pc5)),(26,aI (ps.length:Int)),(27,aI (a2.1:Int)),(6,.rw 24 a2.2 ((ps.take a2.1).flatten.length))],[(24,.row a2.2 84 5 ((ps.take a2.1).flatten))]⟩,fun a2=>ps.length-a2.1,fun a2=>a2.1≤ps.length⟩
 .loop L2 (0,V1) (show 0≤ps.length from Nat.zero_le _) ⟨[(25,.sl 1 false (ps.map pc5)),(26,aI (ps.length:Int)),(27,aI 0),(6,.rw 24 V1 0)],[(24,.row V1 84 5 ([]))]⟩ ⟨sR,sR,Sub.of_eq (congrArg aI (by first | omega | rfl)),Sub.of_eq (congrArg (AV.rw 24 V1) (by simp)),trivial⟩ ⟨⟨_,rfl,SubB.of_eq (by simp)⟩,trivial⟩ fun a2 ha2=>
 (fun (j:Nat) (V:Value) (hH2:j≤ps.length)=>.r 1<|.br 28 (decide ((j:Int)<(ps.length:Int))) (fun q3=>have p3:=decT q3;.idxM ps pc5 j (m:=(j:Int)) rfl (by omega) fun x2 hx2=>
 have tx2:=Qc8 ps (j+1);have ux2:=congrArg List.length (Qc4 hx2);have vx2:=(@List.length_append _ (ps.take j).flatten x2);.r 2<|.r 2<|.app 64 V ((ps.take j).flatten) x2 (by omega) (by omega) fun V2=>
 .r 1<|.run 2 [rng .i64 ((j:Int)+1)] ⟨Qas (by omega) (by omega),trivial⟩<|
 .back L2 (j,V) ((j+1),V2) (show (j+1)≤ps.length from (by show _≤_;omega)) (show ps.length-(j+1)<ps.length-j from (by omega)) ⟨[(25,.sl 1 false (ps.map pc5)),(26,aI (ps.length:Int)),(27,aI ((j:Int)+1)),(6,.rw 24 V2 (((ps.take j).flatten).length+x2.length))],[(24,.row V2 84 5 (((ps.take j).flatten)++x2))]⟩ ⟨sR,sR,Sub.of_eq (congrArg aI (by first | omega | rfl)),Sub.of_eq (congrArg (AV.rw 24 V2) (by rw [Qc4 hx2,List.length_append])),trivial⟩ ⟨⟨_,rfl,SubB.of_eq (by rw [Qc4 hx2])⟩,trivial⟩)
 <| fun q3=>have p3:=decF q3;.r 2<|.frz 24 [2] [] [V=V,(ps.take j).flatten.length=((ps.take j).flatten).length] ⟨rfl,(by first | rfl | (simp;done) | (simp;omega)),trivial⟩<|
 .fin (x:=.sl 5 false ((ps.take j).flatten)) (r:=.sl 5 false ps.flatten) [] trivial (by exact Sub.of_eq (by rw [Qay (by omega)]))) a2.1 a2.2 ha2) a1 ha1) Tryz.func108 rfl (by kernel_rfl) (by kernel_rfl)
theorem Qzn {t:Bool}:∀ {ps:List (List (List AV))} {qs:List (List AV)},qs.length=ps.length→(∀ (i:Nat) (q:List AV) (p:List (List AV)),qs[i]?=some q→ps[i]?=some p→Qdh q (pc5 p))→Sub (.sl 1 t qs) (.sl 1 false (ps.map pc5)):=fun {ps qs} hl h=>
 (Sub.sl2 (by rw [hl,List.length_map]) (fun i a b ha hb=>by
  rw [List.getElem?_map] at hb
  cases hc:ps[i]? with
  | none=>rw [hc] at hb;cases hb
  | some p=>
   rw [hc] at hb
   obtain rfl:=Option.some.inj hb
   exact h i a p ha hc)).trans (Sub.loose _ _ _)
theorem pcs3 {t t1 t2 t3:Bool} (A B C:List (List AV)):Sub (.sl 1 t [[.sl 5 t1 A],[.sl 5 t2 B],[.sl 5 t3 C]]) (.sl 1 false ([A,B,C].map pc5)):=Qzn rfl fun i q p hq hp=>by
 match i,hq,hp with
 | 0,hq,hp=>simp at hq hp;subst hq hp;exact ⟨Sub.loose _ _ _,trivial⟩
 | 1,hq,hp=>simp at hq hp;subst hq hp;exact ⟨Sub.loose _ _ _,trivial⟩
 | 2,hq,hp=>simp at hq hp;subst hq hp;exact ⟨Sub.loose _ _ _,trivial⟩
 | i+3,hq,_=>simp at hq
theorem pcs2 {t t1 t2:Bool} (A B:List (List AV)):Sub (.sl 1 t [[.sl 5 t1 A],[.sl 5 t2 B]]) (.sl 1 false ([A,B].map pc5)):=Qzn rfl fun i q p hq hp=>by
 match i,hq,hp with
 | 0,hq,hp=>simp at hq hp;subst hq hp;exact ⟨Sub.loose _ _ _,trivial⟩
 | 1,hq,hp=>simp at hq hp;subst hq hp;exact ⟨Sub.loose _ _ _,trivial⟩
 | i+2,hq,_=>simp at hq
theorem Zf7 (x:Nod):Qaj Tryz.prog 172 [.agg (nodA x)] (aI x.ino):=by
 exact Qac (F:=Tryz.f172) 400 (
 .new fun b1=>.r 1<|.run 3 [b1=b1] rt1<|
 .fin (x:=aI x.ino) (r:=aI x.ino) [] trivial (by exact sR)) Tryz.func172 rfl (by kernel_rfl) (by kernel_rfl)
theorem Qvk (x:Nod) (n:Int):Qaj Tryz.prog 213 [.agg (nodA x),aI n,.dptr [.val (.func (.func 172) #[] #[])]] (aI (cmpD x.ino n)):=by
 exact Qac (F:=Tryz.f213) 400 (
 .new fun b1=>.r 1<|.run 2 [b1=b1] rt1<|
 .call (Zf7 x)<|
 .r 1<|.r 4<|.br 10 (decide (x.ino<n)) (fun q1=>have p1:=decT q1;.r 1<|.fin (x:=aI (-1)) (r:=aI (cmpD x.ino n)) [] trivial (by exact Sub.of_eq (congrArg aI (cmp1 (by omega)).symm)))
 <| fun q1=>have p1:=decF q1;.r 4<|.br 14 (decide (x.ino>n)) (fun q2=>have p2:=decT q2;.r 1<|.fin (x:=aI 1) (r:=aI (cmpD x.ino n)) [] trivial (by exact Sub.of_eq (congrArg aI (cmp2 (by omega) (by omega)).symm)))
 <| fun q2=>have p2:=decF q2;.r 1<|.fin (x:=aI 0) (r:=aI (cmpD x.ino n)) [] trivial (by exact Sub.of_eq (congrArg aI (cmp3 (by omega) (by omega)).symm))) Tryz.func213 rfl (by kernel_rfl) (by kernel_rfl)
def BsH (l:List Nod) (n:Int) (i j:Nat):Prop:=i≤j∧j≤l.length∧Qa1 (fun _ c=>c.ino<n) l i∧∀ k c,j≤k→l[k]?=some c→¬ c.ino<n
theorem bs0 (l:List Nod) (n:Int):BsH l n 0 l.length:=⟨Nat.zero_le _,Nat.le_refl _,Qa1.zero _ _,fun k c hk hc=>by have:=Qan hc;omega⟩
theorem bs_up {l:List Nod} {n:Int} {i j h:Nat} {x:Nod} (hr:Qbs l) (H:BsH l n i j) (hx:l[h]?=some x) (q:decide (cmpD x.ino n<0)=true) (hi:i≤h:=by omega) (hj:h<j:=by omega):BsH l n (h+1) j:=by
 rw [Zg8] at q
 have q:=of_decide_eq_true q
 refine ⟨hj,H.2.1,fun k c hk hc=>?_,H.2.2.2⟩
 have:=hr.le hc hx (by omega)
 show c.ino<n
 omega
theorem bs_dn {l:List Nod} {n:Int} {i j h:Nat} {x:Nod} (hr:Qbs l) (H:BsH l n i j) (hx:l[h]?=some x) (q:decide (cmpD x.ino n<0)=false) (hi:i≤h:=by omega) (hj:h<j:=by omega):BsH l n i h:=by
 rw [Zg8] at q
 have q:=of_decide_eq_false q
 refine ⟨hi,by have:=H.2.1;omega,H.2.2.1,fun k c hk hc=>?_⟩
 have:=hr.le hx hc hk
 omega
theorem Zg9 {l:List Nod} {n:Int} {i j:Nat} (H:BsH l n i j) (hij:¬ i<j):plN l n=i:=
 Qfg (by have:=H.1;have:=H.2.1;omega) H.2.2.1 (fun x hx=>H.2.2.2 i x (by omega) hx)
theorem Qrj (l:List Nod) (n:Int) (hl:l.length≤100000) (hr:Qbs l):Qaj Tryz.prog 212 [.sl 5 false (l.map nodA),aI n,.clo 213 [.dptr [.val (.func (.func 172) #[] #[])]]] (.tup [aI (plN l n:Int),aB (thN l n)]):=by
 exact Qac (F:=Tryz.f212) 400 (
 .r 2<|.r 2<|.val 13 (show (aI ((l.map nodA).length:Int):AV)=aI (l.length:Int) from by rw [List.length_map])<|.r 1<|.r 3<|let L1:Lp (Nat × Nat):=⟨fun a1=>⟨[(0,.sl 5 false (l.map nodA)),(1,aI n),(2,.clo 213 [.dptr [.val (.func (.func 172) #[] #[])]]),(8,aI (l.length:Int)),(9,aI (a1.1:Int)),(10,aI (a1.2:Int))],[]⟩,fun a1=>a1.2-a1.1,fun a1=>BsH l n a1.1 a1.2⟩
 .loop L1 (0,l.length) (show BsH l n 0 l.length from (bs0 l n)) ⟨[(0,.sl 5 false (l.map nodA)),(1,aI n),(2,.clo 213 [.dptr [.val (.func (.func 172) #[] #[])]]),(8,aI (l.length:Int)),(9,aI 0),(10,aI (l.length:Int))],[]⟩ ⟨sR,sR,sR,sR,Sub.of_eq (congrArg aI (by first | omega | rfl)),sR,trivial⟩ trivial fun a1 ha1=>
 (fun (i:Nat) (j:Nat) (hH1:BsH l n i j)=>have hb1:=hH1.1;have hb2:=hH1.2.1;.r 3<|.br 17 (decide ((i:Int)<(j:Int))) (fun q1=>have p1:=decT q1;.run 3 [rng .i64 ((i:Int)+(j:Int))] ⟨Qas (by omega) (by omega),trivial⟩<|
 .op (cvR) (3,188,.int .i64 ((i:Int)+(j:Int)),some 21) (fun (_:Unit) σ=>σ.put (some 21) (.val (.int .u64 ((i:Int)+(j:Int))))) (Qr7 (Qph (by kernel_rfl) (by kernel_rfl) (rngu (by omega) (by omega)))) fun _=>
 .binV .shr 188 (shrN (yk:=.u64) (a:=((i:Int)+(j:Int))) (b:=1) (by omega))<|
 .val 22 (show (.val (.int .u64 (((i:Int)+(j:Int)) / 2 ^ 1)):AV)=.val (.int .u64 (((i+j) / 2:Nat):Int)) from (congrArg (fun z=>AV.val (.int .u64 z)) (by rw [show (i:Int)+(j:Int)=((i+j:Nat):Int) from by omega];exact fdiv2 _)))<|.op (cvR) (188,3,.int .u64 (((i+j) / 2:Nat):Int),some 23) (fun (_:Unit) σ=>σ.put (some 23) (.val (.int .i64 (((i+j) / 2:Nat):Int)))) (Qr7 (Qph (by kernel_rfl) (by kernel_rfl) (Qas (by omega) (by omega)))) fun _=>
 .r 1<|.r 3<|.idxM l nodA ((i+j) / 2) (m:=(((i+j) / 2:Nat):Int)) rfl (by have:=hH1.1;have:=hH1.2.1;omega) fun x1 hx1=>
 .r 2<|.call (Qvk x1 n)<|
 .r 1<|.br 31 (decide ((cmpD x1.ino n)<0)) (fun q2=>have p2:=decT q2;.run 3 [rng .i64 ((((i+j) / 2:Nat):Int)+1)] ⟨Qas (by omega) (by omega),trivial⟩<|
 .back L1 (i,j) (((i+j) / 2+1),j) (show BsH l n ((i+j) / 2+1) j from (bs_up hr hH1 hx1 q2)) (show j-((i+j) / 2+1)<j-i from (by omega)) ⟨[(0,.sl 5 false (l.map nodA)),(1,aI n),(2,.clo 213 [.dptr [.val (.func (.func 172) #[] #[])]]),(8,aI (l.length:Int)),(9,aI ((((i+j) / 2:Nat):Int)+1)),(10,aI (j:Int))],[]⟩ ⟨sR,sR,sR,sR,Sub.of_eq (congrArg aI (by omega)),sR,trivial⟩ trivial)
 <| fun q2=>have p2:=decF q2;.r 2<|.back L1 (i,j) (i,((i+j) / 2)) (show BsH l n i ((i+j) / 2) from (bs_dn hr hH1 hx1 q2)) (show ((i+j) / 2)-i<j-i from (by omega)) ⟨[(0,.sl 5 false (l.map nodA)),(1,aI n),(2,.clo 213 [.dptr [.val (.func (.func 172) #[] #[])]]),(8,aI (l.length:Int)),(9,aI (i:Int)),(10,aI (((i+j) / 2:Nat):Int))],[]⟩ ⟨sR,sR,sR,sR,sR,Sub.of_eq (congrArg aI (by first | omega | rfl)),trivial⟩ trivial)
 <| fun q1=>have p1:=decF q1;.r 5<|.br 39 (decide ((i:Int)<(l.length:Int))) (fun q3=>have p3:=decT q3;.r 3<|.idxM l nodA i (m:=(i:Int)) rfl (by omega) fun x2 hx2=>
 .r 2<|.call (Qvk x2 n)<|
 .r 4<|.fin (x:=.tup [aI (i:Int),aB ((cmpD x2.ino n)==0)]) (r:=.tup [aI (plN l n:Int),aB (thN l n)]) [] trivial (by
  have e:=Zg9 hH1 (by omega)
  rw [show thN l n=(cmpD x2.ino n==0) from (Qk0 e hx2).trans cmp_eq.symm,show plN l n=i from e]
  exact sR))
 <| fun q3=>have p3:=decF q3;.r 11<|.fin (x:=.tup [aI (i:Int),aB false]) (r:=.tup [aI (plN l n:Int),aB (thN l n)]) [] trivial (by
  have e:=Zg9 hH1 (by omega)
  have e2:plN l n=l.length:=(by have:=hH1.1;have:=hH1.2.1;omega)
  rw [show thN l n=false from Qvu e2,show plN l n=i from e]
  exact sR)) a1.1 a1.2 ha1) Tryz.func212 rfl (by kernel_rfl) (by kernel_rfl)
theorem Qwo (l:List Nod) (n:Int) (hl:l.length≤100000) (hr:Qbs l):Qaj Tryz.prog 171 [.sl 5 false (l.map nodA),.val (.func (.func 172) #[] #[]),aI n] (.tup [aI (plN l n:Int),aB (thN l n)]):=by
 exact Qac (F:=Tryz.f171) 400 (
 .new fun b1=>.r 2<|.frz 4 [0,2,4,6,7] [] [b1=b1] rt1<|
 .r 3<|.call (Qrj l n hl hr)<|
 .r 4<|.fin (x:=.tup [aI (plN l n:Int),aB (thN l n)]) (r:=.tup [aI (plN l n:Int),aB (thN l n)]) [] trivial (by exact sR)) Tryz.func171 rfl (by kernel_rfl) (by kernel_rfl)
theorem Qto (f:Fsy) (n:Int) (hl:f.l.length≤100000) (hr:Qbs f.l):Qaj Tryz.prog 128 [.agg (fsyA f),aI n] (.tup [aI (plN f.l n:Int),aB (thN f.l n)]):=by
 exact Qac (F:=Tryz.f128) 400 (
 .new fun b1=>.r 2<|.run 3 [b1=b1] rt1<|
 .call (Qwo f.l n hl hr)<|
 .r 4<|.fin (x:=.tup [aI (plN f.l n:Int),aB (thN f.l n)]) (r:=.tup [aI (plN f.l n:Int),aB (thN f.l n)]) [] trivial (by exact sR)) Tryz.func128 rfl (by kernel_rfl) (by kernel_rfl)
theorem Qce (f:Fsy) (n:Int) (hl:f.l.length≤100000) (hr:Qbs f.l):Qaj Tryz.prog 81 [.agg (fsyA f),aI n] (.tup [.agg (nodA (Qaa f n)),aB (Qar f n)]):=by
 exact Qac (F:=Tryz.f81) 400 (
 .new fun b1=>.new fun b2=>.r 1<|.run 2 [b1=b1] rt1<|
 .call (Qto f n hl hr)<|
 .r 5<|.r 2<|.br 15 (!(thN f.l n)) (fun q1=>have q1:=notT q1;have p1:=booF q1;.run 3 [b2=b2] rt1<|
 .fin (x:=.tup [.agg [aI 0,aI 0,aI 0,aS ([]),aN],aB false]) (r:=.tup [.agg (nodA (Qaa f n)),aB (Qar f n)]) [b2=b2] rt1 (by
  obtain ⟨e1,e2⟩:=Ql8 hr q1
  rw [show Qaa f n=nod0 from by unfold Qaa;rw [e2];rfl,show Qar f n=false from e1]
  exact Sub.tups ⟨Sub.aggs ⟨sR,sR,sR,sR,Sub.nil _ _,trivial⟩,sR,trivial⟩))
 <| fun q1=>have q1:=notF q1;have p1:=booT q1;.run 3 [b1=b1] rt1<|
 .idxM f.l nodA (plN f.l n) (m:=(plN f.l n:Int)) rfl (by obtain ⟨c,hc,_⟩:=Qfr q1;exact Qan hc) fun x1 hx1=>
 .run 3 [b2=b2] rt1<|
 .fin (x:=.tup [.agg (nodA x1),aB true]) (r:=.tup [.agg (nodA (Qaa f n)),aB (Qar f n)]) [b2=b2] rt1 (by
  obtain ⟨e1,e2⟩:=Qnv hr q1 hx1
  rw [show Qaa f n=x1 from by unfold Qaa;rw [e2];rfl,show Qar f n=true from e1]
  exact sR)) Tryz.func81 rfl (by kernel_rfl) (by kernel_rfl)
end Go.Proofs.YtahlldgocpabjaaGreat
