import Derived.Test.YtahlldgocpabjaaGreatMrgK
import Derived.Test.YtahlldgocpabjaaGreatMrgJ
set_option maxRecDepth 100000
set_option maxHeartbeats 8000000
set_option linter.unusedVariables false
set_option linter.unusedSimpArgs false
namespace Go.Proofs.YtahlldgocpabjaaGreat
open Go Go.RowKit Copyhold Go.Proofs.Tryz
section
variable {α:Type}
def Qd8 (f:α→Int) (l:List α) (n:Int):Nat:=(l.takeWhile fun c=>decide (f c<n)).length
def Ql1 (f:α→Int) (l:List α) (n:Int):Bool:=match l[Qd8 f l n]? with | some c=>f c==n | none=>false
def Qzt (f:α→Int) (l:List α):Prop:=l.Pairwise fun c d=>f c<f d
theorem Zbu (f:α→Int) (l:List α) (n:Int):Qd8 f l n≤l.length:=by
 have h:=congrArg List.length (List.takeWhile_append_dropWhile (p:=fun c=>decide (f c<n)) (l:=l));rw [List.length_append] at h;unfold Qd8;omega
theorem Qfs {f:α→Int} {n:Int}:∀ {l:List α} {k:Nat},k≤l.length→Qa1 (fun _ c=>f c<n) l k→(∀ x,l[k]?=some x→¬ f x<n)→Qd8 f l n=k
 | [],k,hk,_,_=>by simp at hk;subst hk;rfl
 | x :: r,0,_,_,he=>by
  have:=he x rfl;unfold Qd8;simp [this]
 | x :: r,k+1,hk,h,he=>by
  have h1:=h 0 x (by omega) rfl;have h2:=Qfs (l:=r) (k:=k) (by simpa using hk) (fun j e hj he=>h (j+1) e (by omega) (by simpa using he)) (fun y hy=>he y (by simpa using hy));unfold Qd8 at h2 ⊢;simp [h1,h2]
theorem Ql0 {f:α→Int} {n:Int} {l:List α} {k:Nat} {x:α} (h:Qd8 f l n=k) (hx:l[k]?=some x):Ql1 f l n=(f x==n):=by
 unfold Ql1;rw [h,hx]
theorem Qxu {f:α→Int} {n:Int} {l:List α} (h:Qd8 f l n=l.length):Ql1 f l n=false:=by
 unfold Ql1;rw [h,List.getElem?_eq_none (Nat.le_refl _)]
theorem Qfz {f:α→Int} {l:List α} {n:Int} (h:Ql1 f l n=true):∃ c,l[Qd8 f l n]?=some c∧f c=n:=by
 unfold Ql1 at h
 split at h
 ·rename_i c hc;exact ⟨c,hc,by simpa using h⟩
 ·cases h
theorem Qzt.le {f:α→Int} {l:List α} (h:Qzt f l) {i j:Nat} {c d:α} (hc:l[i]?=some c) (hd:l[j]?=some d) (hij:i≤j):f c≤f d:=by
 rcases Nat.lt_or_ge i j with hlt | hge
 ·have h3:=List.pairwise_iff_getElem.1 h;have l1:=Qan hc;have l2:=Qan hd;have:=h3 i j l1 l2 hlt;have e1:l[i]=c:=Option.some.inj ((List.getElem?_eq_getElem l1).symm.trans hc);have e2:l[j]=d:=Option.some.inj ((List.getElem?_eq_getElem l2).symm.trans hd);rw [e1,e2] at this;omega
 ·obtain rfl:i=j:=by omega
  rw [hc] at hd;obtain rfl:=Option.some.inj hd;exact Int.le_refl _
theorem Qzt.cut {f:α→Int} {l:List α} (h:Qzt f l) (n:Int):(∀ c∈l.take (Qd8 f l n),f c<n)∧∀ c∈l.drop (Qd8 f l n),¬ f c<n:=by
 induction l with
 | nil=>exact ⟨fun c hc=>by simp at hc,fun c hc=>by simp at hc⟩
 | cons x r ih=>
  obtain ⟨h1,h2⟩:=List.pairwise_cons.1 h;by_cases hx:f x<n
  ·have e:Qd8 f (x :: r) n=Qd8 f r n+1:=by unfold Qd8;simp [hx]
   rw [e];refine ⟨fun c hc=>?_,fun c hc=>(ih h2).2 c (by simpa using hc)⟩;rcases List.mem_cons.1 (by simpa using hc) with rfl | hc
   ·exact hx
   ·exact (ih h2).1 c hc
  ·have e:Qd8 f (x :: r) n=0:=by unfold Qd8;simp [hx]
   rw [e];refine ⟨fun c hc=>by simp at hc,fun c hc=>?_⟩;rcases List.mem_cons.1 (by simpa using hc) with rfl | hc
   ·exact hx
   ·have:=h1 c hc;omega
end
def cmpD (a b:Int):Int:=if a<b then -1 else if a>b then 1 else 0
theorem Zj6 {a b:Int}:decide (cmpD a b<0)=decide (a<b):=by
 unfold cmpD;split
 ·simp [*]
 ·split<;>simp [*]
theorem cmp_eq {a b:Int}:(cmpD a b==0)=(a==b):=by
 unfold cmpD;split
 ·have:¬ a=b:=by omega
  simp [this]
 ·split
  ·have:¬ a=b:=by omega
   simp [this]
  ·have:a=b:=by omega
   simp [this]
theorem cmp1 {a b:Int} (h:a<b):cmpD a b = -1:=if_pos h
theorem cmp2 {a b:Int} (h:¬ a<b) (h2:a>b):cmpD a b=1:=by unfold cmpD;rw [if_neg h,if_pos h2]
theorem cmp3 {a b:Int} (h:¬ a<b) (h2:¬ a>b):cmpD a b=0:=by unfold cmpD;rw [if_neg h,if_neg h2]
def nod0:Nod:=⟨0,0,0,[],[]⟩
theorem Qke:OkN nod0:=⟨⟨by decide,by decide⟩,⟨by decide,by decide⟩,⟨by decide,by decide⟩,by show (0:Nat)≤_;omega,by show (0:Nat)≤_;omega,fun e h=>by cases h⟩
def isNo (i:Int) (n:Nod):Bool:=n.ino==i
def Qau (f:Fsy) (i:Int):Bool:=f.l.any (isNo i)
def Qaa (f:Fsy) (i:Int):Nod:=(f.l.find? (isNo i)).getD nod0
theorem Qf6 {f:Fsy} (ok:OkF f) (i:Int):OkN (Qaa f i):=by
 unfold Qaa;cases h:f.l.find? (isNo i) with
 | none=>exact Qke
 | some n=>exact ok.2.2 n (List.mem_of_find?_eq_some h)
theorem Qu4 {i:Int}:∀ {l:List Nod} {k:Nat} {x:Nod},Qa1 (fun _ n=>isNo i n=false) l k→l[k]?=some x→isNo i x=true→l.any (isNo i)=true∧l.find? (isNo i)=some x
 | y :: r,0,x,_,hx,hp=>by simp at hx;subst hx;simp [hp]
 | y :: r,k+1,x,h,hx,hp=>by
  have h1:=h 0 y (by omega) rfl;obtain ⟨h2,h3⟩:=Qu4 (l:=r) (k:=k) (fun j e hj he=>h (j+1) e (by omega) (by simpa using he)) (by simpa using hx) hp;simp [h1,h2,h3]
theorem Zds {i:Int} {l:List Nod} (h:AllQ (fun _ n=>isNo i n=false) l):l.any (isNo i)=false∧l.find? (isNo i)=none:=by
 have h0:∀ x∈l,isNo i x=false:=fun x hx=>by obtain ⟨j,hj⟩:=List.getElem?_of_mem hx;exact h j x hj
 constructor
 ·rw [List.any_eq_false];intro x hx;simp [h0 x hx]
 ·rw [List.find?_eq_none];intro x hx;simp [h0 x hx]
abbrev plN (l:List Nod) (n:Int):Nat:=Qd8 Nod.ino l n
abbrev thN (l:List Nod) (n:Int):Bool:=Ql1 Nod.ino l n
abbrev Qbq (l:List Nod):Prop:=Qzt Nod.ino l
theorem Qo2 {l:List Nod} {i:Int} (hr:Qbq l) {x:Nod} (h:thN l i=true) (hx:l[plN l i]?=some x):l.any (isNo i)=true∧l.find? (isNo i)=some x:=by
 refine Qu4 (k:=plN l i) (fun j e hj he=>?_) hx ?_
 ·have:=(hr.cut i).1 e (List.mem_of_getElem? (i:=j) (by rw [List.getElem?_take,if_pos hj];exact he));have hne:¬ e.ino=i:=by omega
  simp [isNo,hne]
 ·have h2:(x.ino==i)=true:=(Ql0 rfl hx).symm.trans h;exact h2
theorem Qnb {l:List Nod} {i:Int} (hr:Qbq l) (h:thN l i=false):l.any (isNo i)=false∧l.find? (isNo i)=none:=by
 refine Zds fun j e he=>?_;have hne:¬ e.ino=i:=fun hi=>by
  have hc:=hr.cut i;by_cases hj:j<plN l i
  ·have:=hc.1 e (List.mem_of_getElem? (i:=j) (by rw [List.getElem?_take,if_pos hj];exact he));omega
  ·obtain ⟨y,hy⟩:=Qfe (l:=l) (k:=plN l i) (by have:=Qan he;omega)
   replace h:(y.ino==i)=false:=(Ql0 rfl hy).symm.trans h
   have h2:=hr.le hy he (by omega);have h3:=hc.2 y (List.mem_of_getElem? (i:=0) (by rw [List.getElem?_drop,Nat.add_zero];exact hy));have:¬ y.ino=i:=by simpa using h
   omega
 simp [isNo,hne]
theorem Zhw {f:Fsy} {i:Int} (hr:Qbq f.l):Qau f i=thN f.l i:=by
 cases h:thN f.l i with
 | false=>exact (Qnb hr h).1
 | true=>
  obtain ⟨c,hc,_⟩:=Qfz h;exact (Qo2 hr h hc).1
def Za1 (f:Fsy) (i:Nat) (n:Nod):Prop:=nodP n∧n.ino<f.next∧∀ d,0<i→f.l[i-1]?=some d→d.ino<n.ino
def Qam (f:Fsy):Prop:=f.l.length≤256∧1≤f.next∧AllQ (Za1 f) f.l
theorem Qbg {f:Fsy}:Qam f↔f.l.length≤256∧1≤f.next∧(∀ n∈f.l,nodP n∧n.ino<f.next)∧Qbq f.l:=by
 constructor
 ·rintro ⟨h1,h2,h3⟩;refine ⟨h1,h2,fun n hn=>?_,?_⟩
  ·obtain ⟨k,hk⟩:=List.getElem?_of_mem hn;exact ⟨(h3.at hk).1,(h3.at hk).2.1⟩
  ·have key:∀ (i j:Nat) (c d:Nod),i<j→f.l[i]?=some c→f.l[j]?=some d→c.ino<d.ino:=by
    intro i j
    induction j with
    | zero=>intro c d h;omega
    | succ j ih=>
     intro c d hij hc hd;obtain ⟨e,he⟩:=Qfe (l:=f.l) (k:=j) (by have:=Qan hd;omega);have h1:=(h3.at hd).2.2 e (by omega) (by simpa using he);rcases Nat.lt_or_ge i j with hij' | hij'
     ·have:=ih c e hij' hc he;omega
     ·obtain rfl:i=j:=by omega
      rw [hc] at he;obtain rfl:=Option.some.inj he;exact h1
   exact List.pairwise_iff_getElem.2 fun i j hi hj hij=>key i j _ _ hij (List.getElem?_eq_getElem hi) (List.getElem?_eq_getElem hj)
 ·rintro ⟨h1,h2,h3,h4⟩;refine ⟨h1,h2,fun i n hn=>⟨(h3 n (List.mem_of_getElem? hn)).1,(h3 n (List.mem_of_getElem? hn)).2,fun d h0 hd=>?_⟩⟩;have h5:=List.pairwise_iff_getElem.1 h4;have l1:=Qan hd;have l2:=Qan hn;have:=h5 (i-1) i l1 l2 (by omega);have e1:f.l[i-1]=d:=Option.some.inj ((List.getElem?_eq_getElem l1).symm.trans hd);have e2:f.l[i]=n:=Option.some.inj ((List.getElem?_eq_getElem l2).symm.trans hn);rw [e1,e2] at this;exact this
theorem Qad {f:Fsy} (h:Qam f):Qbq f.l:=(Qbg.1 h).2.2.2
def putN (l:List Nod) (n:Nod):List Nod:=l.take (plN l n.ino)++n :: l.drop (plN l n.ino+if thN l n.ino then 1 else 0)
def putF (f:Fsy) (n:Nod):Fsy:=⟨putN f.l n,if n.ino+1>f.next then n.ino+1 else f.next⟩
def outN (l:List Nod) (i:Int):List Nod:=if thN l i then l.take (plN l i)++l.drop (plN l i+1) else l
def outF (f:Fsy) (i:Int):Fsy:=⟨outN f.l i,f.next⟩
theorem Zlg:Elem prog 26 84 (.agg #[.int .i64 0,.int .i64 0,.int .i64 0,.string ByteArray.empty,.slice none 0 0]) 5 64:=⟨Tryz.underlying26,by kernel_rfl,by kernel_rfl,by decide⟩
theorem Zdg (n:Nat) (hn:n≤1000000) (w:World) :
  Calls prog 163 #[.slice none 0 0,.int .i64 (n:Int)] w (Zfc w 84 5 0 []):=by
 by_cases h0:0<n
 ·obtain ⟨G,w',hrun,hG1,hG2,hown,hb⟩:=Qq8 Zlg Tryz.underlying3 n h0 (by omega) (by omega) w;have HO:=Lib.hid (And.intro hown hb);have hi0:(0:Int)<(n:Int):=by omega
  clear hown hb
  go_enter func163,Tryz.ntmps163
  go_wp2_with (at_builtin;refine Qez rfl _ _ _ _ rfl _ _ _ _ rfl rfl (hrun _) ?_)
  go_ret
  exact ⟨_,rfl,HO.out.1,HO.out.2⟩
 ·obtain rfl:n=0:=by omega
  go_enter func163,Tryz.ntmps163
  go_wp2_with fail
  go_ret
  exact ⟨_,rfl,World.ownsRow_nil _ _ _ _,Below.refl _ _⟩
def pc5 (p:List (List AV)):List AV:=[.sl 5 false p]
theorem Qf9 (ps:List (List (List AV))) (hl:ps.length≤100000) (ht:ps.flatten.length≤100000):Qaf prog 108 [.sl 1 false (ps.map pc5)] (.sl 5 false ps.flatten):=by
 exact Qac func108 (
 .r 1<|.r 1<|.r 2<|.lm 10 ps pc5<|.r 1<|let L1:Lp (Nat):=⟨fun a1=>⟨[(0,.sl 1 false (ps.map pc5)),(9,.sl 1 false (ps.map pc5)),(10,aI (ps.length:Int)),(3,aI ((ps.take a1).flatten.length:Int)),(11,aI (a1:Int))],[]⟩,fun a1=>ps.length-a1,fun a1=>a1≤ps.length⟩
 .lp L1 0 (show 0≤ps.length from Nat.zero_le _) [(3,aI 0),(11,aI 0)] [] ⟨sR,sR,sR,sO,sO,trivial⟩ trivial fun a1 ha1=>
 (fun (k:Nat) (hH1:k≤ps.length)=>.r 1<|.bd 12 ((k:Int)<(ps.length:Int)) (fun p1=>.idxM ps pc5 k (m:=(k:Int)) rfl (by omega) fun x1 hx1=>
 have tx1:=Qdb ps (k+1);have ux1:=congrArg List.length (Qc8 hx1);have vx1:=(@List.length_append _ (ps.take k).flatten x1);.r 2<|.run 5 [rng .i64 (((ps.take k).flatten.length:Int)+((x1).length:Int))] ⟨Qaj (by omega) (by omega),trivial⟩<|
 .r 2<|.bd 20 ((((ps.take k).flatten.length:Int)+((x1).length:Int))<0) (fun p2=>.no (by omega))
 <| fun p2=>.run 2 [rng .i64 ((k:Int)+1)] ⟨Qaj (by omega) (by omega),trivial⟩<|
 .bk L1 k (k+1) (show (k+1)≤ps.length from (by show _≤_;omega)) (show ps.length-(k+1)<ps.length-k from (by omega)) [(3,aI (((ps.take k).flatten.length:Int)+((x1).length:Int))),(11,aI ((k:Int)+1))] [] ⟨sR,sR,sR,Sub.of_eq (congrArg aI (by rw [Qc8 hx1,List.length_append];omega)),sO,trivial⟩ trivial)
 <| fun p1=>.r 1<|.cw (args0:=[aN,aI ((ps.take k).flatten.length:Int)]) (Qsg (fun w=>Zdg ((ps.take k).flatten.length) (by have:=Qdb ps k;omega) w)) sr2 fun V1=>
 .r 1<|.r 2<|.lm 26 ps pc5<|.r 1<|let L2:Lp (Nat × Value):=⟨fun a2=>⟨[(25,.sl 1 false (ps.map pc5)),(26,aI (ps.length:Int)),(27,aI (a2.1:Int)),(6,.rw 24 a2.2 ((ps.take a2.1).flatten.length))],[(24,.row a2.2 84 5 ((ps.take a2.1).flatten))]⟩,fun a2=>ps.length-a2.1,fun a2=>a2.1≤ps.length⟩
 .lp L2 (0,V1) (show 0≤ps.length from Nat.zero_le _) [(27,aI 0),(6,.rw 24 V1 0)] [(24,.row V1 84 5 ([]))] ⟨sR,sR,sO,Sub.of_eq (congrArg (AV.rw 24 V1) (by simp)),trivial⟩ ⟨⟨_,rfl,SubB.of_eq (by simp)⟩,trivial⟩ fun a2 ha2=>
 (fun (j:Nat) (V:Value) (hH2:j≤ps.length)=>.r 1<|.bd 28 ((j:Int)<(ps.length:Int)) (fun p3=>.idxM ps pc5 j (m:=(j:Int)) rfl (by omega) fun x2 hx2=>
 have tx2:=Qdb ps (j+1);have ux2:=congrArg List.length (Qc8 hx2);have vx2:=(@List.length_append _ (ps.take j).flatten x2);.r 2<|.r 2<|.app 64 V ((ps.take j).flatten) x2 (by omega) (by omega) fun V2=>
 .r 1<|.run 2 [rng .i64 ((j:Int)+1)] ⟨Qaj (by omega) (by omega),trivial⟩<|
 .bk L2 (j,V) ((j+1),V2) (show (j+1)≤ps.length from (by show _≤_;omega)) (show ps.length-(j+1)<ps.length-j from (by omega)) [(27,aI ((j:Int)+1)),(6,.rw 24 V2 (((ps.take j).flatten).length+x2.length))] [(24,.row V2 84 5 (((ps.take j).flatten)++x2))] ⟨sR,sR,sO,Sub.of_eq (congrArg (AV.rw 24 V2) (by rw [Qc8 hx2,List.length_append])),trivial⟩ ⟨⟨_,rfl,SubB.of_eq (by rw [Qc8 hx2])⟩,trivial⟩)
 <| fun p3=>.r 2<|.frz 24 [2] [] [V=V,(ps.take j).flatten.length=((ps.take j).flatten).length] ⟨rfl,(by first | rfl | (simp;done) | (simp;omega)),trivial⟩<|
 .f (.sl 5 false ps.flatten) [] (.sl 5 false ((ps.take j).flatten)) (by exact Sub.of_eq (by rw [Qav (by omega)]))) a2.1 a2.2 ha2) a1 ha1)
theorem Zby {t:Bool}:∀ {ps:List (List (List AV))} {qs:List (List AV)},qs.length=ps.length→(∀ (i:Nat) (q:List AV) (p:List (List AV)),qs[i]?=some q→ps[i]?=some p→Qc2 q (pc5 p))→Sub (.sl 1 t qs) (.sl 1 false (ps.map pc5)):=fun {ps qs} hl h=>
 (Sub.sl2 (by rw [hl,List.length_map]) (fun i a b ha hb=>by
  rw [List.getElem?_map] at hb;cases hc:ps[i]? with
  | none=>rw [hc] at hb;cases hb
  | some p=>
   rw [hc] at hb;obtain rfl:=Option.some.inj hb;exact h i a p ha hc)).trans (Sub.loose _ _ _)
theorem pcs3 {t t1 t2 t3:Bool} (A B C:List (List AV)):Sub (.sl 1 t [[.sl 5 t1 A],[.sl 5 t2 B],[.sl 5 t3 C]]) (.sl 1 false ([A,B,C].map pc5)):=Zby rfl fun i q p hq hp=>by
 match i,hq,hp with
 | 0,hq,hp=>simp at hq hp;subst hq hp;exact ⟨Sub.loose _ _ _,trivial⟩
 | 1,hq,hp=>simp at hq hp;subst hq hp;exact ⟨Sub.loose _ _ _,trivial⟩
 | 2,hq,hp=>simp at hq hp;subst hq hp;exact ⟨Sub.loose _ _ _,trivial⟩
 | i+3,hq,_=>simp at hq
theorem pcs2 {t t1 t2:Bool} (A B:List (List AV)):Sub (.sl 1 t [[.sl 5 t1 A],[.sl 5 t2 B]]) (.sl 1 false ([A,B].map pc5)):=Zby rfl fun i q p hq hp=>by
 match i,hq,hp with
 | 0,hq,hp=>simp at hq hp;subst hq hp;exact ⟨Sub.loose _ _ _,trivial⟩
 | 1,hq,hp=>simp at hq hp;subst hq hp;exact ⟨Sub.loose _ _ _,trivial⟩
 | i+2,hq,_=>simp at hq
theorem Zi4 (x:Nod):Qaf prog 172 [.agg (nodA x)] (aI x.ino):=by
 exact Qac func172 (
 .new fun b1=>.r 1<|.u 3 [b1]<|
 .fi (aI x.ino) [])
theorem Qxl (x:Nod) (n:Int):Qaf prog 213 [.agg (nodA x),aI n,.dptr [.val (.func (.func 172) #[] #[])]] (aI (cmpD x.ino n)):=by
 exact Qac func213 (
 .new fun b1=>.r 1<|.u 2 [b1]<|
 .call (Zi4 x)<|
 .r 1<|.r 4<|.bd 10 (x.ino<n) (fun p1=>.r 1<|.f (aI (cmpD x.ino n)) [] (aI (-1)) (by exact Sub.of_eq (congrArg aI (cmp1 (by omega)).symm)))
 <| fun p1=>.r 4<|.bd 14 (x.ino>n) (fun p2=>.r 1<|.f (aI (cmpD x.ino n)) [] (aI 1) (by exact Sub.of_eq (congrArg aI (cmp2 (by omega) (by omega)).symm)))
 <| fun p2=>.r 1<|.f (aI (cmpD x.ino n)) [] (aI 0) (by exact Sub.of_eq (congrArg aI (cmp3 (by omega) (by omega)).symm)))
def BsH (l:List Nod) (n:Int) (i j:Nat):Prop:=i≤j∧j≤l.length∧Qa1 (fun _ c=>c.ino<n) l i∧∀ k c,j≤k→l[k]?=some c→¬ c.ino<n
theorem bs0 (l:List Nod) (n:Int):BsH l n 0 l.length:=⟨Nat.zero_le _,Nat.le_refl _,Qa1.zero _ _,fun k c hk hc=>by have:=Qan hc;omega⟩
theorem bs_up {l:List Nod} {n:Int} {i j h:Nat} {x:Nod} (hr:Qbq l) (H:BsH l n i j) (hx:l[h]?=some x) (q:decide (cmpD x.ino n<0)=true) (hi:i≤h:=by omega) (hj:h<j:=by omega):BsH l n (h+1) j:=by
 rw [Zj6] at q;have q:=of_decide_eq_true q;refine ⟨hj,H.2.1,fun k c hk hc=>?_,H.2.2.2⟩;have:=hr.le hc hx (by omega);show c.ino<n;omega
theorem bs_dn {l:List Nod} {n:Int} {i j h:Nat} {x:Nod} (hr:Qbq l) (H:BsH l n i j) (hx:l[h]?=some x) (q:decide (cmpD x.ino n<0)=false) (hi:i≤h:=by omega) (hj:h<j:=by omega):BsH l n i h:=by
 rw [Zj6] at q;have q:=of_decide_eq_false q;refine ⟨hi,by have:=H.2.1;omega,H.2.2.1,fun k c hk hc=>?_⟩;have:=hr.le hx hc hk;omega
theorem Zj7 {l:List Nod} {n:Int} {i j:Nat} (H:BsH l n i j) (hij:¬ i<j):plN l n=i:=
 Qfs (by have:=H.1;have:=H.2.1;omega) H.2.2.1 (fun x hx=>H.2.2.2 i x (by omega) hx)
theorem Qs8 (l:List Nod) (n:Int) (hl:l.length≤100000) (hr:Qbq l):Qaf prog 212 [.sl 5 false (l.map nodA),aI n,.clo 213 [.dptr [.val (.func (.func 172) #[] #[])]]] (.tup [aI (plN l n:Int),aB (thN l n)]):=by
 exact Qac func212 (
 .r 2<|.r 2<|.lm 13 l nodA<|.r 1<|.r 3<|let L1:Lp (Nat × Nat):=⟨fun a1=>⟨[(0,.sl 5 false (l.map nodA)),(1,aI n),(2,.clo 213 [.dptr [.val (.func (.func 172) #[] #[])]]),(8,aI (l.length:Int)),(9,aI (a1.1:Int)),(10,aI (a1.2:Int))],[]⟩,fun a1=>a1.2-a1.1,fun a1=>BsH l n a1.1 a1.2⟩
 .lp L1 (0,l.length) (show BsH l n 0 l.length from (bs0 l n)) [(9,aI 0)] [] ⟨sR,sR,sR,sR,sO,sR,trivial⟩ trivial fun a1 ha1=>
 (fun (i:Nat) (j:Nat) (hH1:BsH l n i j)=>have hb1:=hH1.1;have hb2:=hH1.2.1;.r 3<|.bd 17 ((i:Int)<(j:Int)) (fun p1=>.run 3 [rng .i64 ((i:Int)+(j:Int))] ⟨Qaj (by omega) (by omega),trivial⟩<|
 .op (cvR) (3,188,.int .i64 ((i:Int)+(j:Int)),some 21) (fun (_:Unit) σ=>σ.put (some 21) (.val (.int .u64 ((i:Int)+(j:Int))))) (Qt3 (Qqw (by kernel_rfl) (by kernel_rfl) (rngu (by omega) (by omega)))) fun _=>
 .binV .shr 188 (shrN (yk:=.u64) (a:=((i:Int)+(j:Int))) (b:=1) (by omega))<|
 .val 22 (show (.val (.int .u64 (((i:Int)+(j:Int)) / 2 ^ 1)):AV)=.val (.int .u64 (((i+j) / 2:Nat):Int)) from (congrArg (fun z=>AV.val (.int .u64 z)) (by rw [show (i:Int)+(j:Int)=((i+j:Nat):Int) from by omega];exact fdiv2 _)))<|.op (cvR) (188,3,.int .u64 (((i+j) / 2:Nat):Int),some 23) (fun (_:Unit) σ=>σ.put (some 23) (.val (.int .i64 (((i+j) / 2:Nat):Int)))) (Qt3 (Qqw (by kernel_rfl) (by kernel_rfl) (Qaj (by omega) (by omega)))) fun _=>
 .r 1<|.r 3<|.idxM l nodA ((i+j) / 2) (m:=(((i+j) / 2:Nat):Int)) rfl (by have:=hH1.1;have:=hH1.2.1;omega) fun x1 hx1=>
 .r 2<|.call (Qxl x1 n)<|
 .r 1<|.br 31 (decide ((cmpD x1.ino n)<0)) (fun q2=>have p2:=decT q2;.run 3 [rng .i64 ((((i+j) / 2:Nat):Int)+1)] ⟨Qaj (by omega) (by omega),trivial⟩<|
 .bk L1 (i,j) (((i+j) / 2+1),j) (show BsH l n ((i+j) / 2+1) j from (bs_up hr hH1 hx1 q2)) (show j-((i+j) / 2+1)<j-i from (by omega)) [(9,aI ((((i+j) / 2:Nat):Int)+1))] [] ⟨sR,sR,sR,sR,Sub.of_eq (congrArg aI (by omega)),sR,trivial⟩ trivial)
 <| fun q2=>have p2:=decF q2;.r 2<|.bk L1 (i,j) (i,((i+j) / 2)) (show BsH l n i ((i+j) / 2) from (bs_dn hr hH1 hx1 q2)) (show ((i+j) / 2)-i<j-i from (by omega)) [(10,aI (((i+j) / 2:Nat):Int))] [] ⟨sR,sR,sR,sR,sR,sO,trivial⟩ trivial)
 <| fun p1=>.r 5<|.bd 39 ((i:Int)<(l.length:Int)) (fun p3=>.r 3<|.idxM l nodA i (m:=(i:Int)) rfl (by omega) fun x2 hx2=>
 .r 2<|.call (Qxl x2 n)<|
 .r 4<|.f (.tup [aI (plN l n:Int),aB (thN l n)]) [] (.tup [aI (i:Int),aB ((cmpD x2.ino n)==0)]) (by
  have e:=Zj7 hH1 (by omega);rw [show thN l n=(cmpD x2.ino n==0) from (Ql0 e hx2).trans cmp_eq.symm,show plN l n=i from e];exact sR))
 <| fun p3=>.r 11<|.f (.tup [aI (plN l n:Int),aB (thN l n)]) [] (.tup [aI (i:Int),aB false]) (by
  have e:=Zj7 hH1 (by omega);have e2:plN l n=l.length:=(by have:=hH1.1;have:=hH1.2.1;omega)
  rw [show thN l n=false from Qxu e2,show plN l n=i from e];exact sR)) a1.1 a1.2 ha1)
theorem Qys (l:List Nod) (n:Int) (hl:l.length≤100000) (hr:Qbq l):Qaf prog 171 [.sl 5 false (l.map nodA),.val (.func (.func 172) #[] #[]),aI n] (.tup [aI (plN l n:Int),aB (thN l n)]):=by
 exact Qac func171 (let R:AV:=.tup [aI (plN l n:Int),aB (thN l n)];
 .new fun b1=>.r 2<|.frz 4 [0,2,4,6,7] [] [b1=b1] rt1<|
 .r 3<|.call (Qs8 l n hl hr)<|
 .r 4<|.fi R [])
theorem Qvp (f:Fsy) (n:Int) (hl:f.l.length≤100000) (hr:Qbq f.l):Qaf prog 128 [.agg (fsyA f),aI n] (.tup [aI (plN f.l n:Int),aB (thN f.l n)]):=by
 exact Qac func128 (let R:AV:=.tup [aI (plN f.l n:Int),aB (thN f.l n)];
 .new fun b1=>.r 2<|.u 3 [b1]<|
 .call (Qys f.l n hl hr)<|
 .r 4<|.fi R [])
theorem Qb4 (f:Fsy) (n:Int) (hl:f.l.length≤100000) (hr:Qbq f.l):Qaf prog 81 [.agg (fsyA f),aI n] (.tup [.agg (nodA (Qaa f n)),aB (Qau f n)]):=by
 exact Qac func81 (
 .new fun b1=>.new fun b2=>.r 1<|.u 2 [b1]<|
 .call (Qvp f n hl hr)<|
 .r 5<|.r 2<|.br 15 (!(thN f.l n)) (fun q1=>have q1:=notT q1;have p1:=booF q1;.u 3 [b2]<|
 .f (.tup [.agg (nodA (Qaa f n)),aB (Qau f n)]) [b2] (.tup [.agg [aI 0,aI 0,aI 0,aS ([]),aN],aB false]) (by
  obtain ⟨e1,e2⟩:=Qnb hr q1;rw [show Qaa f n=nod0 from by unfold Qaa;rw [e2];rfl,show Qau f n=false from e1];exact Sub.tups ⟨Sub.aggs ⟨sR,sR,sR,sR,Sub.nil _ _,trivial⟩,sR,trivial⟩))
 <| fun q1=>have q1:=notF q1;have p1:=booT q1;.u 3 [b1]<|
 .idxM f.l nodA (plN f.l n) (m:=(plN f.l n:Int)) rfl (by obtain ⟨c,hc,_⟩:=Qfz q1;exact Qan hc) fun x1 hx1=>
 .u 3 [b2]<|
 .f (.tup [.agg (nodA (Qaa f n)),aB (Qau f n)]) [b2] (.tup [.agg (nodA x1),aB true]) (by
  obtain ⟨e1,e2⟩:=Qo2 hr q1 hx1;rw [show Qaa f n=x1 from by unfold Qaa;rw [e2];rfl,show Qau f n=true from e1];exact sR))
theorem Qe7 (l:List Nod) (i:Int):plN l i≤l.length:=Zbu _ _ _
theorem Qft {l:List Nod} {i:Int} (h:thN l i=true):plN l i<l.length:=by
 obtain ⟨c,hc,_⟩:=Qfz h;exact Qan hc
theorem Qkm {α:Type} {p:α→Bool} {l:List α} (h:∀ x∈l,p x=true):l.filter p=l:=List.filter_eq_self.2 h
def putK (l:List Nod) (n:Nod) (i j:Nat):List Nod:=l.take i++n :: ((l.take j).drop i).filter (fun x=>x.ino != n.ino)
theorem Qe6 {l:List Nod} {n:Nod} {i k:Nat} {x:Nod} (hx:l[k]?=some x) (hi:i≤k) (h:(x.ino != n.ino)=true):putK l n i (k+1)=putK l n i k++[x]:=by
 unfold putK;rw [Qak hx,List.drop_append_of_le_length (by rw [List.length_take];have:=Qan hx;omega),List.filter_append];simp [h]
theorem Qgt {l:List Nod} {n:Nod} {i k:Nat} {x:Nod} (hx:l[k]?=some x) (hi:i≤k) (h:(x.ino != n.ino)=false):putK l n i (k+1)=putK l n i k:=by
 unfold putK;rw [Qak hx,List.drop_append_of_le_length (by rw [List.length_take];have:=Qan hx;omega),List.filter_append];simp [h]
theorem Qcb (l:List Nod) (n:Nod) (i k:Nat) (hi:i≤k) (hk:k≤l.length):(putK l n i k).length≤k+1:=by
 unfold putK;have:=List.length_filter_le (fun x:Nod=>x.ino != n.ino) ((l.take k).drop i);rw [List.length_drop,List.length_take] at this;simp only [List.length_append,List.length_cons,List.length_take];omega
theorem Qf7 {l:List Nod} {i:Int} (hr:Qbq l):(l.drop (plN l i)).filter (fun x=>x.ino != i)=l.drop (plN l i+if thN l i then 1 else 0):=by
 cases ht:thN l i with
 | true=>
  obtain ⟨c,hc,hi⟩:=Qfz ht;have hlt:=Qan hc;have e:l.drop (plN l i)=c :: l.drop (plN l i+1):=by
   rw [List.drop_eq_getElem_cons hlt];congr 1;exact Option.some.inj ((List.getElem?_eq_getElem hlt).symm.trans hc)
  rw [e,List.filter_cons,if_neg (by simp [hi])];refine Qkm fun x hx=>?_;obtain ⟨k,hk⟩:=List.getElem?_of_mem hx;rw [List.getElem?_drop] at hk;have h3:=List.pairwise_iff_getElem.1 hr;have l2:=Qan hk;have:=h3 _ _ hlt l2 (show plN l i<plN l i+1+k by omega);have e1:l[plN l i]=c:=Option.some.inj ((List.getElem?_eq_getElem hlt).symm.trans hc);have e2:l[plN l i+1+k]=x:=Option.some.inj ((List.getElem?_eq_getElem l2).symm.trans hk);rw [e1,e2] at this;have hne:¬ x.ino=i:=by omega
  simpa using hne
 | false=>
  refine Qkm fun x hx=>?_;have h0:=(Qnb hr ht).1;have:=List.any_eq_false.1 h0 x (List.mem_of_mem_drop hx);simpa [isNo] using this
theorem Qln {l:List Nod} {n:Nod} {i k:Nat} (hr:Qbq l) (hk:l.length≤k) (hi:plN l n.ino=i):putK l n i k=putN l n:=by
 unfold putK putN;subst hi;rw [Qav hk,Qf7 hr]
def outK (l:List Nod) (i:Int) (k:Nat):List Nod:=(l.take k).filter fun x=>x.ino != i
theorem Qwg {l:List Nod} {i:Int} {k:Nat} {x:Nod} (hx:l[k]?=some x) (h:(x.ino != i)=true):outK l i (k+1)=outK l i k++[x]:=by
 unfold outK;rw [Qak hx,List.filter_append];simp [h]
theorem Zb1 {l:List Nod} {i:Int} {k:Nat} {x:Nod} (hx:l[k]?=some x) (h:(x.ino != i)=false):outK l i (k+1)=outK l i k:=by
 unfold outK;rw [Qak hx,List.filter_append];simp [h]
theorem Zb2 (l:List Nod) (i:Int) (k:Nat):(outK l i k).length≤k:=by
 have:=List.length_filter_le (fun x:Nod=>x.ino != i) (l.take k);rw [List.length_take] at this;unfold outK;omega
theorem Qf3 {l:List Nod} {i:Int} (hr:Qbq l):outN l i=l.filter fun x=>x.ino != i:=by
 have e:l.filter (fun x=>x.ino != i)=l.take (plN l i)++(l.drop (plN l i)).filter (fun x=>x.ino != i):=by
  conv=>lhs;rw [← List.take_append_drop (plN l i) l,List.filter_append]
  congr 1;refine Qkm fun x hx=>?_;have:=(hr.cut i).1 x hx;have hne:¬ x.ino=i:=by omega
  simpa using hne
 rw [e,Qf7 hr];unfold outN;cases thN l i with
 | true=>rfl
 | false=>simp
theorem Zgp {l:List Nod} {i:Int} {k:Nat} (hr:Qbq l) (hk:l.length≤k):outK l i k=outN l i:=by
 unfold outK;rw [Qav hk,Qf3 hr]
theorem Qmf (l:List Nod) (n:Nod):(putN l n).length≤l.length+1:=by
 unfold putN;simp only [List.length_append,List.length_cons,List.length_take,List.length_drop];omega
theorem Qun (l:List Nod) (i:Int):(outN l i).length≤l.length:=by
 unfold outN
 split
 ·simp only [List.length_append,List.length_take,List.length_drop];omega
 ·exact Nat.le_refl _
theorem Qe5 (f:Fsy) (n:Nod) (hn:I64 n.ino∧n.ino<9223372036854775807) (hl:f.l.length≤90000) (hr:Qbq f.l):Qaf prog 177 [.agg (fsyA f),.agg (nodA n)] (.agg (fsyA (putF f n))):=by
 have hn1:=hn.1.1;have hpl0:=Qe7 f.l n.ino;exact Qac func177 (
 .new fun b1=>.new fun b2=>.new fun b3=>.u 3 [b1,b2]<|
 .call (Qvp f n.ino (by omega) hr)<|
 .r 5<|.r 2<|.r 1<|.br 16 (thN f.l n.ino) (fun q1=>have p1:=booT q1;.run 3 [rng .i64 ((plN f.l n.ino:Int)+1)] ⟨Qaj (by omega) (by omega),trivial⟩<|
 .ord [0,1,2,3,4,6,7,8,9,12,13,14,15,16,17,5,10,11,18,19]<|.u 3 [b1]<|
 .slc 5 false (f.l.map nodA) none (some (plN f.l n.ino:Int)) none 0 (plN f.l n.ino) false (.inl ⟨rfl,rfl⟩) (.inr rfl) (.inl ⟨rfl,fun h=>by cases h⟩) (by have hpl:=Qe7 f.l n.ino;(try have hth:=Qft (by assumption:thN f.l n.ino=true));first | omega | (rw [List.length_map];omega)) (by have hpl:=Qe7 f.l n.ino;(try have hth:=Qft (by assumption:thN f.l n.ino=true));first | omega | (rw [List.length_map];omega))<|
 .u 4 [b2,b1]<|
 .slc 5 false (f.l.map nodA) (some ((plN f.l n.ino:Int)+1)) none none (plN f.l n.ino+1) ((f.l.map nodA).length) false (.inr (congrArg some (by omega))) (.inl ⟨rfl,rfl⟩) (.inl ⟨rfl,fun h=>by cases h⟩) (by have hpl:=Qe7 f.l n.ino;(try have hth:=Qft (by assumption:thN f.l n.ino=true));first | omega | (rw [List.length_map];omega)) (by have hpl:=Qe7 f.l n.ino;(try have hth:=Qft (by assumption:thN f.l n.ino=true));first | omega | (rw [List.length_map];omega))<|
 .run 5 [b1=b1,b2=b2,rng .i64 (n.ino+1)] ⟨rfl,rfl,Qaj (by omega) (by omega),trivial⟩<|
 .op (mxR) (f.next,n.ino+1,some 36) (fun (_:Unit) σ=>σ.put (some 36) (aI (if (n.ino+1)>f.next then n.ino+1 else f.next))) (Zat) fun _=>
 .r 2<|.cs (args0:=[.sl 1 true ([[.sl 5 false (((f.l.map nodA).take (plN f.l n.ino)).drop 0)],[.sl 5 true ([(nodA n)])],[.sl 5 false (((f.l.map nodA).take ((f.l.map nodA).length)).drop (plN f.l n.ino+1))]])]) (Qf9 [((f.l.map nodA).take (plN f.l n.ino)).drop 0,[(nodA n)],((f.l.map nodA).take ((f.l.map nodA).length)).drop (plN f.l n.ino+1)] (by simp) (by simp only [List.flatten_cons,List.flatten_nil,List.length_append,List.length_take,List.length_drop,List.length_map,List.length_cons,List.length_nil];omega)) ⟨pcs3 _ _ _,trivial⟩<|
 .u 2 [b3]<|
 .f (.agg (fsyA (putF f n))) [b3] (.agg [.sl 5 false ([((f.l.map nodA).take (plN f.l n.ino)).drop 0,[(nodA n)],((f.l.map nodA).take ((f.l.map nodA).length)).drop (plN f.l n.ino+1)].flatten),aI (if (n.ino+1)>f.next then n.ino+1 else f.next)]) (by
  refine Sub.aggs ⟨Sub.of_eq (congrArg (AV.sl 5 false) ?_),Sub.of_eq (congrArg aI rfl),trivial⟩;show _=(putN f.l n).map nodA;unfold putN;rw [q1];simp [nodA,List.map_take,List.map_drop,Qav]))
 <| fun q1=>have p1:=booF q1;.ord [0,1,2,3,4,6,7,8,9,12,13,14,15,16,17,5,10,11,18,19]<|.u 3 [b1]<|
 .slc 5 false (f.l.map nodA) none (some (plN f.l n.ino:Int)) none 0 (plN f.l n.ino) false (.inl ⟨rfl,rfl⟩) (.inr rfl) (.inl ⟨rfl,fun h=>by cases h⟩) (by have hpl:=Qe7 f.l n.ino;(try have hth:=Qft (by assumption:thN f.l n.ino=true));first | omega | (rw [List.length_map];omega)) (by have hpl:=Qe7 f.l n.ino;(try have hth:=Qft (by assumption:thN f.l n.ino=true));first | omega | (rw [List.length_map];omega))<|
 .u 4 [b2,b1]<|
 .slc 5 false (f.l.map nodA) (some (plN f.l n.ino:Int)) none none (plN f.l n.ino) ((f.l.map nodA).length) false (.inr rfl) (.inl ⟨rfl,rfl⟩) (.inl ⟨rfl,fun h=>by cases h⟩) (by have hpl:=Qe7 f.l n.ino;(try have hth:=Qft (by assumption:thN f.l n.ino=true));first | omega | (rw [List.length_map];omega)) (by have hpl:=Qe7 f.l n.ino;(try have hth:=Qft (by assumption:thN f.l n.ino=true));first | omega | (rw [List.length_map];omega))<|
 .run 5 [b1=b1,b2=b2,rng .i64 (n.ino+1)] ⟨rfl,rfl,Qaj (by omega) (by omega),trivial⟩<|
 .op (mxR) (f.next,n.ino+1,some 36) (fun (_:Unit) σ=>σ.put (some 36) (aI (if (n.ino+1)>f.next then n.ino+1 else f.next))) (Zat) fun _=>
 .r 2<|.cs (args0:=[.sl 1 true ([[.sl 5 false (((f.l.map nodA).take (plN f.l n.ino)).drop 0)],[.sl 5 true ([(nodA n)])],[.sl 5 false (((f.l.map nodA).take ((f.l.map nodA).length)).drop (plN f.l n.ino))]])]) (Qf9 [((f.l.map nodA).take (plN f.l n.ino)).drop 0,[(nodA n)],((f.l.map nodA).take ((f.l.map nodA).length)).drop (plN f.l n.ino)] (by simp) (by simp only [List.flatten_cons,List.flatten_nil,List.length_append,List.length_take,List.length_drop,List.length_map,List.length_cons,List.length_nil];omega)) ⟨pcs3 _ _ _,trivial⟩<|
 .u 2 [b3]<|
 .f (.agg (fsyA (putF f n))) [b3] (.agg [.sl 5 false ([((f.l.map nodA).take (plN f.l n.ino)).drop 0,[(nodA n)],((f.l.map nodA).take ((f.l.map nodA).length)).drop (plN f.l n.ino)].flatten),aI (if (n.ino+1)>f.next then n.ino+1 else f.next)]) (by
  refine Sub.aggs ⟨Sub.of_eq (congrArg (AV.sl 5 false) ?_),Sub.of_eq (congrArg aI rfl),trivial⟩;show _=(putN f.l n).map nodA;unfold putN;rw [q1];simp [nodA,List.map_take,List.map_drop,Qav]))
theorem Zgo (f:Fsy) (i:Int) (hl:f.l.length≤90000) (hr:Qbq f.l):Qaf prog 223 [.agg (fsyA f),aI i] (.agg (fsyA (outF f i))):=by
 have hpl0:=Qe7 f.l i;exact Qac func223 (
 .new fun b1=>.new fun b2=>.u 2 [b1]<|
 .call (Qvp f i (by omega) hr)<|
 .r 5<|.r 2<|.br 14 (!(thN f.l i)) (fun q1=>have q1:=notT q1;have p1:=booF q1;.u 2 [b1,b2]<|
 .f (.agg (fsyA (outF f i))) [b2] (.agg (fsyA f)) (by exact Sub.aggs ⟨Sub.of_eq (by rw [show (outF f i).l=f.l from by show outN f.l i=_;unfold outN;rw [if_neg (by rw [q1];simp)]]),sR,trivial⟩))
 <| fun q1=>have q1:=notF q1;have p1:=booT q1;.ord [0,1,2,3,4,5,6,7,8,11,12,9,10,13,14]<|.u 3 [b1]<|
 .slc 5 false (f.l.map nodA) none (some (plN f.l i:Int)) none 0 (plN f.l i) false (.inl ⟨rfl,rfl⟩) (.inr rfl) (.inl ⟨rfl,fun h=>by cases h⟩) (by have hpl:=Qe7 f.l i;(try have hth:=Qft (by assumption:thN f.l i=true));first | omega | (rw [List.length_map];omega)) (by have hpl:=Qe7 f.l i;(try have hth:=Qft (by assumption:thN f.l i=true));first | omega | (rw [List.length_map];omega))<|
 .run 4 [b1=b1,rng .i64 ((plN f.l i:Int)+1)] ⟨rfl,Qaj (by omega) (by omega),trivial⟩<|
 .slc 5 false (f.l.map nodA) (some ((plN f.l i:Int)+1)) none none (plN f.l i+1) ((f.l.map nodA).length) false (.inr (congrArg some (by omega))) (.inl ⟨rfl,rfl⟩) (.inl ⟨rfl,fun h=>by cases h⟩) (by have hpl:=Qe7 f.l i;(try have hth:=Qft (by assumption:thN f.l i=true));first | omega | (rw [List.length_map];omega)) (by have hpl:=Qe7 f.l i;(try have hth:=Qft (by assumption:thN f.l i=true));first | omega | (rw [List.length_map];omega))<|
 .u 3 [b1]<|
 .cs (args0:=[.sl 1 true ([[.sl 5 false (((f.l.map nodA).take (plN f.l i)).drop 0)],[.sl 5 false (((f.l.map nodA).take ((f.l.map nodA).length)).drop (plN f.l i+1))]])]) (Qf9 [((f.l.map nodA).take (plN f.l i)).drop 0,((f.l.map nodA).take ((f.l.map nodA).length)).drop (plN f.l i+1)] (by simp) (by simp only [List.flatten_cons,List.flatten_nil,List.length_append,List.length_take,List.length_drop,List.length_map,List.length_cons,List.length_nil];omega)) ⟨pcs2 _ _,trivial⟩<|
 .u 2 [b2]<|
 .f (.agg (fsyA (outF f i))) [b2] (.agg [.sl 5 false ([((f.l.map nodA).take (plN f.l i)).drop 0,((f.l.map nodA).take ((f.l.map nodA).length)).drop (plN f.l i+1)].flatten),aI f.next]) (by
  refine Sub.aggs ⟨Sub.of_eq (congrArg (AV.sl 5 false) ?_),sR,trivial⟩;show _=(outN f.l i).map nodA;unfold outN;rw [if_pos q1];simp [List.map_take,List.map_drop,Qav]))
end Go.Proofs.YtahlldgocpabjaaGreat
