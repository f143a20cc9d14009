import Derived.Test.YtahlldgocpabjaaGreatMrgAF
import Derived.Test.YtahlldgocpabjaaGreatMrgAA
import Derived.Test.YtahlldgocpabjaaGreatMrgAD
import Derived.Test.YtahlldgocpabjaaGreatMrgZ
import Derived.Test.YtahlldgocpabjaaGreatMrgAG
import Derived.Test.YtahlldgocpabjaaGreatMrgAE
set_option maxRecDepth 100000
set_option maxHeartbeats 8000000
set_option linter.unusedVariables false
set_option linter.unusedSimpArgs false
namespace Go.Proofs.YtahlldgocpabjaaGreat
open Go Go.RowKit Copyhold Go.Proofs.Tryz
open Copyhold.Name (Srt insE delE getE isAt)
theorem i0:I64 0:=⟨by decide,by decide⟩
theorem Qyc {k:Int} (h:0≤k) (h2:k≤1000000):I64 k:=⟨by omega,by omega⟩
def cA:Cal:=⟨6,1,0,0,0,[97],[],[]⟩
theorem cA_ok:OkCal cA:=⟨Qyc (by decide) (by decide),Qyc (by decide) (by decide),i0,i0,i0,by show 1≤_;omega,Nat.zero_le _,Nat.zero_le _⟩
noncomputable def fA:Fsy:=addF newF 1 [97] (addN newF Ql2)
theorem doA1:doF newF cA=(fA,⟨0,2,0,0,[],[]⟩):=by
 refine Qfc (x:=(fA,⟨0,2,0,0,[],[]⟩)) ?_ rfl;rw [Qpw rfl];show addO newF cA Ql2=_;unfold addO;show ((if Qat newF 1 [97] Ql2=0 then _ else _),(⟨Qat newF 1 [97] Ql2,_,_,_,_,_⟩:Rep))=_;rw [Qln,if_pos rfl];rfl
theorem Qi0:Qaq fA∧OkF fA∧fA.next=3∧(∃ d,atF fA 1=some d∧d.kind=2∧d.l=[⟨[97],2⟩])∧(fA.l.length:Int)=2:=by
 have hb:=Qp2 Qfa Qln;have ho:=Zlf (n:=Ql2) (s:=[97]) Qqw Qfa Zi9 (by decide) Qln (by decide);refine ⟨hb.1,ho,?_,?_,?_⟩
 ·obtain ⟨d,A⟩:=Qry Qln;have hr:=Qaf Qfa;have hroot:atF newF 1=some Qja:=rfl;unfold fA addF;rw [show (addN newF Ql2).ino=2 from rfl,Qd8 hroot];rw [Qm6]
  ·rw [show (setL newF Qja (entL Qja.l [97] 2)).next=2 from Qmb (by decide)];rfl
  ·rw [show (setL newF Qja (entL Qja.l [97] 2)).next=2 from Qmb (by decide)];rfl
 ·have hroot:atF newF 1=some Qja:=rfl;have he:entE Qja.l [97] 2=0:=Qdx Znm (by decide) rfl (by decide);have hl:entL Qja.l [97] 2=[⟨[97],2⟩]:=by unfold entL;rw [if_pos he];rfl
  have hk:rowP Qja.l:=Qcg;obtain ⟨s1,s2,s3,s4⟩:=Qe8 Qfa hroot rfl (Qrg (n:=2) hk Znm (by decide) rfl (by decide));refine ⟨Qbq Qja (entL Qja.l [97] 2),?_,rfl,hl⟩;unfold fA addF;rw [show (addN newF Ql2).ino=2 from rfl,Qd8 hroot,Qoi (Qaf s1),if_neg (by decide),s4,if_pos rfl]
 ·have:=Zns;rw [if_pos Qln] at this;exact this
end Go.Proofs.YtahlldgocpabjaaGreat

namespace Go.Proofs.YtahlldgocpabjaaGreat
open Go Go.RowKit Copyhold Go.Proofs.Tryz
theorem Qn8 {f:Fsy} {c:Cal} (hp:Qaq f):(doF f c).2.names.length≤1000000:=Nat.le_trans (Zjh hp) (by decide)
theorem Qlb (f:Fsy) (c:Cal):(Qao f c).length≤6:=by
 unfold Qao
 split
 ·simp
 ·exact Nat.le_trans (Qju _) (Qnk f c).2
theorem Qmw {l:List Cal} (h:Qe7 l) {c:Cal} (hc:c∈l):c.name.length≤2000∧c.name2.length≤2000∧c.text.length≤2000:=by
 have h1:=h.1;have:txC c≤((l.take l.length).map txC).sum:=by rw [List.take_length];exact Qk1 hc
 unfold smS at h1;have e:txC c=c.name.length+c.name2.length+c.text.length:=rfl;omega
theorem Qvb (a b:List Txt) (h1:a.length≤1000000) (h2:b.length≤8796093022207):Qah prog 51 [.sl 1 false (a.map txA),.sl 1 false (b.map txA)] (aB (dP (a=b))):=by
 exact Qab func51 (let R:AV:=aB (dP (a=b));
 .r 1<|.r 2<|.lm 7 a txA<|.r 2<|.lm 9 b txA<|.r 1<|.bn 10 (a.length:Int) (b.length:Int) (fun p1=>.r 1<|.f (aB (dP (a=b))) [] (aB false) (by exact sF (fun h=>by have:=congrArg List.length h;omega)))
 <| fun p1=>.r 1<|let L1:Lp (Nat):=⟨fun a1=>⟨[(0,.sl 1 false (a.map txA)),(1,.sl 1 false (b.map txA)),(5,aI (a1:Int))],[]⟩,fun a1=>a.length-a1,fun a1=>a1≤a.length∧a.take a1=b.take a1⟩
 .lp L1 0 ⟨Nat.zero_le _,rfl⟩ [(5,aI 0)] [] ⟨sR,sR,sO,trivial⟩ trivial fun a1 ha1=>
 (fun (k:Nat) (hH1:k≤a.length∧a.take k=b.take k)=>.r 3<|.lm 13 a txA<|.r 1<|.bd 14 ((k:Int)<(a.length:Int)) (fun p2=>.ord [0,1,2,3,4,5,6,7,8]<|.r 2<|.idxM a txA k (m:=(k:Int)) rfl (by omega) fun x1 hx1=>
 .r 3<|.idxM b txA k (m:=(k:Int)) rfl (by omega) fun x2 hx2=>
 .r 2<|.nbe 25 x1 x2 (fun p3=>.r 1<|.f R [] (aB false) (by
  refine sF (fun h=>?_);rw [h,hx2] at hx1;obtain rfl:=Option.some.inj hx1;simp_all [Qax,Qac]))
 <| fun p3=>.run 3 [rng .i64 ((k:Int)+1)] ⟨Qaj (by omega) (by omega),trivial⟩<|
 .bk L1 k (k+1) ⟨by omega,by rw [Qap hx1,Qap hx2,hH1.2];first | (congr 2;done) | (congr 2;exact (by simp_all))⟩ (show a.length-(k+1)<a.length-k from (by omega)) [(5,aI ((k:Int)+1))] [] ⟨sR,sR,sO,trivial⟩ trivial)
 <| fun p2=>.r 1<|.f R [] (aB true) (by
  refine sT ?_;have h:=hH1.2;rw [Qav (by omega),Qav (by omega)] at h;exact h)) a1 ha1)
theorem Qvd (a b:Rep) (h1:a.names.length≤1000000) (h2:b.names.length≤8796093022207):Qah prog 21 [.agg (repA a),.agg (repA b)] (aB (dP (a=b))):=by
 exact Qab func21 (let R:AV:=aB (dP (a=b));
 .new fun b1=>.new fun b2=>.r 1<|.u 4 [b1,b2]<|
 .call (Qvb a.names b.names h1 h2)<|
 .r 1<|.r 2<|.bb 12 (dP (a.names=b.names)) (fun p1=>.u 7 [b1,b2]<|
 .be 19 a.e b.e (fun p2=>.u 7 [b1,b2]<|
 .be 26 a.a b.a (fun p3=>.u 7 [b1,b2]<|
 .be 33 a.b b.b (fun p4=>.u 7 [b1,b2]<|
 .be 40 a.n b.n (fun p5=>.u 7 [b1,b2]<|
 .f R [] (aB (a.text==b.text)) (by
  refine sE ?_;constructor
  ·intro h;simp only [Bool.and_eq_true,beq_iff_eq,Qax] at *;refine rep_eq ?_ ?_ ?_ ?_ ?_ ?_<;>simp_all
  ·intro h;subst h;simp_all [Qax]))
 <| fun p5=>.r 7<|.f R [] (aB false) (by
  refine sF (fun h=>?_);subst h;simp_all [Qac]))
 <| fun p4=>.r 14<|.f R [] (aB false) (by
  refine sF (fun h=>?_);subst h;simp_all [Qac]))
 <| fun p3=>.r 21<|.f R [] (aB false) (by
  refine sF (fun h=>?_);subst h;simp_all [Qac]))
 <| fun p2=>.r 28<|.f R [] (aB false) (by
  refine sF (fun h=>?_);subst h;simp_all [Qac]))
 <| fun p1=>.r 35<|.f R [] (aB false) (by
  refine sF (fun h=>?_);subst h;simp_all [Qac]))
end Go.Proofs.YtahlldgocpabjaaGreat

namespace Go.Proofs.YtahlldgocpabjaaGreat
open Go Go.RowKit Copyhold Go.Proofs.Tryz
section
variable {α:Type}
def cutV (f:α→Int) (st:Int):List α→Nat
 | []=>0
 | x :: r=>if cutV f st r=0 then (if f x≤st then 1 else 0) else cutV f st r+1
theorem Qgn (f:α→Int) (st:Int):∀ l:List α,cutV f st l≤l.length
 | []=>Nat.le_refl _
 | x :: r=>by
  have:=Qgn f st r;simp only [cutV,List.length_cons]
  split
  ·split<;>omega
  ·omega
theorem Qgo (f:α→Int) (st:Int):∀ (l:List α) (k:Nat),k≤l.length→(∀ j x,k≤j→l[j]?=some x→st<f x)→(k=0∨∃ x,l[k-1]?=some x∧f x≤st)→cutV f st l=k
 | [],k,hk,_,_=>by simp at hk;subst hk;rfl
 | x :: r,0,_,ha,_=>by
  have h1:=Qgo f st r 0 (Nat.zero_le _) (fun j y _ hy=>ha (j+1) y (Nat.zero_le _) (by simpa using hy)) (.inl rfl);have h2:=ha 0 x (Nat.zero_le _) rfl;simp only [cutV,h1,if_true];rw [if_neg (by omega)]
 | x :: r,k+1,hk,ha,he=>by
  simp only [List.length_cons] at hk;have ha':∀ j y,k≤j→r[j]?=some y→st<f y:=fun j y hj hy=>ha (j+1) y (by omega) (by simpa using hy);rcases he with he | ⟨y,hy,hle⟩
  ·omega
  ·cases k with
   | zero=>
    have h1:=Qgo f st r 0 (Nat.zero_le _) ha' (.inl rfl);simp at hy;subst hy;simp only [cutV,h1,if_true,if_pos hle]
   | succ k=>
    have h1:=Qgo f st r (k+1) (by omega) ha' (.inr ⟨y,by simpa using hy,hle⟩);simp only [cutV,h1];rfl
theorem Zhv (f:α→Int) (st:Int) (l:List α):l.length≤l.length∧∀ j y,l.length≤j→l[j]?=some y→st<f y:=⟨Nat.le_refl _,fun j y hj hy=>by have:=Qan hy;omega⟩
theorem Zhu {f:α→Int} {st:Int} {l:List α} {k:Nat} {x:α} (hx:l[k-1]?=some x) (hk:k≤l.length) (h:∀ j y,k≤j→l[j]?=some y→st<f y) (hg:st<f x):k-1≤l.length∧∀ j y,k-1≤j→l[j]?=some y→st<f y:=
 ⟨by omega,fun j y hj hy=>by
  by_cases e:j=k-1
  ·subst e;rw [hx] at hy;obtain rfl:=Option.some.inj hy;exact hg
  ·exact h j y (by omega) hy⟩
def atD (f:α→Int) (st:Int) (l:List α):Option α:=if cutV f st l=0 then none else l[cutV f st l-1]?
def Zb6 (f:α→Int) (most:Int) (l:List α) (i:Nat) (x:α):Prop:=1≤f x∧f x≤most∧∀ d,0<i→l[i-1]?=some d→f d<f x
def Qor (f:α→Int) (most:Int) (l:List α):Prop:=1≤l.length∧AllQ (Zb6 f most l) l
def Qr1 (f:α→Int) (l:List α) (k:Nat) (last:Int):Prop:=(k=0∧last=0)∨∃ d,0<k∧l[k-1]?=some d∧last=f d∧1≤last
theorem Qr1.pos {f:α→Int} {l:List α} {k:Nat} {last:Int} (h:Qr1 f l k last):0≤last:=by
 rcases h with ⟨_,h⟩ | ⟨d,_,_,_,h⟩<;>omega
theorem Qr1.step {f:α→Int} {l:List α} {k:Nat} {last:Int} {x:α} (h:Qr1 f l k last) (hx:l[k]?=some x) (hgt:¬ f x≤last):Qr1 f l (k+1) (f x):=
 .inr ⟨x,by omega,by simpa using hx,rfl,by have:=h.pos;omega⟩
theorem Qr1.lt {f:α→Int} {l:List α} {k:Nat} {last:Int} (h:Qr1 f l k last) {v:Int} (hgt:¬ v≤last):1≤v∧∀ d,0<k→l[k-1]?=some d→f d<v:=by
 refine ⟨by have:=h.pos;omega,fun d h0 hd=>?_⟩;rcases h with ⟨h,_⟩ | ⟨e,_,he,h1,_⟩
 ·omega
 ·rw [hd] at he;obtain rfl:=Option.some.inj he;omega
theorem Qr1.not {f:α→Int} {l:List α} {k:Nat} {last:Int} (h:Qr1 f l k last) {v:Int} (hle:v≤last):¬ (1≤v∧∀ d,0<k→l[k-1]?=some d→f d<v):=by
 rintro ⟨h1,h2⟩;rcases h with ⟨_,h⟩ | ⟨e,h0,he,h3,_⟩
 ·omega
 ·have:=h2 e h0 he;omega
end
def verP (ino:Int) (v:Ver):Prop:=(v.gone=true→v.n=nod0)∧(v.gone=false→nodP v.n∧v.n.ino=ino)
def Qp0 (most:Int) (c:Chn):Prop:=1≤c.ino∧Qor Ver.stamp most c.l∧AllQ (fun _ v=>verP c.ino v) c.l
def Znl (s:Sto) (i:Nat) (c:Chn):Prop:=Qp0 s.stamp c∧∀ d,0<i→s.l[i-1]?=some d→d.ino<c.ino
def Qcf (s:Sto):Prop:=1≤s.stamp∧Qor Cnt.stamp s.stamp s.nexts∧AllQ (fun _ (c:Cnt)=>1≤c.next) s.nexts∧AllQ (Znl s) s.l
def Qb6 (st:Int) (c:Chn):Option Nod:=match atD Ver.stamp st c.l with
 | some v=>if v.gone then none else some v.n
 | none=>none
def Qhx (s:Sto) (st:Int):Int:=match atD Cnt.stamp st s.nexts with
 | some c=>c.next
 | none=>1
def Qb5 (s:Sto) (st:Int):Fsy:=⟨s.l.filterMap (Qb6 st),Qhx s st⟩
theorem Qex {st:Int} {c:Chn} {v:Ver} (h0:¬ cutV Ver.stamp st c.l=0) (hv:c.l[cutV Ver.stamp st c.l-1]?=some v):Qb6 st c=if v.gone then none else some v.n:=by
 unfold Qb6 atD;rw [if_neg h0,hv]
theorem Qif {st:Int} {c:Chn} (h0:cutV Ver.stamp st c.l=0):Qb6 st c=none:=by
 unfold Qb6 atD;rw [if_pos h0]
theorem Qxy {s:Sto} {st:Int} {c:Cnt} (h0:¬ cutV Cnt.stamp st s.nexts=0) (hc:s.nexts[cutV Cnt.stamp st s.nexts-1]?=some c):Qhx s st=c.next:=by
 unfold Qhx atD;rw [if_neg h0,hc]
theorem Qpi {s:Sto} {st:Int} (h0:cutV Cnt.stamp st s.nexts=0):Qhx s st=1:=by
 unfold Qhx atD;rw [if_pos h0]
def Qcu (s:Sto) (st:Int) (k:Nat):List Nod:=(s.l.take k).filterMap (Qb6 st)
theorem Qjw {s:Sto} {st:Int} {k:Nat} {c:Chn} {n:Nod} (hc:s.l[k]?=some c) (h:Qb6 st c=some n):Qcu s st (k+1)=Qcu s st k++[n]:=by
 unfold Qcu;rw [Qap hc,List.filterMap_append];simp [h]
theorem Qfj {s:Sto} {st:Int} {k:Nat} {c:Chn} (hc:s.l[k]?=some c) (h:Qb6 st c=none):Qcu s st (k+1)=Qcu s st k:=by
 unfold Qcu;rw [Qap hc,List.filterMap_append];simp [h]
theorem Ql8 (s:Sto) (st:Int) (k:Nat):(Qcu s st k).length≤k:=by
 have:=List.length_filterMap_le (Qb6 st) (s.l.take k);rw [List.length_take] at this;unfold Qcu;omega
theorem Qjx {s:Sto} {st:Int} {k:Nat} (h:s.l.length≤k):Qcu s st k=s.l.filterMap (Qb6 st):=by unfold Qcu;rw [Qav h]
def Qfb (st:Int) (c:Chn):Bool:=c.l.any fun v=>decide (v.stamp>st)
def Qbl (s:Sto) (st:Int) (k:Nat):List Int:=((s.l.take k).filter (Qfb st)).map Chn.ino
def Zal (s:Sto) (st:Int):Bool:=s.nexts.any fun c=>decide (c.stamp>st)
def Qbz (s:Sto) (st:Int):List Int:=if 1≤(Qbl s st s.l.length).length∨Zal s st=true then 0 :: Qbl s st s.l.length else []
theorem Qgj {s:Sto} {st:Int} {k:Nat} {c:Chn} (hc:s.l[k]?=some c) (h:Qfb st c=true):Qbl s st (k+1)=Qbl s st k++[c.ino]:=by
 unfold Qbl;rw [Qap hc,List.filter_append,List.map_append];simp [h]
theorem Qhz {s:Sto} {st:Int} {k:Nat} {c:Chn} (hc:s.l[k]?=some c) (h:Qfb st c=false):Qbl s st (k+1)=Qbl s st k:=by
 unfold Qbl;rw [Qap hc,List.filter_append,List.map_append];simp [h]
theorem Qh0 (s:Sto) (st:Int) (k:Nat):(Qbl s st k).length≤k:=by
 have:=List.length_filter_le (Qfb st) (s.l.take k);rw [List.length_take] at this;unfold Qbl;rw [List.length_map];omega
theorem Qe1 {s:Sto} {st:Int} {k:Nat} (h:s.l.length≤k):Qbl s st k=Qbl s st s.l.length:=by unfold Qbl;rw [Qav h,Qav (Nat.le_refl _)]
section
variable {α:Type}
def idxF (p:α→Bool):List α→Int
 | []=>-1
 | x :: r=>if p x then 0 else if idxF p r<0 then -1 else idxF p r+1
theorem Qq4 (p:α→Bool):∀ l:List α,decide (idxF p l≥0)=l.any p
 | []=>rfl
 | x :: r=>by
  have:=Qq4 p r;simp only [idxF,List.any_cons,← this];by_cases hp:p x=true
  ·simp [hp]
  ·simp only [Bool.not_eq_true] at hp;simp only [hp,Bool.false_or,Bool.false_eq_true,if_false]
   split<;>simp<;>omega
theorem Qnx (p:α→Bool):∀ l:List α,AllQ (fun _ x=>p x=false) l→idxF p l = -1
 | [],_=>rfl
 | x :: r,h=>by
  have h1:=h 0 x rfl;have h2:=Qnx p r fun i e he=>h (i+1) e (by simpa using he);simp [idxF,h1,h2]
theorem Qwf (p:α→Bool):∀ (l:List α) (k:Nat) (x:α),Qa6 (fun _ x=>p x=false) l k→l[k]?=some x→p x=true→idxF p l=k
 | y :: r,0,x,_,hx,hp=>by
  simp at hx;subst hx;simp [idxF,hp]
 | y :: r,k+1,x,h,hx,hp=>by
  have h1:=h 0 y (by omega) rfl;have h2:=Qwf p r k x (fun i e hi he=>h (i+1) e (by omega) (by simpa using he)) (by simpa using hx) hp;simp [idxF,h1,h2];omega
theorem Qmj {p:α→Bool} {l:List α} {k:Nat} {x:α} (hx:l[k]?=some x):(l.take (k+1)).any p=((l.take k).any p||p x):=by
 rw [Qap hx,List.any_append];simp
end
theorem Zhk (v:Ver):Qah prog 154 [.agg (verA v)] (aI v.stamp):=by
 exact Qab func154 (
 .new fun b1=>.r 1<|.u 3 [b1]<|
 .fi (aI v.stamp) [])
theorem Zhj (c:Cnt):Qah prog 155 [.agg [aI c.stamp,aI c.next]] (aI c.stamp):=by
 exact Qab func155 (
 .new fun b1=>.r 1<|.u 3 [b1]<|
 .fi (aI c.stamp) [])
theorem Qu1 :Qah prog 92 [] (.tup [.val (.func (.func 154) #[] #[]),.val (.func (.func 155) #[] #[])]):=by
 exact Qab func92 (let R:AV:=.tup [.val (.func (.func 154) #[] #[]),.val (.func (.func 155) #[] #[])];
 .r 2<|.r 2<|.fi R [])
theorem Qk0 {ino:Int} {v:Ver} (h1:v.gone=true→v.n=nod0) (h2:v.gone=false→nodP v.n∧v.n.ino=ino):verP ino v:=⟨h1,h2⟩
theorem Za9 (c:Chn) (last:Int) (okc:OkC c):Qah prog 77 [.agg [aI c.ino,.sl 7 false (c.l.map verA)],aI last] (aB (dP (Qp0 last c))):=by
 have hcl:=okc.2.1;exact Qab func77 (let R:AV:=aB (dP (Qp0 last c));
 .new fun b1=>.r 1<|.u 4 [b1]<|
 .bd 12 (c.ino<1) (fun p1=>.r 5<|.r 1<|.f R [] (aB false) (by
  refine sF (fun h=>?_);obtain ⟨g1,⟨g2,_⟩,g3⟩:=h;omega))
 <| fun p1=>.u 3 [b1]<|
 .lm 15 c.l verA<|.r 2<|.bd 17 ((c.l.length:Int)<1) (fun p2=>.r 1<|.f R [] (aB false) (by
  refine sF (fun h=>?_);obtain ⟨g1,⟨g2,_⟩,g3⟩:=h;omega))
 <| fun p2=>.r 1<|let L1:Lp (Nat):=⟨fun a1=>⟨[(1,aI last),(2,.ptr 2 b1 0),(5,aI (a1:Int))],[(2,.box b1 98 [aI c.ino,.sl 7 false (c.l.map verA)])]⟩,fun a1=>c.l.length-a1,fun a1=>a1≤c.l.length∧Qa6 (Zb6 Ver.stamp last c.l) c.l a1∧Qa6 (fun _ v=>verP c.ino v) c.l a1⟩
 .lp L1 0 ⟨Nat.zero_le _,Qa6.zero _ _,Qa6.zero _ _⟩ [(5,aI 0)] [] ⟨sR,sR,sO,trivial⟩ bb1 fun a1 ha1=>
 (fun (k:Nat) (hH1:k≤c.l.length∧Qa6 (Zb6 Ver.stamp last c.l) c.l k∧Qa6 (fun _ v=>verP c.ino v) c.l k)=>.u 4 [b1]<|
 .lm 21 c.l verA<|.r 1<|.bd 22 ((k:Int)<(c.l.length:Int)) (fun p3=>.u 3 [b1]<|
 .idxM c.l verA k (m:=(k:Int)) rfl (by omega) fun x1 hx1=>
 have okx1:=okc.2.2 x1 (List.mem_of_getElem? hx1);.r 1<|.new fun b2=>.u 1 [b2]<|
 .u 2 [b2]<|
 .call (Qhp x1.n (okx1).2)<|
 .r 1<|.bb 33 (dP (nodP x1.n)) (fun p4=>.u 8 [b2,b1]<|
 .u 3 [b2]<|
 .cs (args0:=[.agg (nodA x1.n),.agg [aI 0,aI 0,aI 0,aS ([]),aN]]) (Qe9 x1.n nod0 (okx1).2 Qk7) ⟨sR,Sub.aggs ⟨sR,sR,sR,sR,Sub.nil _ _,trivial⟩,trivial⟩<|
 .r 1<|.ord [0,1,2,3,4,5,6,7,8,9,10,11,12,13,14,15,16,17,18,19,20,21,22,23,24,25,26,27,28,29,30,31,32,33,34,35,36,37,38,39,40,41]<|.u 4 [b2]<|
 .bd 48 (x1.stamp<1) (fun p5=>.r 38<|.r 1<|.f R [] (aB false) (by
  refine sF (fun h=>?_);obtain ⟨g1,g2,g3⟩:=h.2.1.2.at hx1;obtain ⟨g4,g5⟩:=h.2.2.at hx1
  first | omega | (simp_all [Qac];done) | (simp_all [Qac];omega)))
 <| fun p5=>.u 6 [b2]<|
 .bd 54 (x1.stamp>last) (fun p6=>.r 32<|.r 1<|.f R [] (aB false) (by
  refine sF (fun h=>?_);obtain ⟨g1,g2,g3⟩:=h.2.1.2.at hx1;obtain ⟨g4,g5⟩:=h.2.2.at hx1
  first | omega | (simp_all [Qac];done) | (simp_all [Qac];omega)))
 <| fun p6=>.r 3<|.bd 57 ((k:Int)>0) (fun p7=>.run 4 [b1=b1,rng .i64 ((k:Int)-1)] ⟨rfl,Qaj (by omega) (by omega),trivial⟩<|
 .idxM c.l verA (k-1) (m:=(k:Int)-1) (by omega) (by omega) fun x2 hx2=>
 have okx2:=okc.2.2 x2 (List.mem_of_getElem? hx2);.u 8 [b2]<|
 .bd 70 (x2.stamp≥x1.stamp) (fun p8=>.r 16<|.r 1<|.f R [] (aB false) (by
  refine sF (fun h=>?_);obtain ⟨g1,g2,g3⟩:=h.2.1.2.at hx1;obtain ⟨g4,g5⟩:=h.2.2.at hx1
  first | omega | (have:=g3 _ (by omega) hx2;omega) | (simp_all [Qac];done) | (simp_all [Qac];omega)))
 <| fun p8=>.u 3 [b2]<|
 .br 73 (x1.gone) (fun q9=>have p9:=booT q9;.r 5<|.nbb 78 (dP (x1.n=nod0)) (fun p10=>.r 8<|.r 1<|.f R [] (aB false) (by
  refine sF (fun h=>?_);obtain ⟨g1,g2,g3⟩:=h.2.1.2.at hx1;obtain ⟨g4,g5⟩:=h.2.2.at hx1
  first | omega | (have:=g3 _ (by omega) hx2;omega) | (simp_all [Qac];done) | (simp_all [Qac];omega)))
 <| fun p10=>.u 4 [b2]<|
 .is 82 (show (!x1.gone)=false from by rw [q9];rfl)<|.r 4<|.run 3 [rng .i64 ((k:Int)+1)] ⟨Qaj (by omega) (by omega),trivial⟩<|
 .bk L1 k (k+1) ⟨by omega,hH1.2.1.step hx1 ⟨by omega,by omega,by intro d h0 hd;first | omega | (rw [hd] at hx2;obtain rfl:=Option.some.inj hx2;omega)⟩,hH1.2.2.step hx1 (by first | exact Qk0 (by simp_all [Qax,Qac]) (by simp_all [Qax,Qac]) | skip)⟩ (show c.l.length-(k+1)<c.l.length-k from (by omega)) [(5,aI ((k:Int)+1))] [] ⟨sR,sR,sO,trivial⟩ bb1)
 <| fun q9=>have p9:=booF q9;.u 9 [b2]<|
 .is 82 (show (!x1.gone)=true from by rw [q9];rfl)<|.r 4<|.nbe 86 x1.n.ino c.ino (fun p11=>.r 1<|.f R [] (aB false) (by
  refine sF (fun h=>?_);obtain ⟨g1,g2,g3⟩:=h.2.1.2.at hx1;obtain ⟨g4,g5⟩:=h.2.2.at hx1
  first | omega | (have:=g3 _ (by omega) hx2;omega) | (simp_all [Qac];done) | (simp_all [Qac];omega)))
 <| fun p11=>.run 3 [rng .i64 ((k:Int)+1)] ⟨Qaj (by omega) (by omega),trivial⟩<|
 .bk L1 k (k+1) ⟨by omega,hH1.2.1.step hx1 ⟨by omega,by omega,by intro d h0 hd;first | omega | (rw [hd] at hx2;obtain rfl:=Option.some.inj hx2;omega)⟩,hH1.2.2.step hx1 (by first | exact Qk0 (by simp_all [Qax,Qac]) (by simp_all [Qax,Qac]) | skip)⟩ (show c.l.length-(k+1)<c.l.length-k from (by omega)) [(5,aI ((k:Int)+1))] [] ⟨sR,sR,sO,trivial⟩ bb1)
 <| fun p7=>.u 16 [b2]<|
 .br 73 (x1.gone) (fun q12=>have p12:=booT q12;.r 5<|.nbb 78 (dP (x1.n=nod0)) (fun p13=>.r 8<|.r 1<|.f R [] (aB false) (by
  refine sF (fun h=>?_);obtain ⟨g1,g2,g3⟩:=h.2.1.2.at hx1;obtain ⟨g4,g5⟩:=h.2.2.at hx1
  first | omega | (simp_all [Qac];done) | (simp_all [Qac];omega)))
 <| fun p13=>.u 4 [b2]<|
 .is 82 (show (!x1.gone)=false from by rw [q12];rfl)<|.r 4<|.run 3 [rng .i64 ((k:Int)+1)] ⟨Qaj (by omega) (by omega),trivial⟩<|
 .bk L1 k (k+1) ⟨by omega,hH1.2.1.step hx1 ⟨by omega,by omega,by intro d h0 hd;omega⟩,hH1.2.2.step hx1 (by first | exact Qk0 (by simp_all [Qax,Qac]) (by simp_all [Qax,Qac]) | skip)⟩ (show c.l.length-(k+1)<c.l.length-k from (by omega)) [(5,aI ((k:Int)+1))] [] ⟨sR,sR,sO,trivial⟩ bb1)
 <| fun q12=>have p12:=booF q12;.u 9 [b2]<|
 .is 82 (show (!x1.gone)=true from by rw [q12];rfl)<|.r 4<|.nbe 86 x1.n.ino c.ino (fun p14=>.r 1<|.f R [] (aB false) (by
  refine sF (fun h=>?_);obtain ⟨g1,g2,g3⟩:=h.2.1.2.at hx1;obtain ⟨g4,g5⟩:=h.2.2.at hx1
  first | omega | (simp_all [Qac];done) | (simp_all [Qac];omega)))
 <| fun p14=>.run 3 [rng .i64 ((k:Int)+1)] ⟨Qaj (by omega) (by omega),trivial⟩<|
 .bk L1 k (k+1) ⟨by omega,hH1.2.1.step hx1 ⟨by omega,by omega,by intro d h0 hd;omega⟩,hH1.2.2.step hx1 (by first | exact Qk0 (by simp_all [Qax,Qac]) (by simp_all [Qax,Qac]) | skip)⟩ (show c.l.length-(k+1)<c.l.length-k from (by omega)) [(5,aI ((k:Int)+1))] [] ⟨sR,sR,sO,trivial⟩ bb1)
 <| fun p4=>.r 8<|.u 3 [b2]<|
 .cs (args0:=[.agg (nodA x1.n),.agg [aI 0,aI 0,aI 0,aS ([]),aN]]) (Qe9 x1.n nod0 (okx1).2 Qk7) ⟨sR,Sub.aggs ⟨sR,sR,sR,sR,Sub.nil _ _,trivial⟩,trivial⟩<|
 .r 1<|.ord [0,1,2,3,4,5,6,7,8,9,10,11,12,13,14,15,16,17,18,19,20,21,22,23,24,25,26,27,28,29,30,31,32,33,34,35,36,37,38,39,40,41]<|.u 4 [b2]<|
 .bd 48 (x1.stamp<1) (fun p15=>.r 38<|.r 1<|.f R [] (aB false) (by
  refine sF (fun h=>?_);obtain ⟨g1,g2,g3⟩:=h.2.1.2.at hx1;obtain ⟨g4,g5⟩:=h.2.2.at hx1
  first | omega | (simp_all [Qac];done) | (simp_all [Qac];omega)))
 <| fun p15=>.u 6 [b2]<|
 .bd 54 (x1.stamp>last) (fun p16=>.r 32<|.r 1<|.f R [] (aB false) (by
  refine sF (fun h=>?_);obtain ⟨g1,g2,g3⟩:=h.2.1.2.at hx1;obtain ⟨g4,g5⟩:=h.2.2.at hx1
  first | omega | (simp_all [Qac];done) | (simp_all [Qac];omega)))
 <| fun p16=>.r 3<|.bd 57 ((k:Int)>0) (fun p17=>.run 4 [b1=b1,rng .i64 ((k:Int)-1)] ⟨rfl,Qaj (by omega) (by omega),trivial⟩<|
 .idxM c.l verA (k-1) (m:=(k:Int)-1) (by omega) (by omega) fun x3 hx3=>
 have okx3:=okc.2.2 x3 (List.mem_of_getElem? hx3);.u 8 [b2]<|
 .bd 70 (x3.stamp≥x1.stamp) (fun p18=>.r 16<|.r 1<|.f R [] (aB false) (by
  refine sF (fun h=>?_);obtain ⟨g1,g2,g3⟩:=h.2.1.2.at hx1;obtain ⟨g4,g5⟩:=h.2.2.at hx1
  first | omega | (have:=g3 _ (by omega) hx3;omega) | (simp_all [Qac];done) | (simp_all [Qac];omega)))
 <| fun p18=>.u 3 [b2]<|
 .br 73 (x1.gone) (fun q19=>have p19:=booT q19;.r 5<|.nbb 78 (dP (x1.n=nod0)) (fun p20=>.r 8<|.r 1<|.f R [] (aB false) (by
  refine sF (fun h=>?_);obtain ⟨g1,g2,g3⟩:=h.2.1.2.at hx1;obtain ⟨g4,g5⟩:=h.2.2.at hx1
  first | omega | (have:=g3 _ (by omega) hx3;omega) | (simp_all [Qac];done) | (simp_all [Qac];omega)))
 <| fun p20=>.u 4 [b2]<|
 .is 82 (show (!x1.gone)=false from by rw [q19];rfl)<|.r 4<|.run 3 [rng .i64 ((k:Int)+1)] ⟨Qaj (by omega) (by omega),trivial⟩<|
 .bk L1 k (k+1) ⟨by omega,hH1.2.1.step hx1 ⟨by omega,by omega,by intro d h0 hd;first | omega | (rw [hd] at hx3;obtain rfl:=Option.some.inj hx3;omega)⟩,hH1.2.2.step hx1 (by first | exact Qk0 (by simp_all [Qax,Qac]) (by simp_all [Qax,Qac]) | skip)⟩ (show c.l.length-(k+1)<c.l.length-k from (by omega)) [(5,aI ((k:Int)+1))] [] ⟨sR,sR,sO,trivial⟩ bb1)
 <| fun q19=>have p19:=booF q19;.u 9 [b2]<|
 .is 82 (show (!x1.gone)=true from by rw [q19];rfl)<|.r 4<|.r 1<|.f R [] (aB false) (by
  refine sF (fun h=>?_);obtain ⟨g1,g2,g3⟩:=h.2.1.2.at hx1;obtain ⟨g4,g5⟩:=h.2.2.at hx1
  first | omega | (have:=g3 _ (by omega) hx3;omega) | (simp_all [Qac];done) | (simp_all [Qac];omega)))
 <| fun p17=>.u 16 [b2]<|
 .br 73 (x1.gone) (fun q21=>have p21:=booT q21;.r 5<|.nbb 78 (dP (x1.n=nod0)) (fun p22=>.r 8<|.r 1<|.f R [] (aB false) (by
  refine sF (fun h=>?_);obtain ⟨g1,g2,g3⟩:=h.2.1.2.at hx1;obtain ⟨g4,g5⟩:=h.2.2.at hx1
  first | omega | (simp_all [Qac];done) | (simp_all [Qac];omega)))
 <| fun p22=>.u 4 [b2]<|
 .is 82 (show (!x1.gone)=false from by rw [q21];rfl)<|.r 4<|.run 3 [rng .i64 ((k:Int)+1)] ⟨Qaj (by omega) (by omega),trivial⟩<|
 .bk L1 k (k+1) ⟨by omega,hH1.2.1.step hx1 ⟨by omega,by omega,by intro d h0 hd;omega⟩,hH1.2.2.step hx1 (by first | exact Qk0 (by simp_all [Qax,Qac]) (by simp_all [Qax,Qac]) | skip)⟩ (show c.l.length-(k+1)<c.l.length-k from (by omega)) [(5,aI ((k:Int)+1))] [] ⟨sR,sR,sO,trivial⟩ bb1)
 <| fun q21=>have p21:=booF q21;.u 9 [b2]<|
 .is 82 (show (!x1.gone)=true from by rw [q21];rfl)<|.r 4<|.r 1<|.f R [] (aB false) (by
  refine sF (fun h=>?_);obtain ⟨g1,g2,g3⟩:=h.2.1.2.at hx1;obtain ⟨g4,g5⟩:=h.2.2.at hx1
  first | omega | (simp_all [Qac];done) | (simp_all [Qac];omega)))
 <| fun p3=>.r 1<|.f R [] (aB true) (by refine sT ⟨by omega,⟨by omega,hH1.2.1.full (by omega)⟩,hH1.2.2.full (by omega)⟩)) a1 ha1)
end Go.Proofs.YtahlldgocpabjaaGreat
