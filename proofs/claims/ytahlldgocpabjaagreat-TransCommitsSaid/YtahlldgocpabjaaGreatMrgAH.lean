import Derived.Test.YtahlldgocpabjaaGreatMrgAF
import Derived.Test.YtahlldgocpabjaaGreatMrgAA
import Derived.Test.YtahlldgocpabjaaGreatMrgAD
import Derived.Test.YtahlldgocpabjaaGreatMrgZ
import Derived.Test.YtahlldgocpabjaaGreatMrgAG
import Derived.Test.YtahlldgocpabjaaGreatMrgAE
set_option maxRecDepth 100000
set_option maxHeartbeats 8000000
set_option linter.unusedVariables false
set_option linter.unusedSimpArgs false
namespace Go.Proofs.YtahlldgocpabjaaGreat
open Go Go.RowKit Copyhold Go.Proofs.Tryz
open Copyhold.Name (Srt insE delE getE isAt)
theorem i0:I64 0:=⟨by decide,by decide⟩
theorem Qx7 {k:Int} (h:0≤k) (h2:k≤1000000):I64 k:=⟨by omega,by omega⟩
def cA:Cal:=⟨6,1,0,0,0,[97],[],[]⟩
theorem cA_ok:OkCal cA:=⟨Qx7 (by decide) (by decide),Qx7 (by decide) (by decide),i0,i0,i0,by show 1≤_;omega,Nat.zero_le _,Nat.zero_le _⟩
noncomputable def fA:Fsy:=addF newF 1 [97] (addN newF Ql3)
theorem doA1:doF newF cA=(fA,⟨0,2,0,0,[],[]⟩):=by
 refine Qfa (x:=(fA,⟨0,2,0,0,[],[]⟩)) ?_ rfl;rw [Qpt rfl];show addO newF cA Ql3=_;unfold addO;show ((if Qau newF 1 [97] Ql3=0 then _ else _),(⟨Qau newF 1 [97] Ql3,_,_,_,_,_⟩:Rep))=_;rw [Qlo,if_pos rfl];rfl
theorem Qiu:Qar fA∧OkF fA∧fA.next=3∧(∃ d,atF fA 1=some d∧d.kind=2∧d.l=[⟨[97],2⟩])∧(fA.l.length:Int)=2:=by
 have hb:=Qpx Qe8 Qlo;have ho:=Zlq (n:=Ql3) (s:=[97]) Qqr Qe8 Zjj (by decide) Qlo (by decide);refine ⟨hb.1,ho,?_,?_,?_⟩
 ·obtain ⟨d,A⟩:=Qru Qlo;have hr:=Qaf Qe8;have hroot:atF newF 1=some Qi3:=rfl;unfold fA addF;rw [show (addN newF Ql3).ino=2 from rfl,Qd5 hroot];rw [Qm3]
  ·rw [show (setL newF Qi3 (entL Qi3.l [97] 2)).next=2 from Qmc (by decide)];rfl
  ·rw [show (setL newF Qi3 (entL Qi3.l [97] 2)).next=2 from Qmc (by decide)];rfl
 ·have hroot:atF newF 1=some Qi3:=rfl;have he:entE Qi3.l [97] 2=0:=Qdw Znu (by decide) rfl (by decide);have hl:entL Qi3.l [97] 2=[⟨[97],2⟩]:=by unfold entL;rw [if_pos he];rfl
  have hk:rowP Qi3.l:=Qce;obtain ⟨s1,s2,s3,s4⟩:=Qe7 Qe8 hroot rfl (Qrd (n:=2) hk Znu (by decide) rfl (by decide));refine ⟨Qbq Qi3 (entL Qi3.l [97] 2),?_,rfl,hl⟩;unfold fA addF;rw [show (addN newF Ql3).ino=2 from rfl,Qd5 hroot,Qod (Qaf s1),if_neg (by decide),s4,if_pos rfl]
 ·have:=Zn0;rw [if_pos Qlo] at this;exact this
end Go.Proofs.YtahlldgocpabjaaGreat

namespace Go.Proofs.YtahlldgocpabjaaGreat
open Go Go.RowKit Copyhold Go.Proofs.Tryz
theorem Qk9 (f:Fsy) (c:Cal):(Qaq f c).length≤6:=by
 unfold Qaq
 split
 ·simp
 ·exact Nat.le_trans (Qjr _) (Qnh f c).2
theorem Zb6 {l:List Cal} (h:Qf6 l) {c:Cal} (hc:c∈l):c.name.length≤2000∧c.name2.length≤2000∧c.text.length≤2000:=by
 have h1:=h.1;have:txC c≤((l.take l.length).map txC).sum:=by rw [List.take_length];exact Qk0 hc
 unfold smS at h1;have e:txC c=c.name.length+c.name2.length+c.text.length:=rfl;omega
end Go.Proofs.YtahlldgocpabjaaGreat

namespace Go.Proofs.YtahlldgocpabjaaGreat
open Go Go.RowKit Copyhold Go.Proofs.Tryz
section
variable {α:Type}
def cutV (f:α→Int) (st:Int):List α→Nat
 | []=>0
 | x :: r=>if cutV f st r=0 then (if f x≤st then 1 else 0) else cutV f st r+1
theorem Qh0 (f:α→Int) (st:Int):∀ l:List α,cutV f st l≤l.length
 | []=>Nat.le_refl _
 | x :: r=>by
  have:=Qh0 f st r;simp only [cutV,List.length_cons]
  split
  ·split<;>omega
  ·omega
theorem Qgn (f:α→Int) (st:Int):∀ (l:List α) (k:Nat),k≤l.length→(∀ j x,k≤j→l[j]?=some x→st<f x)→(k=0∨∃ x,l[k-1]?=some x∧f x≤st)→cutV f st l=k
 | [],k,hk,_,_=>by simp at hk;subst hk;rfl
 | x :: r,0,_,ha,_=>by
  have h1:=Qgn f st r 0 (Nat.zero_le _) (fun j y _ hy=>ha (j+1) y (Nat.zero_le _) (by simpa using hy)) (.inl rfl);have h2:=ha 0 x (Nat.zero_le _) rfl;simp only [cutV,h1,if_true];rw [if_neg (by omega)]
 | x :: r,k+1,hk,ha,he=>by
  simp only [List.length_cons] at hk;have ha':∀ j y,k≤j→r[j]?=some y→st<f y:=fun j y hj hy=>ha (j+1) y (by omega) (by simpa using hy);rcases he with he | ⟨y,hy,hle⟩
  ·omega
  ·cases k with
   | zero=>
    have h1:=Qgn f st r 0 (Nat.zero_le _) ha' (.inl rfl);simp at hy;subst hy;simp only [cutV,h1,if_true,if_pos hle]
   | succ k=>
    have h1:=Qgn f st r (k+1) (by omega) ha' (.inr ⟨y,by simpa using hy,hle⟩);simp only [cutV,h1];rfl
theorem Zh0 (f:α→Int) (st:Int) (l:List α):l.length≤l.length∧∀ j y,l.length≤j→l[j]?=some y→st<f y:=⟨Nat.le_refl _,fun j y hj hy=>by have:=Qan hy;omega⟩
theorem Zhz {f:α→Int} {st:Int} {l:List α} {k:Nat} {x:α} (hx:l[k-1]?=some x) (hk:k≤l.length) (h:∀ j y,k≤j→l[j]?=some y→st<f y) (hg:st<f x):k-1≤l.length∧∀ j y,k-1≤j→l[j]?=some y→st<f y:=
 ⟨by omega,fun j y hj hy=>by
  by_cases e:j=k-1
  ·subst e;rw [hx] at hy;obtain rfl:=Option.some.inj hy;exact hg
  ·exact h j y (by omega) hy⟩
def atD (f:α→Int) (st:Int) (l:List α):Option α:=if cutV f st l=0 then none else l[cutV f st l-1]?
def Zb1 (f:α→Int) (most:Int) (l:List α) (i:Nat) (x:α):Prop:=1≤f x∧f x≤most∧∀ d,0<i→l[i-1]?=some d→f d<f x
def Qok (f:α→Int) (most:Int) (l:List α):Prop:=1≤l.length∧AllQ (Zb1 f most l) l
def Qrx (f:α→Int) (l:List α) (k:Nat) (last:Int):Prop:=(k=0∧last=0)∨∃ d,0<k∧l[k-1]?=some d∧last=f d∧1≤last
theorem Qrx.pos {f:α→Int} {l:List α} {k:Nat} {last:Int} (h:Qrx f l k last):0≤last:=by
 rcases h with ⟨_,h⟩ | ⟨d,_,_,_,h⟩<;>omega
theorem Qrx.step {f:α→Int} {l:List α} {k:Nat} {last:Int} {x:α} (h:Qrx f l k last) (hx:l[k]?=some x) (hgt:¬ f x≤last):Qrx f l (k+1) (f x):=
 .inr ⟨x,by omega,by simpa using hx,rfl,by have:=h.pos;omega⟩
theorem Qrx.lt {f:α→Int} {l:List α} {k:Nat} {last:Int} (h:Qrx f l k last) {v:Int} (hgt:¬ v≤last):1≤v∧∀ d,0<k→l[k-1]?=some d→f d<v:=by
 refine ⟨by have:=h.pos;omega,fun d h0 hd=>?_⟩;rcases h with ⟨h,_⟩ | ⟨e,_,he,h1,_⟩
 ·omega
 ·rw [hd] at he;obtain rfl:=Option.some.inj he;omega
theorem Qrx.not {f:α→Int} {l:List α} {k:Nat} {last:Int} (h:Qrx f l k last) {v:Int} (hle:v≤last):¬ (1≤v∧∀ d,0<k→l[k-1]?=some d→f d<v):=by
 rintro ⟨h1,h2⟩;rcases h with ⟨_,h⟩ | ⟨e,h0,he,h3,_⟩
 ·omega
 ·have:=h2 e h0 he;omega
end
def verP (ino:Int) (v:Ver):Prop:=(v.gone=true→v.n=nod0)∧(v.gone=false→nodP v.n∧v.n.ino=ino)
def Qpv (most:Int) (c:Chn):Prop:=1≤c.ino∧Qok Ver.stamp most c.l∧AllQ (fun _ v=>verP c.ino v) c.l
def Znt (s:Sto) (i:Nat) (c:Chn):Prop:=Qpv s.stamp c∧∀ d,0<i→s.l[i-1]?=some d→d.ino<c.ino
def Qch (s:Sto):Prop:=1≤s.stamp∧Qok Cnt.stamp s.stamp s.nexts∧AllQ (fun _ (c:Cnt)=>1≤c.next) s.nexts∧AllQ (Znt s) s.l
def Qb8 (st:Int) (c:Chn):Option Nod:=match atD Ver.stamp st c.l with
 | some v=>if v.gone then none else some v.n
 | none=>none
def Qj4 (s:Sto) (st:Int):Int:=match atD Cnt.stamp st s.nexts with
 | some c=>c.next
 | none=>1
def Qck (s:Sto) (st:Int):Fsy:=⟨s.l.filterMap (Qb8 st),Qj4 s st⟩
theorem Qev {st:Int} {c:Chn} {v:Ver} (h0:¬ cutV Ver.stamp st c.l=0) (hv:c.l[cutV Ver.stamp st c.l-1]?=some v):Qb8 st c=if v.gone then none else some v.n:=by
 unfold Qb8 atD;rw [if_neg h0,hv]
theorem Qia {st:Int} {c:Chn} (h0:cutV Ver.stamp st c.l=0):Qb8 st c=none:=by
 unfold Qb8 atD;rw [if_pos h0]
theorem Qxt {s:Sto} {st:Int} {c:Cnt} (h0:¬ cutV Cnt.stamp st s.nexts=0) (hc:s.nexts[cutV Cnt.stamp st s.nexts-1]?=some c):Qj4 s st=c.next:=by
 unfold Qj4 atD;rw [if_neg h0,hc]
theorem Qpg {s:Sto} {st:Int} (h0:cutV Cnt.stamp st s.nexts=0):Qj4 s st=1:=by
 unfold Qj4 atD;rw [if_pos h0]
def Qcu (s:Sto) (st:Int) (k:Nat):List Nod:=(s.l.take k).filterMap (Qb8 st)
theorem Qjt {s:Sto} {st:Int} {k:Nat} {c:Chn} {n:Nod} (hc:s.l[k]?=some c) (h:Qb8 st c=some n):Qcu s st (k+1)=Qcu s st k++[n]:=by
 unfold Qcu;rw [Qam hc,List.filterMap_append];simp [h]
theorem Qfi {s:Sto} {st:Int} {k:Nat} {c:Chn} (hc:s.l[k]?=some c) (h:Qb8 st c=none):Qcu s st (k+1)=Qcu s st k:=by
 unfold Qcu;rw [Qam hc,List.filterMap_append];simp [h]
theorem Ql9 (s:Sto) (st:Int) (k:Nat):(Qcu s st k).length≤k:=by
 have:=List.length_filterMap_le (Qb8 st) (s.l.take k);rw [List.length_take] at this;unfold Qcu;omega
theorem Qju {s:Sto} {st:Int} {k:Nat} (h:s.l.length≤k):Qcu s st k=s.l.filterMap (Qb8 st):=by unfold Qcu;rw [Qat h]
def Qe9 (st:Int) (c:Chn):Bool:=c.l.any fun v=>decide (v.stamp>st)
def Qbl (s:Sto) (st:Int) (k:Nat):List Int:=((s.l.take k).filter (Qe9 st)).map Chn.ino
def Zah (s:Sto) (st:Int):Bool:=s.nexts.any fun c=>decide (c.stamp>st)
def Qby (s:Sto) (st:Int):List Int:=if 1≤(Qbl s st s.l.length).length∨Zah s st=true then 0 :: Qbl s st s.l.length else []
theorem Qgj {s:Sto} {st:Int} {k:Nat} {c:Chn} (hc:s.l[k]?=some c) (h:Qe9 st c=true):Qbl s st (k+1)=Qbl s st k++[c.ino]:=by
 unfold Qbl;rw [Qam hc,List.filter_append,List.map_append];simp [h]
theorem Qht {s:Sto} {st:Int} {k:Nat} {c:Chn} (hc:s.l[k]?=some c) (h:Qe9 st c=false):Qbl s st (k+1)=Qbl s st k:=by
 unfold Qbl;rw [Qam hc,List.filter_append,List.map_append];simp [h]
theorem Qhu (s:Sto) (st:Int) (k:Nat):(Qbl s st k).length≤k:=by
 have:=List.length_filter_le (Qe9 st) (s.l.take k);rw [List.length_take] at this;unfold Qbl;rw [List.length_map];omega
theorem Qe0 {s:Sto} {st:Int} {k:Nat} (h:s.l.length≤k):Qbl s st k=Qbl s st s.l.length:=by unfold Qbl;rw [Qat h,Qat (Nat.le_refl _)]
section
variable {α:Type}
def idxF (p:α→Bool):List α→Int
 | []=>-1
 | x :: r=>if p x then 0 else if idxF p r<0 then -1 else idxF p r+1
theorem Qqz (p:α→Bool):∀ l:List α,decide (idxF p l≥0)=l.any p
 | []=>rfl
 | x :: r=>by
  have:=Qqz p r;simp only [idxF,List.any_cons,← this];by_cases hp:p x=true
  ·simp [hp]
  ·simp only [Bool.not_eq_true] at hp;simp only [hp,Bool.false_or,Bool.false_eq_true,if_false]
   split<;>simp<;>omega
theorem Qnu (p:α→Bool):∀ l:List α,AllQ (fun _ x=>p x=false) l→idxF p l = -1
 | [],_=>rfl
 | x :: r,h=>by
  have h1:=h 0 x rfl;have h2:=Qnu p r fun i e he=>h (i+1) e (by simpa using he);simp [idxF,h1,h2]
theorem Qv7 (p:α→Bool):∀ (l:List α) (k:Nat) (x:α),Qa3 (fun _ x=>p x=false) l k→l[k]?=some x→p x=true→idxF p l=k
 | y :: r,0,x,_,hx,hp=>by
  simp at hx;subst hx;simp [idxF,hp]
 | y :: r,k+1,x,h,hx,hp=>by
  have h1:=h 0 y (by omega) rfl;have h2:=Qv7 p r k x (fun i e hi he=>h (i+1) e (by omega) (by simpa using he)) (by simpa using hx) hp;simp [idxF,h1,h2];omega
theorem Qmk {p:α→Bool} {l:List α} {k:Nat} {x:α} (hx:l[k]?=some x):(l.take (k+1)).any p=((l.take k).any p||p x):=by
 rw [Qam hx,List.any_append];simp
end
theorem Zho (v:Ver):Qah prog 154 [.agg (verA v)] (aI v.stamp):=by
 exact Qac func154 (
 .new fun b1=>.r 1<|.u 3 [b1]<|
 .fi (aI v.stamp) [])
theorem Zhn (c:Cnt):Qah prog 155 [.agg [aI c.stamp,aI c.next]] (aI c.stamp):=by
 exact Qac func155 (
 .new fun b1=>.r 1<|.u 3 [b1]<|
 .fi (aI c.stamp) [])
theorem Qux :Qah prog 92 [] (.tup [.val (.func (.func 154) #[] #[]),.val (.func (.func 155) #[] #[])]):=by
 exact Qac func92 (let R:AV:=.tup [.val (.func (.func 154) #[] #[]),.val (.func (.func 155) #[] #[])];
 .r 2<|.r 2<|.fi R [])
theorem Qky {ino:Int} {v:Ver} (h1:v.gone=true→v.n=nod0) (h2:v.gone=false→nodP v.n∧v.n.ino=ino):verP ino v:=⟨h1,h2⟩
theorem Za6 (c:Chn) (last:Int) (okc:OkC c):Qah prog 77 [.agg [aI c.ino,.sl 7 false (c.l.map verA)],aI last] (aB (dP (Qpv last c))):=by
 have hcl:=okc.2.1;exact Qac func77 (let R:AV:=aB (dP (Qpv last c));
 .new fun b1=>.r 1<|.u 4 [b1]<|
 .bd 12 (c.ino<1) (fun p1=>.r 5<|.r 1<|.f R [] (aB false) (by
  refine sF (fun h=>?_);obtain ⟨g1,⟨g2,_⟩,g3⟩:=h;omega))
 <| fun p1=>.u 3 [b1]<|
 .lm 15 c.l verA<|.r 2<|.bd 17 ((c.l.length:Int)<1) (fun p2=>.r 1<|.f R [] (aB false) (by
  refine sF (fun h=>?_);obtain ⟨g1,⟨g2,_⟩,g3⟩:=h;omega))
 <| fun p2=>.r 1<|let L1:Lp (Nat):=⟨fun a1=>⟨[(1,aI last),(2,.ptr 2 b1 0),(5,aI (a1:Int))],[(2,.box b1 98 [aI c.ino,.sl 7 false (c.l.map verA)])]⟩,fun a1=>c.l.length-a1,fun a1=>a1≤c.l.length∧Qa3 (Zb1 Ver.stamp last c.l) c.l a1∧Qa3 (fun _ v=>verP c.ino v) c.l a1⟩
 .lp L1 0 ⟨Nat.zero_le _,Qa3.zero _ _,Qa3.zero _ _⟩ [(5,aI 0)] [] ⟨sR,sR,sO,trivial⟩ bb1 fun a1 ha1=>
 (fun (k:Nat) (hH1:k≤c.l.length∧Qa3 (Zb1 Ver.stamp last c.l) c.l k∧Qa3 (fun _ v=>verP c.ino v) c.l k)=>.u 4 [b1]<|
 .lm 21 c.l verA<|.r 1<|.bd 22 ((k:Int)<(c.l.length:Int)) (fun p3=>.u 3 [b1]<|
 .idxM c.l verA k (m:=(k:Int)) rfl (by omega) fun x1 hx1=>
 have okx1:=okc.2.2 x1 (List.mem_of_getElem? hx1);.r 1<|.new fun b2=>.u 1 [b2]<|
 .u 2 [b2]<|
 .call (Qhm x1.n (okx1).2)<|
 .r 1<|.bb 33 (dP (nodP x1.n)) (fun p4=>.u 8 [b2,b1]<|
 .u 3 [b2]<|
 .cs (args0:=[.agg (nodA x1.n),.agg [aI 0,aI 0,aI 0,aS ([]),aN]]) (Qea x1.n nod0 (okx1).2 Qk6) ⟨sR,Sub.aggs ⟨sR,sR,sR,sR,Sub.nil _ _,trivial⟩,trivial⟩<|
 .r 1<|.ord [0,1,2,3,4,5,6,7,8,9,10,11,12,13,14,15,16,17,18,19,20,21,22,23,24,25,26,27,28,29,30,31,32,33,34,35,36,37,38,39,40,41]<|.u 4 [b2]<|
 .bd 48 (x1.stamp<1) (fun p5=>.r 38<|.r 1<|.f R [] (aB false) (by
  refine sF (fun h=>?_);obtain ⟨g1,g2,g3⟩:=h.2.1.2.at hx1;obtain ⟨g4,g5⟩:=h.2.2.at hx1
  first | omega | (simp_all [Qab];done) | (simp_all [Qab];omega)))
 <| fun p5=>.u 6 [b2]<|
 .bd 54 (x1.stamp>last) (fun p6=>.r 32<|.r 1<|.f R [] (aB false) (by
  refine sF (fun h=>?_);obtain ⟨g1,g2,g3⟩:=h.2.1.2.at hx1;obtain ⟨g4,g5⟩:=h.2.2.at hx1
  first | omega | (simp_all [Qab];done) | (simp_all [Qab];omega)))
 <| fun p6=>.r 3<|.bd 57 ((k:Int)>0) (fun p7=>.run 4 [b1=b1,rng .i64 ((k:Int)-1)] ⟨rfl,Qai (by omega) (by omega),trivial⟩<|
 .idxM c.l verA (k-1) (m:=(k:Int)-1) (by omega) (by omega) fun x2 hx2=>
 have okx2:=okc.2.2 x2 (List.mem_of_getElem? hx2);.u 8 [b2]<|
 .bd 70 (x2.stamp≥x1.stamp) (fun p8=>.r 16<|.r 1<|.f R [] (aB false) (by
  refine sF (fun h=>?_);obtain ⟨g1,g2,g3⟩:=h.2.1.2.at hx1;obtain ⟨g4,g5⟩:=h.2.2.at hx1
  first | omega | (have:=g3 _ (by omega) hx2;omega) | (simp_all [Qab];done) | (simp_all [Qab];omega)))
 <| fun p8=>.u 3 [b2]<|
 .br 73 (x1.gone) (fun q9=>have p9:=booT q9;.r 5<|.nbb 78 (dP (x1.n=nod0)) (fun p10=>.r 8<|.r 1<|.f R [] (aB false) (by
  refine sF (fun h=>?_);obtain ⟨g1,g2,g3⟩:=h.2.1.2.at hx1;obtain ⟨g4,g5⟩:=h.2.2.at hx1
  first | omega | (have:=g3 _ (by omega) hx2;omega) | (simp_all [Qab];done) | (simp_all [Qab];omega)))
 <| fun p10=>.u 4 [b2]<|
 .is 82 (show (!x1.gone)=false from by rw [q9];rfl)<|.r 4<|.run 3 [rng .i64 ((k:Int)+1)] ⟨Qai (by omega) (by omega),trivial⟩<|
 .bk L1 k (k+1) ⟨by omega,hH1.2.1.step hx1 ⟨by omega,by omega,by intro d h0 hd;first | omega | (rw [hd] at hx2;obtain rfl:=Option.some.inj hx2;omega)⟩,hH1.2.2.step hx1 (by first | exact Qky (by simp_all [Qaw,Qab]) (by simp_all [Qaw,Qab]) | skip)⟩ (show c.l.length-(k+1)<c.l.length-k from (by omega)) [(5,aI ((k:Int)+1))] [] ⟨sR,sR,sO,trivial⟩ bb1)
 <| fun q9=>have p9:=booF q9;.u 9 [b2]<|
 .is 82 (show (!x1.gone)=true from by rw [q9];rfl)<|.r 4<|.nbe 86 x1.n.ino c.ino (fun p11=>.r 1<|.f R [] (aB false) (by
  refine sF (fun h=>?_);obtain ⟨g1,g2,g3⟩:=h.2.1.2.at hx1;obtain ⟨g4,g5⟩:=h.2.2.at hx1
  first | omega | (have:=g3 _ (by omega) hx2;omega) | (simp_all [Qab];done) | (simp_all [Qab];omega)))
 <| fun p11=>.run 3 [rng .i64 ((k:Int)+1)] ⟨Qai (by omega) (by omega),trivial⟩<|
 .bk L1 k (k+1) ⟨by omega,hH1.2.1.step hx1 ⟨by omega,by omega,by intro d h0 hd;first | omega | (rw [hd] at hx2;obtain rfl:=Option.some.inj hx2;omega)⟩,hH1.2.2.step hx1 (by first | exact Qky (by simp_all [Qaw,Qab]) (by simp_all [Qaw,Qab]) | skip)⟩ (show c.l.length-(k+1)<c.l.length-k from (by omega)) [(5,aI ((k:Int)+1))] [] ⟨sR,sR,sO,trivial⟩ bb1)
 <| fun p7=>.u 16 [b2]<|
 .br 73 (x1.gone) (fun q12=>have p12:=booT q12;.r 5<|.nbb 78 (dP (x1.n=nod0)) (fun p13=>.r 8<|.r 1<|.f R [] (aB false) (by
  refine sF (fun h=>?_);obtain ⟨g1,g2,g3⟩:=h.2.1.2.at hx1;obtain ⟨g4,g5⟩:=h.2.2.at hx1
  first | omega | (simp_all [Qab];done) | (simp_all [Qab];omega)))
 <| fun p13=>.u 4 [b2]<|
 .is 82 (show (!x1.gone)=false from by rw [q12];rfl)<|.r 4<|.run 3 [rng .i64 ((k:Int)+1)] ⟨Qai (by omega) (by omega),trivial⟩<|
 .bk L1 k (k+1) ⟨by omega,hH1.2.1.step hx1 ⟨by omega,by omega,by intro d h0 hd;omega⟩,hH1.2.2.step hx1 (by first | exact Qky (by simp_all [Qaw,Qab]) (by simp_all [Qaw,Qab]) | skip)⟩ (show c.l.length-(k+1)<c.l.length-k from (by omega)) [(5,aI ((k:Int)+1))] [] ⟨sR,sR,sO,trivial⟩ bb1)
 <| fun q12=>have p12:=booF q12;.u 9 [b2]<|
 .is 82 (show (!x1.gone)=true from by rw [q12];rfl)<|.r 4<|.nbe 86 x1.n.ino c.ino (fun p14=>.r 1<|.f R [] (aB false) (by
  refine sF (fun h=>?_);obtain ⟨g1,g2,g3⟩:=h.2.1.2.at hx1;obtain ⟨g4,g5⟩:=h.2.2.at hx1
  first | omega | (simp_all [Qab];done) | (simp_all [Qab];omega)))
 <| fun p14=>.run 3 [rng .i64 ((k:Int)+1)] ⟨Qai (by omega) (by omega),trivial⟩<|
 .bk L1 k (k+1) ⟨by omega,hH1.2.1.step hx1 ⟨by omega,by omega,by intro d h0 hd;omega⟩,hH1.2.2.step hx1 (by first | exact Qky (by simp_all [Qaw,Qab]) (by simp_all [Qaw,Qab]) | skip)⟩ (show c.l.length-(k+1)<c.l.length-k from (by omega)) [(5,aI ((k:Int)+1))] [] ⟨sR,sR,sO,trivial⟩ bb1)
 <| fun p4=>.r 8<|.u 3 [b2]<|
 .cs (args0:=[.agg (nodA x1.n),.agg [aI 0,aI 0,aI 0,aS ([]),aN]]) (Qea x1.n nod0 (okx1).2 Qk6) ⟨sR,Sub.aggs ⟨sR,sR,sR,sR,Sub.nil _ _,trivial⟩,trivial⟩<|
 .r 1<|.ord [0,1,2,3,4,5,6,7,8,9,10,11,12,13,14,15,16,17,18,19,20,21,22,23,24,25,26,27,28,29,30,31,32,33,34,35,36,37,38,39,40,41]<|.u 4 [b2]<|
 .bd 48 (x1.stamp<1) (fun p15=>.r 38<|.r 1<|.f R [] (aB false) (by
  refine sF (fun h=>?_);obtain ⟨g1,g2,g3⟩:=h.2.1.2.at hx1;obtain ⟨g4,g5⟩:=h.2.2.at hx1
  first | omega | (simp_all [Qab];done) | (simp_all [Qab];omega)))
 <| fun p15=>.u 6 [b2]<|
 .bd 54 (x1.stamp>last) (fun p16=>.r 32<|.r 1<|.f R [] (aB false) (by
  refine sF (fun h=>?_);obtain ⟨g1,g2,g3⟩:=h.2.1.2.at hx1;obtain ⟨g4,g5⟩:=h.2.2.at hx1
  first | omega | (simp_all [Qab];done) | (simp_all [Qab];omega)))
 <| fun p16=>.r 3<|.bd 57 ((k:Int)>0) (fun p17=>.run 4 [b1=b1,rng .i64 ((k:Int)-1)] ⟨rfl,Qai (by omega) (by omega),trivial⟩<|
 .idxM c.l verA (k-1) (m:=(k:Int)-1) (by omega) (by omega) fun x3 hx3=>
 have okx3:=okc.2.2 x3 (List.mem_of_getElem? hx3);.u 8 [b2]<|
 .bd 70 (x3.stamp≥x1.stamp) (fun p18=>.r 16<|.r 1<|.f R [] (aB false) (by
  refine sF (fun h=>?_);obtain ⟨g1,g2,g3⟩:=h.2.1.2.at hx1;obtain ⟨g4,g5⟩:=h.2.2.at hx1
  first | omega | (have:=g3 _ (by omega) hx3;omega) | (simp_all [Qab];done) | (simp_all [Qab];omega)))
 <| fun p18=>.u 3 [b2]<|
 .br 73 (x1.gone) (fun q19=>have p19:=booT q19;.r 5<|.nbb 78 (dP (x1.n=nod0)) (fun p20=>.r 8<|.r 1<|.f R [] (aB false) (by
  refine sF (fun h=>?_);obtain ⟨g1,g2,g3⟩:=h.2.1.2.at hx1;obtain ⟨g4,g5⟩:=h.2.2.at hx1
  first | omega | (have:=g3 _ (by omega) hx3;omega) | (simp_all [Qab];done) | (simp_all [Qab];omega)))
 <| fun p20=>.u 4 [b2]<|
 .is 82 (show (!x1.gone)=false from by rw [q19];rfl)<|.r 4<|.run 3 [rng .i64 ((k:Int)+1)] ⟨Qai (by omega) (by omega),trivial⟩<|
 .bk L1 k (k+1) ⟨by omega,hH1.2.1.step hx1 ⟨by omega,by omega,by intro d h0 hd;first | omega | (rw [hd] at hx3;obtain rfl:=Option.some.inj hx3;omega)⟩,hH1.2.2.step hx1 (by first | exact Qky (by simp_all [Qaw,Qab]) (by simp_all [Qaw,Qab]) | skip)⟩ (show c.l.length-(k+1)<c.l.length-k from (by omega)) [(5,aI ((k:Int)+1))] [] ⟨sR,sR,sO,trivial⟩ bb1)
 <| fun q19=>have p19:=booF q19;.u 9 [b2]<|
 .is 82 (show (!x1.gone)=true from by rw [q19];rfl)<|.r 4<|.r 1<|.f R [] (aB false) (by
  refine sF (fun h=>?_);obtain ⟨g1,g2,g3⟩:=h.2.1.2.at hx1;obtain ⟨g4,g5⟩:=h.2.2.at hx1
  first | omega | (have:=g3 _ (by omega) hx3;omega) | (simp_all [Qab];done) | (simp_all [Qab];omega)))
 <| fun p17=>.u 16 [b2]<|
 .br 73 (x1.gone) (fun q21=>have p21:=booT q21;.r 5<|.nbb 78 (dP (x1.n=nod0)) (fun p22=>.r 8<|.r 1<|.f R [] (aB false) (by
  refine sF (fun h=>?_);obtain ⟨g1,g2,g3⟩:=h.2.1.2.at hx1;obtain ⟨g4,g5⟩:=h.2.2.at hx1
  first | omega | (simp_all [Qab];done) | (simp_all [Qab];omega)))
 <| fun p22=>.u 4 [b2]<|
 .is 82 (show (!x1.gone)=false from by rw [q21];rfl)<|.r 4<|.run 3 [rng .i64 ((k:Int)+1)] ⟨Qai (by omega) (by omega),trivial⟩<|
 .bk L1 k (k+1) ⟨by omega,hH1.2.1.step hx1 ⟨by omega,by omega,by intro d h0 hd;omega⟩,hH1.2.2.step hx1 (by first | exact Qky (by simp_all [Qaw,Qab]) (by simp_all [Qaw,Qab]) | skip)⟩ (show c.l.length-(k+1)<c.l.length-k from (by omega)) [(5,aI ((k:Int)+1))] [] ⟨sR,sR,sO,trivial⟩ bb1)
 <| fun q21=>have p21:=booF q21;.u 9 [b2]<|
 .is 82 (show (!x1.gone)=true from by rw [q21];rfl)<|.r 4<|.r 1<|.f R [] (aB false) (by
  refine sF (fun h=>?_);obtain ⟨g1,g2,g3⟩:=h.2.1.2.at hx1;obtain ⟨g4,g5⟩:=h.2.2.at hx1
  first | omega | (simp_all [Qab];done) | (simp_all [Qab];omega)))
 <| fun p3=>.r 1<|.f R [] (aB true) (by refine sT ⟨by omega,⟨by omega,hH1.2.1.full (by omega)⟩,hH1.2.2.full (by omega)⟩)) a1 ha1)
theorem Qu9 (s:Sto) (oks:OkS s):Qah prog 42 [.agg (stoA s)] (aB (dP (Qch s))):=by
 have hb1:=oks.2.1;have hb2:=oks.2.2.1;exact Qac func42 (let R:AV:=aB (dP (Qch s));
 .new fun b1=>.r 1<|.u 4 [b1]<|
 .br 10 (decide (s.stamp<1)) (fun q1=>have p1:=decT q1;.r 5<|.r 1<|.f R [] (aB false) (by
  refine sF (fun h=>?_);obtain ⟨g1,⟨g2,_⟩,g3⟩:=h;omega))
 <| fun q1=>have p1:=decF q1;.u 3 [b1]<|
 .lm 13 s.nexts cntA<|.r 2<|.br 15 (decide ((s.nexts.length:Int)<1)) (fun q2=>have p2:=decT q2;.r 1<|.f R [] (aB false) (by
  refine sF (fun h=>?_);obtain ⟨g1,⟨g2,_⟩,g3⟩:=h;omega))
 <| fun q2=>have p2:=decF q2;.r 1<|let L1:Lp (Nat):=⟨fun a1=>⟨[(1,.ptr 1 b1 0),(3,aI (a1:Int))],[(1,.box b1 25 (stoA s))]⟩,fun a1=>s.l.length-a1,fun a1=>a1≤s.l.length∧Qa3 (Znt s) s.l a1⟩
 .lp L1 0 ⟨Nat.zero_le _,Qa3.zero _ _⟩ [(3,aI 0)] [] ⟨sR,sO,trivial⟩ bb1 fun a1 ha1=>
 (fun (k:Nat) (hH1:k≤s.l.length∧Qa3 (Znt s) s.l k)=>.u 4 [b1]<|
 .lm 19 s.l chnA<|.r 1<|.br 20 (decide ((k:Int)<(s.l.length:Int))) (fun q3=>have p3:=decT q3;.ord [0,1,2,3,4,5,6,7,8]<|.u 3 [b1]<|
 .idxM s.l chnA k (m:=(k:Int)) rfl (by omega) fun x1 hx1=>
 have okx1:=oks.2.2.2.1 x1 (List.mem_of_getElem? hx1);have blx1:=okx1.2.1;.u 3 [b1]<|
 .call (Za6 x1 s.stamp okx1)<|
 .r 1<|.ord [0,1,2,3,4,5,6,7,8,9,10,11,12,13,14,15,16,17,18,19,20,21]<|.r 3<|.br 33 (!(dP (Qpv s.stamp x1))) (fun q4=>have q4:=notT q4;have p4:=booF q4;.r 19<|.r 1<|.f R [] (aB false) (by
  refine sF (fun h=>?_);obtain ⟨g1,g2⟩:=h.2.2.2.at hx1
  first | exact Qab.1 (by assumption) g1 ))
 <| fun q4=>have q4:=notF q4;have p4:=booT q4;.r 3<|.br 36 (decide ((k:Int)>0)) (fun q5=>have p5:=decT q5;.run 4 [b1=b1,rng .i64 ((k:Int)-1)] ⟨rfl,Qai (by omega) (by omega),trivial⟩<|
 .idxM s.l chnA (k-1) (m:=(k:Int)-1) (by omega) (by omega) fun x2 hx2=>
 have okx2:=oks.2.2.2.1 x2 (List.mem_of_getElem? hx2);have blx2:=okx2.2.1;.u 5 [b1]<|
 .idx k (m:=(k:Int)) (xs:=s.l.map chnA) (e:=chnA x1) rfl (map_some hx1)<|
 .r 5<|.br 52 (decide (x2.ino≥x1.ino)) (fun q6=>have p6:=decT q6;.r 1<|.f R [] (aB false) (by
  refine sF (fun h=>?_);obtain ⟨g1,g2⟩:=h.2.2.2.at hx1
  first | exact Qab.1 (by assumption) g1 | (have:=g2 _ (by omega) hx2;omega)))
 <| fun q6=>have p6:=decF q6;.run 3 [rng .i64 ((k:Int)+1)] ⟨Qai (by omega) (by omega),trivial⟩<|
 .bk L1 k (k+1) ⟨by omega,hH1.2.step hx1 ⟨Qaw.1 (by assumption),by intro d h0 hd;first | omega | (rw [hd] at hx2;obtain rfl:=Option.some.inj hx2;omega)⟩⟩ (show s.l.length-(k+1)<s.l.length-k from (by omega)) [(3,aI ((k:Int)+1))] [] ⟨sR,sO,trivial⟩ bb1)
 <| fun q5=>have p5:=decF q5;.r 16<|.run 3 [rng .i64 ((k:Int)+1)] ⟨Qai (by omega) (by omega),trivial⟩<|
 .bk L1 k (k+1) ⟨by omega,hH1.2.step hx1 ⟨Qaw.1 (by assumption),by intro d h0 hd;omega⟩⟩ (show s.l.length-(k+1)<s.l.length-k from (by omega)) [(3,aI ((k:Int)+1))] [] ⟨sR,sO,trivial⟩ bb1)
 <| fun q3=>have p3:=decF q3;.r 1<|let L2:Lp (Nat):=⟨fun a2=>⟨[(1,.ptr 1 b1 0),(5,aI (a2:Int))],[(1,.box b1 25 (stoA s))]⟩,fun a2=>s.nexts.length-a2,fun a2=>a2≤s.nexts.length∧Qa3 (Zb1 Cnt.stamp s.stamp s.nexts) s.nexts a2∧Qa3 (fun _ (c:Cnt)=>1≤c.next) s.nexts a2⟩
 .lp L2 0 ⟨Nat.zero_le _,Qa3.zero _ _,Qa3.zero _ _⟩ [(5,aI 0)] [] ⟨sR,sO,trivial⟩ bb1 fun a2 ha2=>
 (fun (k:Nat) (hH2:k≤s.nexts.length∧Qa3 (Zb1 Cnt.stamp s.stamp s.nexts) s.nexts k∧Qa3 (fun _ (c:Cnt)=>1≤c.next) s.nexts k)=>.u 4 [b1]<|
 .lm 56 s.nexts cntA<|.r 1<|.bd 57 ((k:Int)<(s.nexts.length:Int)) (fun p7=>.u 3 [b1]<|
 .idxM s.nexts cntA k (m:=(k:Int)) rfl (by omega) fun x3 hx3=>
 have okx3:=oks.2.2.2.2 x3 (List.mem_of_getElem? hx3);.r 1<|.new fun b2=>.u 1 [b2]<|
 .ord [0,1,2,3,4,5,6,7,8,9,10,11,12,13,14,15,16,17,18,19,20,21,22,23,24,25,26,27,28,29,30]<|.u 4 [b2]<|
 .bd 68 (x3.stamp<1) (fun p8=>.r 27<|.r 1<|.f R [] (aB false) (by
  refine sF (fun h=>?_);obtain ⟨g1,g2,g3⟩:=h.2.1.2.at hx3;have g4:=h.2.2.1.at hx3
  first | omega ))
 <| fun p8=>.u 7 [b2,b1]<|
 .bd 75 (x3.stamp>s.stamp) (fun p9=>.r 20<|.r 1<|.f R [] (aB false) (by
  refine sF (fun h=>?_);obtain ⟨g1,g2,g3⟩:=h.2.1.2.at hx3;have g4:=h.2.2.1.at hx3
  first | omega ))
 <| fun p9=>.u 5 [b2]<|
 .bd 80 (x3.next<1) (fun p10=>.r 15<|.r 1<|.f R [] (aB false) (by
  refine sF (fun h=>?_);obtain ⟨g1,g2,g3⟩:=h.2.1.2.at hx3;have g4:=h.2.2.1.at hx3
  first | omega ))
 <| fun p10=>.r 3<|.bd 83 ((k:Int)>0) (fun p11=>.run 4 [b1=b1,rng .i64 ((k:Int)-1)] ⟨rfl,Qai (by omega) (by omega),trivial⟩<|
 .idxM s.nexts cntA (k-1) (m:=(k:Int)-1) (by omega) (by omega) fun x4 hx4=>
 have okx4:=oks.2.2.2.2 x4 (List.mem_of_getElem? hx4);.u 7 [b2]<|
 .bd 95 (x4.stamp≥x3.stamp) (fun p12=>.r 1<|.f R [] (aB false) (by
  refine sF (fun h=>?_);obtain ⟨g1,g2,g3⟩:=h.2.1.2.at hx3;have g4:=h.2.2.1.at hx3
  first | omega | (have:=g3 _ (by omega) hx4;omega)))
 <| fun p12=>.run 3 [rng .i64 ((k:Int)+1)] ⟨Qai (by omega) (by omega),trivial⟩<|
 .bk L2 k (k+1) ⟨by omega,hH2.2.1.step hx3 ⟨by omega,by omega,by intro d h0 hd;first | omega | (rw [hd] at hx4;obtain rfl:=Option.some.inj hx4;omega)⟩,hH2.2.2.step hx3 (by show 1≤x3.next;omega)⟩ (show s.nexts.length-(k+1)<s.nexts.length-k from (by omega)) [(5,aI ((k:Int)+1))] [] ⟨sR,sO,trivial⟩ bb1)
 <| fun p11=>.r 12<|.run 3 [rng .i64 ((k:Int)+1)] ⟨Qai (by omega) (by omega),trivial⟩<|
 .bk L2 k (k+1) ⟨by omega,hH2.2.1.step hx3 ⟨by omega,by omega,by intro d h0 hd;omega⟩,hH2.2.2.step hx3 (by show 1≤x3.next;omega)⟩ (show s.nexts.length-(k+1)<s.nexts.length-k from (by omega)) [(5,aI ((k:Int)+1))] [] ⟨sR,sO,trivial⟩ bb1)
 <| fun p7=>.r 1<|.f R [] (aB true) (by exact sT ⟨by omega,⟨by omega,hH2.2.1.full (by omega)⟩,hH2.2.2.full (by omega),hH1.2.full (by omega)⟩)) a2 ha2) a1 ha1)
theorem Qso (l:List Ver) (st:Int) (hl:l.length≤8796093022207):Qah prog 93 [.sl 7 false (l.map verA),.val (.func (.func 154) #[] #[]),aI st] (aI ((cutV Ver.stamp st l:Int)-1)):=by
 exact Qac func93 (
 .r 1<|.r 2<|.lm 9 l verA<|.run 2 [rng .i64 ((l.length:Int)-1)] ⟨Qai (by omega) (by omega),trivial⟩<|
 let L1:Lp (Nat):=⟨fun a1=>⟨[(0,.sl 7 false (l.map verA)),(1,.val (.func (.func 154) #[] #[])),(2,aI st),(7,aI ((a1:Int)-1))],[]⟩,fun a1=>a1,fun a1=>a1≤l.length∧∀ j y,a1≤j→l[j]?=some y→st<Ver.stamp y⟩
 .lp L1 l.length (show l.length≤l.length∧∀ j y,l.length≤j→l[j]?=some y→st<Ver.stamp y from (Zh0 _ _ _)) [] [] sr4 trivial fun a1 ha1=>
 (fun (k:Nat) (hH1:k≤l.length∧∀ j y,k≤j→l[j]?=some y→st<Ver.stamp y)=>.r 3<|.bd 13 (((k:Int)-1)≥0) (fun p1=>.r 3<|.idxM l verA (k-1) (m:=(k:Int)-1) (by omega) (by omega) fun x1 hx1=>
 .r 1<|.call (Zho x1)<|
 .r 3<|.bd 22 (x1.stamp>st) (fun p2=>.run 3 [rng .i64 (((k:Int)-1)-1)] ⟨Qai (by omega) (by omega),trivial⟩<|
 .bk L1 k (k-1) (show (k-1)≤l.length∧∀ j y,(k-1)≤j→l[j]?=some y→st<Ver.stamp y from (Zhz hx1 hH1.1 hH1.2 (by omega))) (show (k-1)<k from (by omega)) [(7,aI (((k:Int)-1)-1))] [] ⟨sR,sR,sR,sO,trivial⟩ trivial)
 <| fun p2=>.r 2<|.f (aI ((cutV Ver.stamp st l:Int)-1)) [] (aI ((k:Int)-1)) (by exact Sub.of_eq (by rw [Qgn Ver.stamp st l k hH1.1 hH1.2 (.inr ⟨x1,hx1,by omega⟩)])))
 <| fun p1=>.r 9<|.r 2<|.f (aI ((cutV Ver.stamp st l:Int)-1)) [] (aI ((k:Int)-1)) (by exact Sub.of_eq (by rw [Qgn Ver.stamp st l k hH1.1 hH1.2 (.inl (by omega))]))) a1 ha1)
theorem Qoi (l:List Cnt) (st:Int) (hl:l.length≤8796093022207):Qah prog 94 [.sl 2 false (l.map cntA),.val (.func (.func 155) #[] #[]),aI st] (aI ((cutV Cnt.stamp st l:Int)-1)):=by
 exact Qac func94 (
 .r 1<|.r 2<|.lm 9 l cntA<|.run 2 [rng .i64 ((l.length:Int)-1)] ⟨Qai (by omega) (by omega),trivial⟩<|
 let L1:Lp (Nat):=⟨fun a1=>⟨[(0,.sl 2 false (l.map cntA)),(1,.val (.func (.func 155) #[] #[])),(2,aI st),(7,aI ((a1:Int)-1))],[]⟩,fun a1=>a1,fun a1=>a1≤l.length∧∀ j y,a1≤j→l[j]?=some y→st<Cnt.stamp y⟩
 .lp L1 l.length (show l.length≤l.length∧∀ j y,l.length≤j→l[j]?=some y→st<Cnt.stamp y from (Zh0 _ _ _)) [] [] sr4 trivial fun a1 ha1=>
 (fun (k:Nat) (hH1:k≤l.length∧∀ j y,k≤j→l[j]?=some y→st<Cnt.stamp y)=>.r 3<|.bd 13 (((k:Int)-1)≥0) (fun p1=>.r 3<|.idxM l cntA (k-1) (m:=(k:Int)-1) (by omega) (by omega) fun x1 hx1=>
 .r 1<|.call (Zhn x1)<|
 .r 3<|.bd 22 (x1.stamp>st) (fun p2=>.run 3 [rng .i64 (((k:Int)-1)-1)] ⟨Qai (by omega) (by omega),trivial⟩<|
 .bk L1 k (k-1) (show (k-1)≤l.length∧∀ j y,(k-1)≤j→l[j]?=some y→st<Cnt.stamp y from (Zhz hx1 hH1.1 hH1.2 (by omega))) (show (k-1)<k from (by omega)) [(7,aI (((k:Int)-1)-1))] [] ⟨sR,sR,sR,sO,trivial⟩ trivial)
 <| fun p2=>.r 2<|.f (aI ((cutV Cnt.stamp st l:Int)-1)) [] (aI ((k:Int)-1)) (by exact Sub.of_eq (by rw [Qgn Cnt.stamp st l k hH1.1 hH1.2 (.inr ⟨x1,hx1,by omega⟩)])))
 <| fun p1=>.r 9<|.r 2<|.f (aI ((cutV Cnt.stamp st l:Int)-1)) [] (aI ((k:Int)-1)) (by exact Sub.of_eq (by rw [Qgn Cnt.stamp st l k hH1.1 hH1.2 (.inl (by omega))]))) a1 ha1)
theorem Qzq (c:Chn) (st:Int) (hl:c.l.length≤8796093022207):Qah prog 64 [.agg [aI c.ino,.sl 7 false (c.l.map verA)],aI st] (aI ((cutV Ver.stamp st c.l:Int)-1)):=by
 exact Qac func64 (
 .new fun b1=>.r 1<|.u 3 [b1]<|
 .lm 8 c.l verA<|.run 2 [rng .i64 ((c.l.length:Int)-1)] ⟨Qai (by omega) (by omega),trivial⟩<|
 let L1:Lp (Nat):=⟨fun a1=>⟨[(1,aI st),(2,.ptr 2 b1 0),(5,aI ((a1:Int)-1))],[(2,.box b1 98 [aI c.ino,.sl 7 false (c.l.map verA)])]⟩,fun a1=>a1,fun a1=>a1≤c.l.length∧∀ j y,a1≤j→c.l[j]?=some y→st<Ver.stamp y⟩
 .lp L1 c.l.length (show c.l.length≤c.l.length∧∀ j y,c.l.length≤j→c.l[j]?=some y→st<Ver.stamp y from (Zh0 _ _ _)) [] [] sr3 bb1 fun a1 ha1=>
 (fun (k:Nat) (hH1:k≤c.l.length∧∀ j y,k≤j→c.l[j]?=some y→st<Ver.stamp y)=>.r 3<|.bd 12 (((k:Int)-1)≥0) (fun p1=>.u 3 [b1]<|
 .idxM c.l verA (k-1) (m:=(k:Int)-1) (by omega) (by omega) fun x1 hx1=>
 .r 5<|.bd 21 (x1.stamp>st) (fun p2=>.run 3 [rng .i64 (((k:Int)-1)-1)] ⟨Qai (by omega) (by omega),trivial⟩<|
 .bk L1 k (k-1) (show (k-1)≤c.l.length∧∀ j y,(k-1)≤j→c.l[j]?=some y→st<Ver.stamp y from (Zhz hx1 hH1.1 hH1.2 (by omega))) (show (k-1)<k from (by omega)) [(5,aI (((k:Int)-1)-1))] [] ⟨sR,sR,sO,trivial⟩ bb1)
 <| fun p2=>.r 2<|.f (aI ((cutV Ver.stamp st c.l:Int)-1)) [] (aI ((k:Int)-1)) (by exact Sub.of_eq (by rw [Qgn Ver.stamp st c.l k hH1.1 hH1.2 (.inr ⟨x1,hx1,by omega⟩)])))
 <| fun p1=>.r 9<|.r 2<|.f (aI ((cutV Ver.stamp st c.l:Int)-1)) [] (aI ((k:Int)-1)) (by exact Sub.of_eq (by rw [Qgn Ver.stamp st c.l k hH1.1 hH1.2 (.inl (by omega))]))) a1 ha1)
theorem Qzs (s:Sto) (st:Int) (hl:s.nexts.length≤8796093022207):Qah prog 65 [.agg (stoA s),aI st] (aI ((cutV Cnt.stamp st s.nexts:Int)-1)):=by
 exact Qac func65 (
 .new fun b1=>.r 1<|.u 3 [b1]<|
 .lm 8 s.nexts cntA<|.run 2 [rng .i64 ((s.nexts.length:Int)-1)] ⟨Qai (by omega) (by omega),trivial⟩<|
 let L1:Lp (Nat):=⟨fun a1=>⟨[(1,aI st),(2,.ptr 2 b1 0),(5,aI ((a1:Int)-1))],[(2,.box b1 25 (stoA s))]⟩,fun a1=>a1,fun a1=>a1≤s.nexts.length∧∀ j y,a1≤j→s.nexts[j]?=some y→st<Cnt.stamp y⟩
 .lp L1 s.nexts.length (show s.nexts.length≤s.nexts.length∧∀ j y,s.nexts.length≤j→s.nexts[j]?=some y→st<Cnt.stamp y from (Zh0 _ _ _)) [] [] sr3 bb1 fun a1 ha1=>
 (fun (k:Nat) (hH1:k≤s.nexts.length∧∀ j y,k≤j→s.nexts[j]?=some y→st<Cnt.stamp y)=>.r 3<|.bd 12 (((k:Int)-1)≥0) (fun p1=>.u 3 [b1]<|
 .idxM s.nexts cntA (k-1) (m:=(k:Int)-1) (by omega) (by omega) fun x1 hx1=>
 .r 5<|.bd 21 (x1.stamp>st) (fun p2=>.run 3 [rng .i64 (((k:Int)-1)-1)] ⟨Qai (by omega) (by omega),trivial⟩<|
 .bk L1 k (k-1) (show (k-1)≤s.nexts.length∧∀ j y,(k-1)≤j→s.nexts[j]?=some y→st<Cnt.stamp y from (Zhz hx1 hH1.1 hH1.2 (by omega))) (show (k-1)<k from (by omega)) [(5,aI (((k:Int)-1)-1))] [] ⟨sR,sR,sO,trivial⟩ bb1)
 <| fun p2=>.r 2<|.f (aI ((cutV Cnt.stamp st s.nexts:Int)-1)) [] (aI ((k:Int)-1)) (by exact Sub.of_eq (by rw [Qgn Cnt.stamp st s.nexts k hH1.1 hH1.2 (.inr ⟨x1,hx1,by omega⟩)])))
 <| fun p1=>.r 9<|.r 2<|.f (aI ((cutV Cnt.stamp st s.nexts:Int)-1)) [] (aI ((k:Int)-1)) (by exact Sub.of_eq (by rw [Qgn Cnt.stamp st s.nexts k hH1.1 hH1.2 (.inl (by omega))]))) a1 ha1)
end Go.Proofs.YtahlldgocpabjaaGreat
