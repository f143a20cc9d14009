import Derived.Test.YtkhodpknpligpaaGreatAl
import Derived.Test.YtkhodpknpligpaaGreatMrgU
import Derived.Test.YtkhodpknpligpaaGreatMrgJ
import Derived.Test.YtkhodpknpligpaaGreatMrgH
import Derived.Test.YtkhodpknpligpaaGreatMrgT
import Derived.Test.YtkhodpknpligpaaGreatMrgS
set_option maxRecDepth 100000
set_option maxHeartbeats 8000000
set_option linter.unusedVariables false
set_option linter.unusedSimpArgs false
namespace Go.Proofs.YtkhodpknpligpaaGreat
open Go Go.RowKit Copyhold Go.Proofs.Tryz
theorem Qsx (a b:List Nod) (h:a.length+b.length≤100000):Qag prog 218 [.sl 1 false ([a.map nodA,b.map nodA].map pc5)] (.sl 5 false ((a++b).map nodA)):=by
 have:=Qf3 [a.map nodA,b.map nodA] (by simp) (by simp;omega);rw [W1r];simpa using this
theorem Qsl (f g:Fsy) (h:f.l.length+g.l.length≤100000):Qag prog 219 [.sl 1 false (((f.l++g.l).map Nod.ino).map intA)] (.sl 1 false ((Qct f g).map intA)):=by
 rw [← Zju];exact Qsm _ (by simp;omega)
theorem Qp1 (f g:Fsy) (okf:OkF f) (okg:OkF g) (hf:f.l.length≤1000) (hg:g.l.length≤1000) (hr:Qbm f.l) (hrg:Qbm g.l):Qag prog 172 [.agg (fsyA f),.agg (fsyA g)] (.sl 7 false ((Qbi f g).map chgA)):=by
 have hal:(Qct f g).length≤f.l.length+g.l.length:=by have h1:=Qli [] f.l;have h2:=Qli (Qnz [] f.l) g.l;unfold Qct;simp at h1;omega
 exact Qac func172 (
 .new fun b1=>.new fun b2=>.r 1<|.r 1<|.rowNil 5 5 3 1<|.u 5 [b1,b2]<|
 .cs (args0:=[.sl 1 true ([[.sl 5 false (f.l.map nodA)],[.sl 5 false (g.l.map nodA)]])]) (Qsx f.l g.l (by omega)) ⟨pcs2 _ _,trivial⟩<|
 .r 1<|.lm 21 (f.l++g.l) nodA<|.r 1<|let L1:Lp (Nat × Value):=⟨fun a1=>⟨[(2,.ptr 2 b1 0),(3,.ptr 3 b2 0),(22,aI (a1.1:Int)),(5,.rw 5 a1.2 ((((f.l++g.l).take a1.1).map Nod.ino).length)),(20,.sl 5 false ((f.l++g.l).map nodA)),(21,aI ((f.l++g.l).length:Int))],[(2,.box b1 38 (fsyA f)),(3,.box b2 38 (fsyA g)),(5,.row a1.2 3 1 ((((f.l++g.l).take a1.1).map Nod.ino).map intA))]⟩,fun a1=>(f.l++g.l).length-a1.1,fun a1=>a1.1≤(f.l++g.l).length⟩
 .lp L1 (0,.slice none 0 0) (show 0≤(f.l++g.l).length from W0j _) [(22,aI 0),(5,.rw 5 (.slice none 0 0) 0)] [(5,.row (.slice none 0 0) 3 1 ([]))] ⟨sR,sR,sO,sR,sR,sR,trivial⟩ bb3 fun a1 ha1=>
 (fun (k:Nat) (V:Value) (hH1:k≤(f.l++g.l).length)=>have hfg:(f.l++g.l).length=f.l.length+g.l.length:=W0e;.r 1<|.bd 23 ((k:Int)<((f.l++g.l).length:Int)) (fun p1=>.idxM (f.l++g.l) nodA k (m:=(k:Int)) rfl (by omega) fun x1 hx1=>
 .r 1<|.new fun b3=>.u 1 [b3]<|
 .u 4 [b3]<|
 .app 8 V ((((f.l++g.l).take k).map Nod.ino).map intA) ([[aI x1.ino]]) (by first | (have:=Qg0 f g m;simp only [W0a,W0b,W0f];omega) | (simp only [W0a,W0b,W0f,W0g,W0e];omega)) (by first | (have:=Qg0 f g m;simp only [W0a,W0b,W0f];omega) | (simp only [W0a,W0b,W0f,W0g,W0e];omega)) fun V1=>
 .r 1<|.run 2 [rng .i64 ((k:Int)+1)] ⟨Qal,trivial⟩<|
 .bk L1 (k,V) ((k+1),V1) (show (k+1)≤(f.l++g.l).length from (by show _≤_;omega)) (show (f.l++g.l).length-(k+1)<(f.l++g.l).length-k from (by omega)) [(22,aI ((k:Int)+1)),(5,.rw 5 V1 (((((f.l++g.l).take k).map Nod.ino).map intA).length+([[aI x1.ino]]:List (List AV)).length))] [(5,.row V1 3 1 (((((f.l++g.l).take k).map Nod.ino).map intA)++([[aI x1.ino]])))] ⟨sR,sR,sO,W2n (W1y (AV.rw 5 V1) (by rw [Qaq hx1];simp)),sR,sR,trivial⟩ ⟨sB,sB,⟨_,rfl,W2o (by rw [Qaq hx1];simp [intA])⟩,trivial⟩)
 <| fun p1=>.r 1<|.frz 5 [2,3,5,8,23] [2,3] [V=V,(((f.l++g.l).take k).map Nod.ino).length=((((f.l++g.l).take k).map Nod.ino).map intA).length] ⟨rfl,(by first | rfl | (simp;done) | (simp;omega)),trivial⟩<|
 .rowNil 8 8 114 7<|.r 1<|.cs (args0:=[.sl 1 false ((((f.l++g.l).take k).map Nod.ino).map intA)]) (Qsl f g (by omega)) ⟨W2n (by rw [Qap (by omega)]),trivial⟩<|
 .r 1<|.lm 34 (Qct f g) intA<|.r 1<|let L2:Lp (Nat × Value):=⟨fun a2=>⟨[(2,.ptr 2 b1 0),(3,.ptr 3 b2 0),(34,aI ((Qct f g).length:Int)),(35,aI (a2.1:Int)),(8,.rw 8 a2.2 ((chgL f g a2.1).length)),(33,.sl 1 false ((Qct f g).map intA))],[(2,.box b1 38 (fsyA f)),(3,.box b2 38 (fsyA g)),(8,.row a2.2 114 7 ((chgL f g a2.1).map chgR))]⟩,fun a2=>(Qct f g).length-a2.1,fun a2=>a2.1≤(Qct f g).length⟩
 .lp L2 (0,.slice none 0 0) (show 0≤(Qct f g).length from W0j _) [(35,aI 0),(8,.rw 8 (.slice none 0 0) 0)] [(8,.row (.slice none 0 0) 114 7 ([]))] ⟨sR,sR,sR,sO,sR,sR,trivial⟩ bb3 fun a2 ha2=>
 (fun (m:Nat) (V:Value) (hH2:m≤(Qct f g).length)=>.r 1<|.bd 36 ((m:Int)<((Qct f g).length:Int)) (fun p2=>.idxM (Qct f g) intA m (m:=(m:Int)) rfl (by omega) fun x2 hx2=>
 .r 2<|.u 2 [b1]<|
 .call (Qce f x2 (by omega) hr)<|
 .r 3<|.new fun b4=>.u 2 [b4]<|
 .u 2 [b2]<|
 .call (Qce g x2 (by omega) hrg)<|
 .r 3<|.new fun b5=>.u 2 [b5]<|
 .r 3<|.br 51 (!(Qav g x2)) (fun q3=>have q3:=notT q3;have p3:=booF q3;.r 4<|.app 80 V ((chgL f g m).map chgR) ([[aI x2,aB true,aI 0,aI 0,aI 0,aS ([]),aN]]) (by first | (have:=Qg0 f g m;simp only [W0a,W0b,W0f];omega) | (simp only [W0a,W0b,W0f,W0g,W0e];omega)) (by first | (have:=Qg0 f g m;simp only [W0a,W0b,W0f];omega) | (simp only [W0a,W0b,W0f,W0g,W0e];omega)) fun V2=>
 .r 1<|.run 2 [rng .i64 ((m:Int)+1)] ⟨Qal,trivial⟩<|
 .bk L2 (m,V) ((m+1),V2) (show (m+1)≤(Qct f g).length from (by show _≤_;omega)) (show (Qct f g).length-(m+1)<(Qct f g).length-m from (by omega)) [(35,aI ((m:Int)+1)),(8,.rw 8 V2 (((chgL f g m).map chgR).length+([[aI x2,aB true,aI 0,aI 0,aI 0,aS ([]),aN]]:List (List AV)).length))] [(8,.row V2 114 7 (((chgL f g m).map chgR)++([[aI x2,aB true,aI 0,aI 0,aI 0,aS ([]),aN]])))] ⟨sR,sR,sR,sO,W2n (W1y (AV.rw 8 V2) (by rw [Qhs hx2 (show chgD f g x2=some ⟨x2,true,nod0⟩ from by unfold chgD;rw [W1x q3])];simp)),sR,trivial⟩ ⟨sB,sB,⟨_,rfl,W2o (by rw [Qhs hx2 (show chgD f g x2=some ⟨x2,true,nod0⟩ from by unfold chgD;rw [W1x q3])];simp [chgR,nod0])⟩,trivial⟩)
 <| fun q3=>have q3:=notF q3;have p3:=booT q3;.r 3<|.br 62 (!(Qav f x2)) (fun q4=>have q4:=notT q4;have p4:=booF q4;.r 6<|.u 5 [b5]<|
 .app 80 V ((chgL f g m).map chgR) ([[aI x2,aB false,aI ((Qab g x2).ino),aI ((Qab g x2).kind),aI ((Qab g x2).links),aS ((Qab g x2).text),.sl 2 false ((Qab g x2).l.map entA)]]) (by first | (have:=Qg0 f g m;simp only [W0a,W0b,W0f];omega) | (simp only [W0a,W0b,W0f,W0g,W0e];omega)) (by first | (have:=Qg0 f g m;simp only [W0a,W0b,W0f];omega) | (simp only [W0a,W0b,W0f,W0g,W0e];omega)) fun V3=>
 .r 1<|.run 2 [rng .i64 ((m:Int)+1)] ⟨Qal,trivial⟩<|
 .bk L2 (m,V) ((m+1),V3) (show (m+1)≤(Qct f g).length from (by show _≤_;omega)) (show (Qct f g).length-(m+1)<(Qct f g).length-m from (by omega)) [(35,aI ((m:Int)+1)),(8,.rw 8 V3 (((chgL f g m).map chgR).length+([[aI x2,aB false,aI ((Qab g x2).ino),aI ((Qab g x2).kind),aI ((Qab g x2).links),aS ((Qab g x2).text),.sl 2 false ((Qab g x2).l.map entA)]]:List (List AV)).length))] [(8,.row V3 114 7 (((chgL f g m).map chgR)++([[aI x2,aB false,aI ((Qab g x2).ino),aI ((Qab g x2).kind),aI ((Qab g x2).links),aS ((Qab g x2).text),.sl 2 false ((Qab g x2).l.map entA)]])))] ⟨sR,sR,sR,sO,W2n (W1y (AV.rw 8 V3) (by rw [Qhs hx2 (show chgD f g x2=some ⟨x2,false,Qab g x2⟩ from by unfold chgD;rw [W1w (by simp [q3]),W1x (.inl q4)])];simp)),sR,trivial⟩ ⟨sB,sB,⟨_,rfl,W2o (by rw [Qhs hx2 (show chgD f g x2=some ⟨x2,false,Qab g x2⟩ from by unfold chgD;rw [W1w (by simp [q3]),W1x (.inl q4)])];simp [chgR])⟩,trivial⟩)
 <| fun q4=>have q4:=notF q4;have p4:=booT q4;.u 2 [b4,b5]<|
 .call (Qok (Qab f x2) (Qab g x2) (Qf0 okf _) (Qf0 okg _))<|
 .r 3<|.br 59 (!(dP ((Qab f x2)=(Qab g x2)))) (fun q5=>have q5:=notT q5;have p5:=booF q5;.u 5 [b5]<|
 .app 80 V ((chgL f g m).map chgR) ([[aI x2,aB false,aI ((Qab g x2).ino),aI ((Qab g x2).kind),aI ((Qab g x2).links),aS ((Qab g x2).text),.sl 2 false ((Qab g x2).l.map entA)]]) (by first | (have:=Qg0 f g m;simp only [W0a,W0b,W0f];omega) | (simp only [W0a,W0b,W0f,W0g,W0e];omega)) (by first | (have:=Qg0 f g m;simp only [W0a,W0b,W0f];omega) | (simp only [W0a,W0b,W0f,W0g,W0e];omega)) fun V4=>
 .r 1<|.run 2 [rng .i64 ((m:Int)+1)] ⟨Qal,trivial⟩<|
 .bk L2 (m,V) ((m+1),V4) (show (m+1)≤(Qct f g).length from (by show _≤_;omega)) (show (Qct f g).length-(m+1)<(Qct f g).length-m from (by omega)) [(35,aI ((m:Int)+1)),(8,.rw 8 V4 (((chgL f g m).map chgR).length+([[aI x2,aB false,aI ((Qab g x2).ino),aI ((Qab g x2).kind),aI ((Qab g x2).links),aS ((Qab g x2).text),.sl 2 false ((Qab g x2).l.map entA)]]:List (List AV)).length))] [(8,.row V4 114 7 (((chgL f g m).map chgR)++([[aI x2,aB false,aI ((Qab g x2).ino),aI ((Qab g x2).kind),aI ((Qab g x2).links),aS ((Qab g x2).text),.sl 2 false ((Qab g x2).l.map entA)]])))] ⟨sR,sR,sR,sO,W2n (W1y (AV.rw 8 V4) (by rw [Qhs hx2 (show chgD f g x2=some ⟨x2,false,Qab g x2⟩ from by unfold chgD;rw [W1w (by simp [q3]),W1x (.inr (Qaa.1 q5))])];simp)),sR,trivial⟩ ⟨sB,sB,⟨_,rfl,W2o (by rw [Qhs hx2 (show chgD f g x2=some ⟨x2,false,Qab g x2⟩ from by unfold chgD;rw [W1w (by simp [q3]),W1x (.inr (Qaa.1 q5))])];simp [chgR])⟩,trivial⟩)
 <| fun q5=>have q5:=notF q5;have p5:=booT q5;.run 2 [rng .i64 ((m:Int)+1)] ⟨Qal,trivial⟩<|
 .bk L2 (m,V) ((m+1),V) (show (m+1)≤(Qct f g).length from (by show _≤_;omega)) (show (Qct f g).length-(m+1)<(Qct f g).length-m from (by omega)) [(35,aI ((m:Int)+1)),(8,.rw 8 V ((chgL f g m).length))] [(8,.row V 114 7 ((chgL f g m).map chgR))] ⟨sR,sR,sR,sO,W2n (W1y (AV.rw 8 V) (by rw [Zfg hx2 (show chgD f g x2=none from by unfold chgD;rw [W1w (by simp [q3]),W1w (fun h=>h.elim (fun h=>by rw [q4] at h;cases h) (fun h=>h (Qaf.1 q5)))])])),sR,trivial⟩ ⟨sB,sB,⟨_,rfl,W2o (by rw [Zfg hx2 (show chgD f g x2=none from by unfold chgD;rw [W1w (by simp [q3]),W1w (fun h=>h.elim (fun h=>by rw [q4] at h;cases h) (fun h=>h (Qaf.1 q5)))])])⟩,trivial⟩)
 <| fun p2=>.r 2<|.frz 8 [4] [] [V=V,(chgL f g m).length=((chgL f g m).map chgR).length] ⟨rfl,(by first | rfl | (simp;done) | (simp;omega)),trivial⟩<|
 .f (.sl 7 false ((Qbi f g).map chgA)) [] (.sl 7 false ((chgL f g m).map chgR)) (by
  rw [Zje (by omega)];exact Zna Qs2)) a2.1 a2.2 ha2) a1.1 a1.2 ha1)
end Go.Proofs.YtkhodpknpligpaaGreat

namespace Go.Proofs.YtkhodpknpligpaaGreat
open Go Go.RowKit Copyhold Go.Proofs.Tryz
open Copyhold.Name (Srt insE delE getE isAt)
theorem i0:I64 0:=⟨by decide,by decide⟩
theorem Qw9 {k:Int} (h:0≤k) (h2:k≤1000000):I64 k:=⟨by omega,by omega⟩
def cA:Cal:=⟨6,1,0,0,0,[97],[],[]⟩
theorem Znd:OkCal cA:=⟨Qw9 (by decide) (by decide),Qw9 (by decide) (by decide),i0,i0,i0,by show 1≤_;omega,W0j _,W0j _⟩
noncomputable def fA:Fsy:=addF newF 1 [97] (addN newF Qk3)
theorem doA1:doF newF cA=(fA,⟨0,2,0,0,[],[]⟩):=by
 refine Zei (x:=(fA,⟨0,2,0,0,[],[]⟩)) ?_ rfl;rw [Qxt rfl];show addO newF cA Qk3=_;unfold addO;show ((if Qbq newF 1 [97] Qk3=0 then _ else _),(⟨Qbq newF 1 [97] Qk3,_,_,_,_,_⟩:Rep))=_;rw [Qkg,W1x rfl];rfl
theorem Qf1:Qat fA∧OkF fA∧fA.next=3∧(∃ d,atF fA 1=some d∧d.kind=2∧d.l=[⟨[97],2⟩])∧(fA.l.length:Int)=2:=by
 have hb:=Qpa Qex Qkg;have ho:=Zk0 (n:=Qk3) (s:=[97]) Qul Qex Zim (by decide) Qkg (by decide);refine ⟨hb.1,ho,?_,?_,?_⟩
 ·obtain ⟨d,A⟩:=Qq1 Qkg;have hr:=Qah Qex;have hroot:atF newF 1=some Qh5:=rfl;unfold fA addF;rw [show (addN newF Qk3).ino=2 from rfl,Qdq hroot];rw [Qmd]
  ·rw [show (setL newF Qh5 (entL Qh5.l [97] 2)).next=2 from Qlf (by decide)];rfl
  ·rw [show (setL newF Qh5 (entL Qh5.l [97] 2)).next=2 from Qlf (by decide)];rfl
 ·have hroot:atF newF 1=some Qh5:=rfl;have he:entE Qh5.l [97] 2=0:=Qdg Zm9 (by decide) rfl (by decide);have hl:entL Qh5.l [97] 2=[⟨[97],2⟩]:=by unfold entL;rw [W1x he];rfl
  have hk:rowP Qh5.l:=Qb3;obtain ⟨s1,s2,s3,s4⟩:=Qew Qex hroot rfl (Qqo (n:=2) hk Zm9 (by decide) rfl (by decide));refine ⟨Qbj Qh5 (entL Qh5.l [97] 2),?_,rfl,hl⟩;unfold fA addF;rw [show (addN newF Qk3).ino=2 from rfl,Qdq hroot,Qnr (Qah s1),W1w (by decide),s4,W1x rfl]
 ·have:=Znk;rw [W1x Qkg] at this;exact this
end Go.Proofs.YtkhodpknpligpaaGreat

namespace Go.Proofs.YtkhodpknpligpaaGreat
open Go Go.RowKit Copyhold Go.Proofs.Tryz
theorem Qos (f:Fsy) (c:Cal):(Qby f c).length≤6:=by
 unfold Qby
 split
 ·simp
 ·exact W09 (Qis _) (Qmo f c).2
end Go.Proofs.YtkhodpknpligpaaGreat

namespace Go.Proofs.YtkhodpknpligpaaGreat
open Go Go.RowKit Copyhold Go.Proofs.Tryz
section
variable {α:Type}
def cutV (f:α→Int) (st:Int):List α→Nat
 | []=>0
 | x :: r=>if cutV f st r=0 then (if f x≤st then 1 else 0) else cutV f st r+1
theorem Qgx (f:α→Int) (st:Int):∀ l:List α,cutV f st l≤l.length
 | []=>W0m _
 | x :: r=>by
  have:=Qgx f st r;simp only [cutV,W0b]
  split
  ·split<;>omega
  ·omega
theorem Qfo (f:α→Int) (st:Int):∀ (l:List α) (k:Nat),k≤l.length→(∀ j x,k≤j→l[j]?=some x→st<f x)→(k=0∨∃ x,l[k-1]?=some x∧f x≤st)→cutV f st l=k
 | [],k,hk,_,_=>by simp at hk;subst hk;rfl
 | x :: r,0,_,ha,_=>by
  have h1:=Qfo f st r 0 (W0j _) (fun j y _ hy=>ha (j+1) y (W0j _) (by simpa using hy)) (.inl rfl);have h2:=ha 0 x (W0j _) rfl;simp only [cutV,h1,if_true];rw [W1w (by omega)]
 | x :: r,k+1,hk,ha,he=>by
  simp only [W0b] at hk;have ha':∀ j y,k≤j→r[j]?=some y→st<f y:=fun j y hj hy=>ha (j+1) y (by omega) (by simpa using hy);rcases he with he | ⟨y,hy,hle⟩
  ·omega
  ·cases k with
   | zero=>
    have h1:=Qfo f st r 0 (W0j _) ha' (.inl rfl);simp at hy;subst hy;simp only [cutV,h1,if_true,W1x hle]
   | succ k=>
    have h1:=Qfo f st r (k+1) (by omega) ha' (.inr ⟨y,by simpa using hy,hle⟩);simp only [cutV,h1];rfl
theorem Zg6 (f:α→Int) (st:Int) (l:List α):l.length≤l.length∧∀ j y,l.length≤j→l[j]?=some y→st<f y:=⟨W0m _,fun j y hj hy=>by have:=Qan hy;omega⟩
theorem Zg5 {f:α→Int} {st:Int} {l:List α} {k:Nat} {x:α} (hx:l[k-1]?=some x) (hk:k≤l.length) (h:∀ j y,k≤j→l[j]?=some y→st<f y) (hg:st<f x):k-1≤l.length∧∀ j y,k-1≤j→l[j]?=some y→st<f y:=
 ⟨by omega,fun j y hj hy=>by
  by_cases e:j=k-1
  ·subst e;rw [hx] at hy;obtain rfl:=W0c hy;exact hg
  ·exact h j y (by omega) hy⟩
def atD (f:α→Int) (st:Int) (l:List α):Option α:=if cutV f st l=0 then none else l[cutV f st l-1]?
def Za6 (f:α→Int) (most:Int) (l:List α) (i:Nat) (x:α):Prop:=1≤f x∧f x≤most∧∀ d,0<i→l[i-1]?=some d→f d<f x
def Qnw (f:α→Int) (most:Int) (l:List α):Prop:=1≤l.length∧AllQ (Za6 f most l) l
def Qq3 (f:α→Int) (l:List α) (k:Nat) (last:Int):Prop:=(k=0∧last=0)∨∃ d,0<k∧l[k-1]?=some d∧last=f d∧1≤last
theorem Qq3.pos {f:α→Int} {l:List α} {k:Nat} {last:Int} (h:Qq3 f l k last):0≤last:=by
 rcases h with ⟨_,h⟩ | ⟨d,_,_,_,h⟩<;>omega
theorem Qq3.step {f:α→Int} {l:List α} {k:Nat} {last:Int} {x:α} (h:Qq3 f l k last) (hx:l[k]?=some x) (hgt:¬ f x≤last):Qq3 f l (k+1) (f x):=
 .inr ⟨x,by omega,by simpa using hx,rfl,by have:=h.pos;omega⟩
theorem Qq3.lt {f:α→Int} {l:List α} {k:Nat} {last:Int} (h:Qq3 f l k last) {v:Int} (hgt:¬ v≤last):1≤v∧∀ d,0<k→l[k-1]?=some d→f d<v:=by
 refine ⟨by have:=h.pos;omega,fun d h0 hd=>?_⟩;rcases h with ⟨h,_⟩ | ⟨e,_,he,h1,_⟩
 ·omega
 ·rw [hd] at he;obtain rfl:=W0c he;omega
theorem Qq3.not {f:α→Int} {l:List α} {k:Nat} {last:Int} (h:Qq3 f l k last) {v:Int} (hle:v≤last):¬ (1≤v∧∀ d,0<k→l[k-1]?=some d→f d<v):=by
 rintro ⟨h1,h2⟩;rcases h with ⟨_,h⟩ | ⟨e,h0,he,h3,_⟩
 ·omega
 ·have:=h2 e h0 he;omega
end
def verP (ino:Int) (v:Ver):Prop:=(v.gone=true→v.n=nod0)∧(v.gone=false→nodP v.n∧v.n.ino=ino)
def Qo8 (most:Int) (c:Chn):Prop:=1≤c.ino∧Qnw Ver.stamp most c.l∧AllQ (fun _ v=>verP c.ino v) c.l
def Zm8 (s:Sto) (i:Nat) (c:Chn):Prop:=Qo8 s.stamp c∧∀ d,0<i→s.l[i-1]?=some d→d.ino<c.ino
def Qcc (s:Sto):Prop:=1≤s.stamp∧Qnw Cnt.stamp s.stamp s.nexts∧AllQ (fun _ (c:Cnt)=>1≤c.next) s.nexts∧AllQ (Zm8 s) s.l
def Qbu (st:Int) (c:Chn):Option Nod:=match atD Ver.stamp st c.l with
 | some v=>if v.gone then none else some v.n
 | none=>none
def Qi6 (s:Sto) (st:Int):Int:=match atD Cnt.stamp st s.nexts with
 | some c=>c.next
 | none=>1
def Qcl (s:Sto) (st:Int):Fsy:=⟨s.l.filterMap (Qbu st),Qi6 s st⟩
theorem Qej {st:Int} {c:Chn} {v:Ver} (h0:¬ cutV Ver.stamp st c.l=0) (hv:c.l[cutV Ver.stamp st c.l-1]?=some v):Qbu st c=if v.gone then none else some v.n:=by
 unfold Qbu atD;rw [W1w h0,hv]
theorem Qg8 {st:Int} {c:Chn} (h0:cutV Ver.stamp st c.l=0):Qbu st c=none:=by
 unfold Qbu atD;rw [W1x h0]
theorem Qwu {s:Sto} {st:Int} {c:Cnt} (h0:¬ cutV Cnt.stamp st s.nexts=0) (hc:s.nexts[cutV Cnt.stamp st s.nexts-1]?=some c):Qi6 s st=c.next:=by
 unfold Qi6 atD;rw [W1w h0,hc]
theorem Qom {s:Sto} {st:Int} (h0:cutV Cnt.stamp st s.nexts=0):Qi6 s st=1:=by
 unfold Qi6 atD;rw [W1x h0]
def Qcm (s:Sto) (st:Int) (k:Nat):List Nod:=(s.l.take k).filterMap (Qbu st)
theorem Qiu {s:Sto} {st:Int} {k:Nat} {c:Chn} {n:Nod} (hc:s.l[k]?=some c) (h:Qbu st c=some n):Qcm s st (k+1)=Qcm s st k++[n]:=by
 unfold Qcm;rw [Qaq hc,List.filterMap_append];simp [h]
theorem Qe2 {s:Sto} {st:Int} {k:Nat} {c:Chn} (hc:s.l[k]?=some c) (h:Qbu st c=none):Qcm s st (k+1)=Qcm s st k:=by
 unfold Qcm;rw [Qaq hc,List.filterMap_append];simp [h]
theorem Qla (s:Sto) (st:Int) (k:Nat):(Qcm s st k).length≤k:=by
 have:=List.length_filterMap_le (Qbu st) (s.l.take k);rw [W0g] at this;unfold Qcm;omega
theorem Qiv {s:Sto} {st:Int} {k:Nat} (h:s.l.length≤k):Qcm s st k=s.l.filterMap (Qbu st):=by unfold Qcm;rw [Qap h]
def Qkr (st:Int) (c:Chn):Bool:=c.l.any fun v=>decide (v.stamp>st)
def Qb1 (s:Sto) (st:Int) (k:Nat):List Int:=((s.l.take k).filter (Qkr st)).map Chn.ino
def Zl7 (s:Sto) (st:Int):Bool:=s.nexts.any fun c=>decide (c.stamp>st)
def Qdl (s:Sto) (st:Int):List Int:=if 1≤(Qb1 s st s.l.length).length∨Zl7 s st=true then 0 :: Qb1 s st s.l.length else []
theorem Qou {s:Sto} {st:Int} {k:Nat} {c:Chn} (hc:s.l[k]?=some c) (h:Qkr st c=true):Qb1 s st (k+1)=Qb1 s st k++[c.ino]:=by
 unfold Qb1;rw [Qaq hc,W1j,W1r];simp [h]
theorem Qsa {s:Sto} {st:Int} {k:Nat} {c:Chn} (hc:s.l[k]?=some c) (h:Qkr st c=false):Qb1 s st (k+1)=Qb1 s st k:=by
 unfold Qb1;rw [Qaq hc,W1j,W1r];simp [h]
theorem Qmu (s:Sto) (st:Int) (k:Nat):(Qb1 s st k).length≤k:=by
 have:=W2g (Qkr st) (s.l.take k);rw [W0g] at this;unfold Qb1;rw [W0a];omega
theorem Qj4 {s:Sto} {st:Int} {k:Nat} (h:s.l.length≤k):Qb1 s st k=Qb1 s st s.l.length:=by unfold Qb1;rw [Qap h,Qap (W0m _)]
section
variable {α:Type}
def idxF (p:α→Bool):List α→Int
 | []=>-1
 | x :: r=>if p x then 0 else if idxF p r<0 then -1 else idxF p r+1
theorem Qqa (p:α→Bool):∀ l:List α,decide (idxF p l≥0)=l.any p
 | []=>rfl
 | x :: r=>by
  have:=Qqa p r;simp only [idxF,List.any_cons,← this];by_cases hp:p x=true
  ·simp [hp]
  ·simp only [Bool.not_eq_true] at hp;simp only [hp,W0u,Bool.false_eq_true,if_false]
   split<;>simp<;>omega
theorem Qm2 (p:α→Bool):∀ l:List α,AllQ (fun _ x=>p x=false) l→idxF p l = -1
 | [],_=>rfl
 | x :: r,h=>by
  have h1:=h 0 x rfl;have h2:=Qm2 p r fun i e he=>h (i+1) e (by simpa using he);simp [idxF,h1,h2]
theorem Qut (p:α→Bool):∀ (l:List α) (k:Nat) (x:α),Qaz (fun _ x=>p x=false) l k→l[k]?=some x→p x=true→idxF p l=k
 | y :: r,0,x,_,hx,hp=>by
  simp at hx;subst hx;simp [idxF,hp]
 | y :: r,k+1,x,h,hx,hp=>by
  have h1:=h 0 y (by omega) rfl;have h2:=Qut p r k x (fun i e hi he=>h (i+1) e (by omega) (by simpa using he)) (by simpa using hx) hp;simp [idxF,h1,h2];omega
end
theorem Zgu (v:Ver):Qag prog 123 [.agg (verA v)] (aI v.stamp):=by
 exact Qac func123 (
 .new fun b1=>.r 1<|.u 3 [b1]<|
 .fi (aI v.stamp) [])
theorem Zgt (c:Cnt):Qag prog 124 [.agg [aI c.stamp,aI c.next]] (aI c.stamp):=by
 exact Qac func124 (
 .new fun b1=>.r 1<|.u 3 [b1]<|
 .fi (aI c.stamp) [])
theorem Qtu :Qag prog 75 [] (.tup [.val (.func (.func 123) #[] #[]),.val (.func (.func 124) #[] #[])]):=by
 exact Qac func75 (let R:AV:=.tup [.val (.func (.func 123) #[] #[]),.val (.func (.func 124) #[] #[])];
 .r 2<|.r 2<|.fi R [])
theorem Qjt {ino:Int} {v:Ver} (h1:v.gone=true→v.n=nod0) (h2:v.gone=false→nodP v.n∧v.n.ino=ino):verP ino v:=⟨h1,h2⟩
theorem Qz7 (c:Chn) (last:Int) (okc:OkC c):Qag prog 70 [.agg [aI c.ino,.sl 7 false (c.l.map verA)],aI last] (aB (dP (Qo8 last c))):=by
 have hcl:=okc.2.1;exact Qac func70 (let R:AV:=aB (dP (Qo8 last c));
 .new fun b1=>.r 1<|.u 4 [b1]<|
 .bd 12 (c.ino<1) (fun p1=>.r 5<|.r 1<|.f R [] (aB false) (by
  refine sF (fun h=>?_);obtain ⟨g1,⟨g2,_⟩,g3⟩:=h;omega))
 <| fun p1=>.u 3 [b1]<|
 .lm 15 c.l verA<|.r 2<|.bd 17 ((c.l.length:Int)<1) (fun p2=>.r 1<|.f R [] (aB false) (by
  refine sF (fun h=>?_);obtain ⟨g1,⟨g2,_⟩,g3⟩:=h;omega))
 <| fun p2=>.r 1<|let L1:Lp (Nat):=⟨fun a1=>⟨[(1,aI last),(2,.ptr 2 b1 0),(5,aI (a1:Int))],[(2,.box b1 82 [aI c.ino,.sl 7 false (c.l.map verA)])]⟩,fun a1=>c.l.length-a1,fun a1=>a1≤c.l.length∧Qaz (Za6 Ver.stamp last c.l) c.l a1∧Qaz (fun _ v=>verP c.ino v) c.l a1⟩
 .lp L1 0 ⟨W0j _,Qaz.zero _ _,Qaz.zero _ _⟩ [(5,aI 0)] [] ⟨sR,sR,sO,trivial⟩ bb1 fun a1 ha1=>
 (fun (k:Nat) (hH1:k≤c.l.length∧Qaz (Za6 Ver.stamp last c.l) c.l k∧Qaz (fun _ v=>verP c.ino v) c.l k)=>.u 4 [b1]<|
 .lm 21 c.l verA<|.r 1<|.bd 22 ((k:Int)<(c.l.length:Int)) (fun p3=>.u 3 [b1]<|
 .idxM c.l verA k (m:=(k:Int)) rfl (by omega) fun x1 hx1=>
 have okx1:=okc.2.2 x1 (W0h hx1);.r 1<|.new fun b2=>.u 1 [b2]<|
 .u 2 [b2]<|
 .call (Qko x1.n (okx1).2)<|
 .r 1<|.bb 33 (dP (nodP x1.n)) (fun p4=>.u 8 [b2,b1]<|
 .u 3 [b2]<|
 .cs (args0:=[.agg (nodA x1.n),.agg [aI 0,aI 0,aI 0,aS ([]),aN]]) (Qfu x1.n nod0 (okx1).2 Qj1) ⟨sR,W2r ⟨sR,sR,sR,sR,Sub.nil _ _,trivial⟩,trivial⟩<|
 .r 1<|.ord [0,1,2,3,4,5,6,7,8,9,10,11,12,13,14,15,16,17,18,19,20,21,22,23,24,25,26,27,28,29,30,31,32,33,34,35,36,37,38,39,40,41]<|.u 4 [b2]<|
 .bd 48 (x1.stamp<1) (fun p5=>.r 38<|.r 1<|.f R [] (aB false) (by
  refine sF (fun h=>?_);obtain ⟨g1,g2,g3⟩:=h.2.1.2.at hx1;obtain ⟨g4,g5⟩:=h.2.2.at hx1
  first | omega | (simp_all [Qaa];done) | (simp_all [Qaa];omega)))
 <| fun p5=>.u 6 [b2]<|
 .bd 54 (x1.stamp>last) (fun p6=>.r 32<|.r 1<|.f R [] (aB false) (by
  refine sF (fun h=>?_);obtain ⟨g1,g2,g3⟩:=h.2.1.2.at hx1;obtain ⟨g4,g5⟩:=h.2.2.at hx1
  first | omega | (simp_all [Qaa];done) | (simp_all [Qaa];omega)))
 <| fun p6=>.r 3<|.bd 57 ((k:Int)>0) (fun p7=>.run 4 [b1=b1,rng .i64 ((k:Int)-1)] ⟨rfl,Qal,trivial⟩<|
 .idxM c.l verA (k-1) (m:=(k:Int)-1) (by omega) (by omega) fun x2 hx2=>
 have okx2:=okc.2.2 x2 (W0h hx2);.u 8 [b2]<|
 .bd 70 (x2.stamp≥x1.stamp) (fun p8=>.r 16<|.r 1<|.f R [] (aB false) (by
  refine sF (fun h=>?_);obtain ⟨g1,g2,g3⟩:=h.2.1.2.at hx1;obtain ⟨g4,g5⟩:=h.2.2.at hx1
  first | omega | (have:=g3 _ (by omega) hx2;omega) | (simp_all [Qaa];done) | (simp_all [Qaa];omega)))
 <| fun p8=>.u 3 [b2]<|
 .br 73 (x1.gone) (fun q9=>have p9:=booT q9;.r 5<|.nbb 78 (dP (x1.n=nod0)) (fun p10=>.r 8<|.r 1<|.f R [] (aB false) (by
  refine sF (fun h=>?_);obtain ⟨g1,g2,g3⟩:=h.2.1.2.at hx1;obtain ⟨g4,g5⟩:=h.2.2.at hx1
  first | omega | (have:=g3 _ (by omega) hx2;omega) | (simp_all [Qaa];done) | (simp_all [Qaa];omega)))
 <| fun p10=>.u 4 [b2]<|
 .is 82 (show (!x1.gone)=false from by rw [q9];rfl)<|.r 4<|.run 3 [rng .i64 ((k:Int)+1)] ⟨Qal,trivial⟩<|
 .bk L1 k (k+1) ⟨by omega,hH1.2.1.step hx1 ⟨by omega,by omega,by intro d h0 hd;first | omega | (rw [hd] at hx2;obtain rfl:=W0c hx2;omega)⟩,hH1.2.2.step hx1 (by first | exact Qjt (by simp_all [Qaf,Qaa]) (by simp_all [Qaf,Qaa]) | skip)⟩ (show c.l.length-(k+1)<c.l.length-k from (by omega)) [(5,aI ((k:Int)+1))] [] ⟨sR,sR,sO,trivial⟩ bb1)
 <| fun q9=>have p9:=booF q9;.u 9 [b2]<|
 .is 82 (show (!x1.gone)=true from by rw [q9];rfl)<|.r 4<|.nbe 86 x1.n.ino c.ino (fun p11=>.r 1<|.f R [] (aB false) (by
  refine sF (fun h=>?_);obtain ⟨g1,g2,g3⟩:=h.2.1.2.at hx1;obtain ⟨g4,g5⟩:=h.2.2.at hx1
  first | omega | (have:=g3 _ (by omega) hx2;omega) | (simp_all [Qaa];done) | (simp_all [Qaa];omega)))
 <| fun p11=>.run 3 [rng .i64 ((k:Int)+1)] ⟨Qal,trivial⟩<|
 .bk L1 k (k+1) ⟨by omega,hH1.2.1.step hx1 ⟨by omega,by omega,by intro d h0 hd;first | omega | (rw [hd] at hx2;obtain rfl:=W0c hx2;omega)⟩,hH1.2.2.step hx1 (by first | exact Qjt (by simp_all [Qaf,Qaa]) (by simp_all [Qaf,Qaa]) | skip)⟩ (show c.l.length-(k+1)<c.l.length-k from (by omega)) [(5,aI ((k:Int)+1))] [] ⟨sR,sR,sO,trivial⟩ bb1)
 <| fun p7=>.u 16 [b2]<|
 .br 73 (x1.gone) (fun q12=>have p12:=booT q12;.r 5<|.nbb 78 (dP (x1.n=nod0)) (fun p13=>.r 8<|.r 1<|.f R [] (aB false) (by
  refine sF (fun h=>?_);obtain ⟨g1,g2,g3⟩:=h.2.1.2.at hx1;obtain ⟨g4,g5⟩:=h.2.2.at hx1
  first | omega | (simp_all [Qaa];done) | (simp_all [Qaa];omega)))
 <| fun p13=>.u 4 [b2]<|
 .is 82 (show (!x1.gone)=false from by rw [q12];rfl)<|.r 4<|.run 3 [rng .i64 ((k:Int)+1)] ⟨Qal,trivial⟩<|
 .bk L1 k (k+1) ⟨by omega,hH1.2.1.step hx1 ⟨by omega,by omega,by intro d h0 hd;omega⟩,hH1.2.2.step hx1 (by first | exact Qjt (by simp_all [Qaf,Qaa]) (by simp_all [Qaf,Qaa]) | skip)⟩ (show c.l.length-(k+1)<c.l.length-k from (by omega)) [(5,aI ((k:Int)+1))] [] ⟨sR,sR,sO,trivial⟩ bb1)
 <| fun q12=>have p12:=booF q12;.u 9 [b2]<|
 .is 82 (show (!x1.gone)=true from by rw [q12];rfl)<|.r 4<|.nbe 86 x1.n.ino c.ino (fun p14=>.r 1<|.f R [] (aB false) (by
  refine sF (fun h=>?_);obtain ⟨g1,g2,g3⟩:=h.2.1.2.at hx1;obtain ⟨g4,g5⟩:=h.2.2.at hx1
  first | omega | (simp_all [Qaa];done) | (simp_all [Qaa];omega)))
 <| fun p14=>.run 3 [rng .i64 ((k:Int)+1)] ⟨Qal,trivial⟩<|
 .bk L1 k (k+1) ⟨by omega,hH1.2.1.step hx1 ⟨by omega,by omega,by intro d h0 hd;omega⟩,hH1.2.2.step hx1 (by first | exact Qjt (by simp_all [Qaf,Qaa]) (by simp_all [Qaf,Qaa]) | skip)⟩ (show c.l.length-(k+1)<c.l.length-k from (by omega)) [(5,aI ((k:Int)+1))] [] ⟨sR,sR,sO,trivial⟩ bb1)
 <| fun p4=>.r 8<|.u 3 [b2]<|
 .cs (args0:=[.agg (nodA x1.n),.agg [aI 0,aI 0,aI 0,aS ([]),aN]]) (Qfu x1.n nod0 (okx1).2 Qj1) ⟨sR,W2r ⟨sR,sR,sR,sR,Sub.nil _ _,trivial⟩,trivial⟩<|
 .r 1<|.ord [0,1,2,3,4,5,6,7,8,9,10,11,12,13,14,15,16,17,18,19,20,21,22,23,24,25,26,27,28,29,30,31,32,33,34,35,36,37,38,39,40,41]<|.u 4 [b2]<|
 .bd 48 (x1.stamp<1) (fun p15=>.r 38<|.r 1<|.f R [] (aB false) (by
  refine sF (fun h=>?_);obtain ⟨g1,g2,g3⟩:=h.2.1.2.at hx1;obtain ⟨g4,g5⟩:=h.2.2.at hx1
  first | omega | (simp_all [Qaa];done) | (simp_all [Qaa];omega)))
 <| fun p15=>.u 6 [b2]<|
 .bd 54 (x1.stamp>last) (fun p16=>.r 32<|.r 1<|.f R [] (aB false) (by
  refine sF (fun h=>?_);obtain ⟨g1,g2,g3⟩:=h.2.1.2.at hx1;obtain ⟨g4,g5⟩:=h.2.2.at hx1
  first | omega | (simp_all [Qaa];done) | (simp_all [Qaa];omega)))
 <| fun p16=>.r 3<|.bd 57 ((k:Int)>0) (fun p17=>.run 4 [b1=b1,rng .i64 ((k:Int)-1)] ⟨rfl,Qal,trivial⟩<|
 .idxM c.l verA (k-1) (m:=(k:Int)-1) (by omega) (by omega) fun x3 hx3=>
 have okx3:=okc.2.2 x3 (W0h hx3);.u 8 [b2]<|
 .bd 70 (x3.stamp≥x1.stamp) (fun p18=>.r 16<|.r 1<|.f R [] (aB false) (by
  refine sF (fun h=>?_);obtain ⟨g1,g2,g3⟩:=h.2.1.2.at hx1;obtain ⟨g4,g5⟩:=h.2.2.at hx1
  first | omega | (have:=g3 _ (by omega) hx3;omega) | (simp_all [Qaa];done) | (simp_all [Qaa];omega)))
 <| fun p18=>.u 3 [b2]<|
 .br 73 (x1.gone) (fun q19=>have p19:=booT q19;.r 5<|.nbb 78 (dP (x1.n=nod0)) (fun p20=>.r 8<|.r 1<|.f R [] (aB false) (by
  refine sF (fun h=>?_);obtain ⟨g1,g2,g3⟩:=h.2.1.2.at hx1;obtain ⟨g4,g5⟩:=h.2.2.at hx1
  first | omega | (have:=g3 _ (by omega) hx3;omega) | (simp_all [Qaa];done) | (simp_all [Qaa];omega)))
 <| fun p20=>.u 4 [b2]<|
 .is 82 (show (!x1.gone)=false from by rw [q19];rfl)<|.r 4<|.run 3 [rng .i64 ((k:Int)+1)] ⟨Qal,trivial⟩<|
 .bk L1 k (k+1) ⟨by omega,hH1.2.1.step hx1 ⟨by omega,by omega,by intro d h0 hd;first | omega | (rw [hd] at hx3;obtain rfl:=W0c hx3;omega)⟩,hH1.2.2.step hx1 (by first | exact Qjt (by simp_all [Qaf,Qaa]) (by simp_all [Qaf,Qaa]) | skip)⟩ (show c.l.length-(k+1)<c.l.length-k from (by omega)) [(5,aI ((k:Int)+1))] [] ⟨sR,sR,sO,trivial⟩ bb1)
 <| fun q19=>have p19:=booF q19;.u 9 [b2]<|
 .is 82 (show (!x1.gone)=true from by rw [q19];rfl)<|.r 4<|.r 1<|.f R [] (aB false) (by
  refine sF (fun h=>?_);obtain ⟨g1,g2,g3⟩:=h.2.1.2.at hx1;obtain ⟨g4,g5⟩:=h.2.2.at hx1
  first | omega | (have:=g3 _ (by omega) hx3;omega) | (simp_all [Qaa];done) | (simp_all [Qaa];omega)))
 <| fun p17=>.u 16 [b2]<|
 .br 73 (x1.gone) (fun q21=>have p21:=booT q21;.r 5<|.nbb 78 (dP (x1.n=nod0)) (fun p22=>.r 8<|.r 1<|.f R [] (aB false) (by
  refine sF (fun h=>?_);obtain ⟨g1,g2,g3⟩:=h.2.1.2.at hx1;obtain ⟨g4,g5⟩:=h.2.2.at hx1
  first | omega | (simp_all [Qaa];done) | (simp_all [Qaa];omega)))
 <| fun p22=>.u 4 [b2]<|
 .is 82 (show (!x1.gone)=false from by rw [q21];rfl)<|.r 4<|.run 3 [rng .i64 ((k:Int)+1)] ⟨Qal,trivial⟩<|
 .bk L1 k (k+1) ⟨by omega,hH1.2.1.step hx1 ⟨by omega,by omega,by intro d h0 hd;omega⟩,hH1.2.2.step hx1 (by first | exact Qjt (by simp_all [Qaf,Qaa]) (by simp_all [Qaf,Qaa]) | skip)⟩ (show c.l.length-(k+1)<c.l.length-k from (by omega)) [(5,aI ((k:Int)+1))] [] ⟨sR,sR,sO,trivial⟩ bb1)
 <| fun q21=>have p21:=booF q21;.u 9 [b2]<|
 .is 82 (show (!x1.gone)=true from by rw [q21];rfl)<|.r 4<|.r 1<|.f R [] (aB false) (by
  refine sF (fun h=>?_);obtain ⟨g1,g2,g3⟩:=h.2.1.2.at hx1;obtain ⟨g4,g5⟩:=h.2.2.at hx1
  first | omega | (simp_all [Qaa];done) | (simp_all [Qaa];omega)))
 <| fun p3=>.r 1<|.f R [] (aB true) (by refine sT ⟨by omega,⟨by omega,hH1.2.1.full (by omega)⟩,hH1.2.2.full (by omega)⟩)) a1 ha1)
theorem Ql8 (s:Sto) (oks:OkS s):Qag prog 38 [.agg (stoA s)] (aB (dP (Qcc s))):=by
 have hb1:=oks.2.1;have hb2:=oks.2.2.1;exact Qac func38 (let R:AV:=aB (dP (Qcc s));
 .new fun b1=>.r 1<|.u 4 [b1]<|
 .br 10 (decide (s.stamp<1)) (fun q1=>have p1:=decT q1;.r 5<|.r 1<|.f R [] (aB false) (by
  refine sF (fun h=>?_);obtain ⟨g1,⟨g2,_⟩,g3⟩:=h;omega))
 <| fun q1=>have p1:=decF q1;.u 3 [b1]<|
 .lm 13 s.nexts cntA<|.r 2<|.br 15 (decide ((s.nexts.length:Int)<1)) (fun q2=>have p2:=decT q2;.r 1<|.f R [] (aB false) (by
  refine sF (fun h=>?_);obtain ⟨g1,⟨g2,_⟩,g3⟩:=h;omega))
 <| fun q2=>have p2:=decF q2;.r 1<|let L1:Lp (Nat):=⟨fun a1=>⟨[(1,.ptr 1 b1 0),(3,aI (a1:Int))],[(1,.box b1 25 (stoA s))]⟩,fun a1=>s.l.length-a1,fun a1=>a1≤s.l.length∧Qaz (Zm8 s) s.l a1⟩
 .lp L1 0 ⟨W0j _,Qaz.zero _ _⟩ [(3,aI 0)] [] ⟨sR,sO,trivial⟩ bb1 fun a1 ha1=>
 (fun (k:Nat) (hH1:k≤s.l.length∧Qaz (Zm8 s) s.l k)=>.u 4 [b1]<|
 .lm 19 s.l chnA<|.r 1<|.br 20 (decide ((k:Int)<(s.l.length:Int))) (fun q3=>have p3:=decT q3;.ord [0,1,2,3,4,5,6,7,8]<|.u 3 [b1]<|
 .idxM s.l chnA k (m:=(k:Int)) rfl (by omega) fun x1 hx1=>
 have okx1:=oks.2.2.2.1 x1 (W0h hx1);have blx1:=okx1.2.1;.u 3 [b1]<|
 .call (Qz7 x1 s.stamp okx1)<|
 .r 1<|.ord [0,1,2,3,4,5,6,7,8,9,10,11,12,13,14,15,16,17,18,19,20,21]<|.r 3<|.br 33 (!(dP (Qo8 s.stamp x1))) (fun q4=>have q4:=notT q4;have p4:=booF q4;.r 19<|.r 1<|.f R [] (aB false) (by
  refine sF (fun h=>?_);obtain ⟨g1,g2⟩:=h.2.2.2.at hx1
  first | exact Qaa.1 (by assumption) g1 ))
 <| fun q4=>have q4:=notF q4;have p4:=booT q4;.r 3<|.br 36 (decide ((k:Int)>0)) (fun q5=>have p5:=decT q5;.run 4 [b1=b1,rng .i64 ((k:Int)-1)] ⟨rfl,Qal,trivial⟩<|
 .idxM s.l chnA (k-1) (m:=(k:Int)-1) (by omega) (by omega) fun x2 hx2=>
 have okx2:=oks.2.2.2.1 x2 (W0h hx2);have blx2:=okx2.2.1;.u 5 [b1]<|
 .idx k (m:=(k:Int)) (xs:=s.l.map chnA) (e:=chnA x1) rfl (map_some hx1)<|
 .r 5<|.br 52 (decide (x2.ino≥x1.ino)) (fun q6=>have p6:=decT q6;.r 1<|.f R [] (aB false) (by
  refine sF (fun h=>?_);obtain ⟨g1,g2⟩:=h.2.2.2.at hx1
  first | exact Qaa.1 (by assumption) g1 | (have:=g2 _ (by omega) hx2;omega)))
 <| fun q6=>have p6:=decF q6;.run 3 [rng .i64 ((k:Int)+1)] ⟨Qal,trivial⟩<|
 .bk L1 k (k+1) ⟨by omega,hH1.2.step hx1 ⟨Qaf.1 (by assumption),by intro d h0 hd;first | omega | (rw [hd] at hx2;obtain rfl:=W0c hx2;omega)⟩⟩ (show s.l.length-(k+1)<s.l.length-k from (by omega)) [(3,aI ((k:Int)+1))] [] ⟨sR,sO,trivial⟩ bb1)
 <| fun q5=>have p5:=decF q5;.r 16<|.run 3 [rng .i64 ((k:Int)+1)] ⟨Qal,trivial⟩<|
 .bk L1 k (k+1) ⟨by omega,hH1.2.step hx1 ⟨Qaf.1 (by assumption),by intro d h0 hd;omega⟩⟩ (show s.l.length-(k+1)<s.l.length-k from (by omega)) [(3,aI ((k:Int)+1))] [] ⟨sR,sO,trivial⟩ bb1)
 <| fun q3=>have p3:=decF q3;.r 1<|let L2:Lp (Nat):=⟨fun a2=>⟨[(1,.ptr 1 b1 0),(5,aI (a2:Int))],[(1,.box b1 25 (stoA s))]⟩,fun a2=>s.nexts.length-a2,fun a2=>a2≤s.nexts.length∧Qaz (Za6 Cnt.stamp s.stamp s.nexts) s.nexts a2∧Qaz (fun _ (c:Cnt)=>1≤c.next) s.nexts a2⟩
 .lp L2 0 ⟨W0j _,Qaz.zero _ _,Qaz.zero _ _⟩ [(5,aI 0)] [] ⟨sR,sO,trivial⟩ bb1 fun a2 ha2=>
 (fun (k:Nat) (hH2:k≤s.nexts.length∧Qaz (Za6 Cnt.stamp s.stamp s.nexts) s.nexts k∧Qaz (fun _ (c:Cnt)=>1≤c.next) s.nexts k)=>.u 4 [b1]<|
 .lm 56 s.nexts cntA<|.r 1<|.bd 57 ((k:Int)<(s.nexts.length:Int)) (fun p7=>.u 3 [b1]<|
 .idxM s.nexts cntA k (m:=(k:Int)) rfl (by omega) fun x3 hx3=>
 have okx3:=oks.2.2.2.2 x3 (W0h hx3);.r 1<|.new fun b2=>.u 1 [b2]<|
 .ord [0,1,2,3,4,5,6,7,8,9,10,11,12,13,14,15,16,17,18,19,20,21,22,23,24,25,26,27,28,29,30]<|.u 4 [b2]<|
 .bd 68 (x3.stamp<1) (fun p8=>.r 27<|.r 1<|.f R [] (aB false) (by
  refine sF (fun h=>?_);obtain ⟨g1,g2,g3⟩:=h.2.1.2.at hx3;have g4:=h.2.2.1.at hx3
  first | omega ))
 <| fun p8=>.u 7 [b2,b1]<|
 .bd 75 (x3.stamp>s.stamp) (fun p9=>.r 20<|.r 1<|.f R [] (aB false) (by
  refine sF (fun h=>?_);obtain ⟨g1,g2,g3⟩:=h.2.1.2.at hx3;have g4:=h.2.2.1.at hx3
  first | omega ))
 <| fun p9=>.u 5 [b2]<|
 .bd 80 (x3.next<1) (fun p10=>.r 15<|.r 1<|.f R [] (aB false) (by
  refine sF (fun h=>?_);obtain ⟨g1,g2,g3⟩:=h.2.1.2.at hx3;have g4:=h.2.2.1.at hx3
  first | omega ))
 <| fun p10=>.r 3<|.bd 83 ((k:Int)>0) (fun p11=>.run 4 [b1=b1,rng .i64 ((k:Int)-1)] ⟨rfl,Qal,trivial⟩<|
 .idxM s.nexts cntA (k-1) (m:=(k:Int)-1) (by omega) (by omega) fun x4 hx4=>
 have okx4:=oks.2.2.2.2 x4 (W0h hx4);.u 7 [b2]<|
 .bd 95 (x4.stamp≥x3.stamp) (fun p12=>.r 1<|.f R [] (aB false) (by
  refine sF (fun h=>?_);obtain ⟨g1,g2,g3⟩:=h.2.1.2.at hx3;have g4:=h.2.2.1.at hx3
  first | omega | (have:=g3 _ (by omega) hx4;omega)))
 <| fun p12=>.run 3 [rng .i64 ((k:Int)+1)] ⟨Qal,trivial⟩<|
 .bk L2 k (k+1) ⟨by omega,hH2.2.1.step hx3 ⟨by omega,by omega,by intro d h0 hd;first | omega | (rw [hd] at hx4;obtain rfl:=W0c hx4;omega)⟩,hH2.2.2.step hx3 (by show 1≤x3.next;omega)⟩ (show s.nexts.length-(k+1)<s.nexts.length-k from (by omega)) [(5,aI ((k:Int)+1))] [] ⟨sR,sO,trivial⟩ bb1)
 <| fun p11=>.r 12<|.run 3 [rng .i64 ((k:Int)+1)] ⟨Qal,trivial⟩<|
 .bk L2 k (k+1) ⟨by omega,hH2.2.1.step hx3 ⟨by omega,by omega,by intro d h0 hd;omega⟩,hH2.2.2.step hx3 (by show 1≤x3.next;omega)⟩ (show s.nexts.length-(k+1)<s.nexts.length-k from (by omega)) [(5,aI ((k:Int)+1))] [] ⟨sR,sO,trivial⟩ bb1)
 <| fun p7=>.r 1<|.f R [] (aB true) (by exact sT ⟨by omega,⟨by omega,hH2.2.1.full (by omega)⟩,hH2.2.2.full (by omega),hH1.2.full (by omega)⟩)) a2 ha2) a1 ha1)
theorem Qrk (l:List Ver) (st:Int) (hl:l.length≤8796093022207):Qag prog 84 [.sl 7 false (l.map verA),.val (.func (.func 123) #[] #[]),aI st] (aI ((cutV Ver.stamp st l:Int)-1)):=by
 exact Qac func84 (
 .r 1<|.r 2<|.lm 9 l verA<|.run 2 [rng .i64 ((l.length:Int)-1)] ⟨Qal,trivial⟩<|
 let L1:Lp (Nat):=⟨fun a1=>⟨[(0,.sl 7 false (l.map verA)),(1,.val (.func (.func 123) #[] #[])),(2,aI st),(7,aI ((a1:Int)-1))],[]⟩,fun a1=>a1,fun a1=>a1≤l.length∧∀ j y,a1≤j→l[j]?=some y→st<Ver.stamp y⟩
 .lp L1 l.length (show l.length≤l.length∧∀ j y,l.length≤j→l[j]?=some y→st<Ver.stamp y from (Zg6 _ _ _)) [] [] sr4 trivial fun a1 ha1=>
 (fun (k:Nat) (hH1:k≤l.length∧∀ j y,k≤j→l[j]?=some y→st<Ver.stamp y)=>.r 3<|.bd 13 (((k:Int)-1)≥0) (fun p1=>.r 3<|.idxM l verA (k-1) (m:=(k:Int)-1) (by omega) (by omega) fun x1 hx1=>
 .r 1<|.call (Zgu x1)<|
 .r 3<|.bd 22 (x1.stamp>st) (fun p2=>.run 3 [rng .i64 (((k:Int)-1)-1)] ⟨Qal,trivial⟩<|
 .bk L1 k (k-1) (show (k-1)≤l.length∧∀ j y,(k-1)≤j→l[j]?=some y→st<Ver.stamp y from (Zg5 hx1 hH1.1 hH1.2 (by omega))) (show (k-1)<k from (by omega)) [(7,aI (((k:Int)-1)-1))] [] ⟨sR,sR,sR,sO,trivial⟩ trivial)
 <| fun p2=>.r 2<|.f (aI ((cutV Ver.stamp st l:Int)-1)) [] (aI ((k:Int)-1)) (by exact W2n (by rw [Qfo Ver.stamp st l k hH1.1 hH1.2 (.inr ⟨x1,hx1,by omega⟩)])))
 <| fun p1=>.r 9<|.r 2<|.f (aI ((cutV Ver.stamp st l:Int)-1)) [] (aI ((k:Int)-1)) (by exact W2n (by rw [Qfo Ver.stamp st l k hH1.1 hH1.2 (.inl (by omega))]))) a1 ha1)
theorem Qnu (l:List Cnt) (st:Int) (hl:l.length≤8796093022207):Qag prog 85 [.sl 2 false (l.map cntA),.val (.func (.func 124) #[] #[]),aI st] (aI ((cutV Cnt.stamp st l:Int)-1)):=by
 exact Qac func85 (
 .r 1<|.r 2<|.lm 9 l cntA<|.run 2 [rng .i64 ((l.length:Int)-1)] ⟨Qal,trivial⟩<|
 let L1:Lp (Nat):=⟨fun a1=>⟨[(0,.sl 2 false (l.map cntA)),(1,.val (.func (.func 124) #[] #[])),(2,aI st),(7,aI ((a1:Int)-1))],[]⟩,fun a1=>a1,fun a1=>a1≤l.length∧∀ j y,a1≤j→l[j]?=some y→st<Cnt.stamp y⟩
 .lp L1 l.length (show l.length≤l.length∧∀ j y,l.length≤j→l[j]?=some y→st<Cnt.stamp y from (Zg6 _ _ _)) [] [] sr4 trivial fun a1 ha1=>
 (fun (k:Nat) (hH1:k≤l.length∧∀ j y,k≤j→l[j]?=some y→st<Cnt.stamp y)=>.r 3<|.bd 13 (((k:Int)-1)≥0) (fun p1=>.r 3<|.idxM l cntA (k-1) (m:=(k:Int)-1) (by omega) (by omega) fun x1 hx1=>
 .r 1<|.call (Zgt x1)<|
 .r 3<|.bd 22 (x1.stamp>st) (fun p2=>.run 3 [rng .i64 (((k:Int)-1)-1)] ⟨Qal,trivial⟩<|
 .bk L1 k (k-1) (show (k-1)≤l.length∧∀ j y,(k-1)≤j→l[j]?=some y→st<Cnt.stamp y from (Zg5 hx1 hH1.1 hH1.2 (by omega))) (show (k-1)<k from (by omega)) [(7,aI (((k:Int)-1)-1))] [] ⟨sR,sR,sR,sO,trivial⟩ trivial)
 <| fun p2=>.r 2<|.f (aI ((cutV Cnt.stamp st l:Int)-1)) [] (aI ((k:Int)-1)) (by exact W2n (by rw [Qfo Cnt.stamp st l k hH1.1 hH1.2 (.inr ⟨x1,hx1,by omega⟩)])))
 <| fun p1=>.r 9<|.r 2<|.f (aI ((cutV Cnt.stamp st l:Int)-1)) [] (aI ((k:Int)-1)) (by exact W2n (by rw [Qfo Cnt.stamp st l k hH1.1 hH1.2 (.inl (by omega))]))) a1 ha1)
theorem Qyz (c:Chn) (st:Int) (hl:c.l.length≤8796093022207):Qag prog 66 [.agg [aI c.ino,.sl 7 false (c.l.map verA)],aI st] (aI ((cutV Ver.stamp st c.l:Int)-1)):=by
 exact Qac func66 (
 .new fun b1=>.r 1<|.u 3 [b1]<|
 .lm 8 c.l verA<|.run 2 [rng .i64 ((c.l.length:Int)-1)] ⟨Qal,trivial⟩<|
 let L1:Lp (Nat):=⟨fun a1=>⟨[(1,aI st),(2,.ptr 2 b1 0),(5,aI ((a1:Int)-1))],[(2,.box b1 82 [aI c.ino,.sl 7 false (c.l.map verA)])]⟩,fun a1=>a1,fun a1=>a1≤c.l.length∧∀ j y,a1≤j→c.l[j]?=some y→st<Ver.stamp y⟩
 .lp L1 c.l.length (show c.l.length≤c.l.length∧∀ j y,c.l.length≤j→c.l[j]?=some y→st<Ver.stamp y from (Zg6 _ _ _)) [] [] sr3 bb1 fun a1 ha1=>
 (fun (k:Nat) (hH1:k≤c.l.length∧∀ j y,k≤j→c.l[j]?=some y→st<Ver.stamp y)=>.r 3<|.bd 12 (((k:Int)-1)≥0) (fun p1=>.u 3 [b1]<|
 .idxM c.l verA (k-1) (m:=(k:Int)-1) (by omega) (by omega) fun x1 hx1=>
 .r 5<|.bd 21 (x1.stamp>st) (fun p2=>.run 3 [rng .i64 (((k:Int)-1)-1)] ⟨Qal,trivial⟩<|
 .bk L1 k (k-1) (show (k-1)≤c.l.length∧∀ j y,(k-1)≤j→c.l[j]?=some y→st<Ver.stamp y from (Zg5 hx1 hH1.1 hH1.2 (by omega))) (show (k-1)<k from (by omega)) [(5,aI (((k:Int)-1)-1))] [] ⟨sR,sR,sO,trivial⟩ bb1)
 <| fun p2=>.r 2<|.f (aI ((cutV Ver.stamp st c.l:Int)-1)) [] (aI ((k:Int)-1)) (by exact W2n (by rw [Qfo Ver.stamp st c.l k hH1.1 hH1.2 (.inr ⟨x1,hx1,by omega⟩)])))
 <| fun p1=>.r 9<|.r 2<|.f (aI ((cutV Ver.stamp st c.l:Int)-1)) [] (aI ((k:Int)-1)) (by exact W2n (by rw [Qfo Ver.stamp st c.l k hH1.1 hH1.2 (.inl (by omega))]))) a1 ha1)
theorem Qy2 (s:Sto) (st:Int) (hl:s.nexts.length≤8796093022207):Qag prog 67 [.agg (stoA s),aI st] (aI ((cutV Cnt.stamp st s.nexts:Int)-1)):=by
 exact Qac func67 (
 .new fun b1=>.r 1<|.u 3 [b1]<|
 .lm 8 s.nexts cntA<|.run 2 [rng .i64 ((s.nexts.length:Int)-1)] ⟨Qal,trivial⟩<|
 let L1:Lp (Nat):=⟨fun a1=>⟨[(1,aI st),(2,.ptr 2 b1 0),(5,aI ((a1:Int)-1))],[(2,.box b1 25 (stoA s))]⟩,fun a1=>a1,fun a1=>a1≤s.nexts.length∧∀ j y,a1≤j→s.nexts[j]?=some y→st<Cnt.stamp y⟩
 .lp L1 s.nexts.length (show s.nexts.length≤s.nexts.length∧∀ j y,s.nexts.length≤j→s.nexts[j]?=some y→st<Cnt.stamp y from (Zg6 _ _ _)) [] [] sr3 bb1 fun a1 ha1=>
 (fun (k:Nat) (hH1:k≤s.nexts.length∧∀ j y,k≤j→s.nexts[j]?=some y→st<Cnt.stamp y)=>.r 3<|.bd 12 (((k:Int)-1)≥0) (fun p1=>.u 3 [b1]<|
 .idxM s.nexts cntA (k-1) (m:=(k:Int)-1) (by omega) (by omega) fun x1 hx1=>
 .r 5<|.bd 21 (x1.stamp>st) (fun p2=>.run 3 [rng .i64 (((k:Int)-1)-1)] ⟨Qal,trivial⟩<|
 .bk L1 k (k-1) (show (k-1)≤s.nexts.length∧∀ j y,(k-1)≤j→s.nexts[j]?=some y→st<Cnt.stamp y from (Zg5 hx1 hH1.1 hH1.2 (by omega))) (show (k-1)<k from (by omega)) [(5,aI (((k:Int)-1)-1))] [] ⟨sR,sR,sO,trivial⟩ bb1)
 <| fun p2=>.r 2<|.f (aI ((cutV Cnt.stamp st s.nexts:Int)-1)) [] (aI ((k:Int)-1)) (by exact W2n (by rw [Qfo Cnt.stamp st s.nexts k hH1.1 hH1.2 (.inr ⟨x1,hx1,by omega⟩)])))
 <| fun p1=>.r 9<|.r 2<|.f (aI ((cutV Cnt.stamp st s.nexts:Int)-1)) [] (aI ((k:Int)-1)) (by exact W2n (by rw [Qfo Cnt.stamp st s.nexts k hH1.1 hH1.2 (.inl (by omega))]))) a1 ha1)
end Go.Proofs.YtkhodpknpligpaaGreat
