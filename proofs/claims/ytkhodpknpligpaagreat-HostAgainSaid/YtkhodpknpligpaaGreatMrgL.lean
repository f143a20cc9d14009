import Derived.Test.YtkhodpknpligpaaGreatAl
import Derived.Test.YtkhodpknpligpaaGreatMrgK
import Derived.Test.YtkhodpknpligpaaGreatMrgI
import Derived.Deep.QuietTactic
import Derived.BigQuiet
import Derived.IntWalk
import Derived.Test.YtkhodpknpligpaaGreatRows
import Derived.Test.YtkhodpknpligpaaGreatMrgA
import Derived.Test.YtkhodpknpligpaaGreatMrgG
import Derived.RangeFuncNested
import Derived.RangeFuncBound
import Derived.RangeFuncCalls
import Derived.RangeFuncLeaves
import Derived.RangeFuncBox
import Derived.Shelf.Abstract
import Derived.Shelf.RegionOpen
import Derived.OwnWalkIn
import Derived.TacticsInMore
import Derived.LoopNIn
import Derived.LoopIn
import Derived.Test.YtkhodpknpligpaaGreatMrgJ
set_option maxRecDepth 100000
set_option maxHeartbeats 8000000
set_option linter.unusedVariables false
set_option linter.unusedSimpArgs false
namespace Go.Proofs.YtkhodpknpligpaaGreat
open Go Go.RowKit Copyhold Go.Proofs.Tryz
theorem Zk3 {x y:TRow} (h1:x.client=y.client) (h2:x.epoch=y.epoch) (h3:x.done=y.done) (h4:x.l=y.l):x=y:=by cases x;cases y;simp_all
theorem Zk4 {x y:Int × Bool} (h1:x.1=y.1) (h2:x.2=y.2):x=y:=Prod.ext h1 h2
theorem Qem {α:Type} {f:α→Int} {l:List α} {k:Nat} {y:α} {z:Int} (h:l[k-1]?=some y) (hk:0<k):Qk2 f l k z=f y:=by
 unfold Qk2;rw [h];simp;omega
theorem Qrq (a b:List TRow) (oka:OkRw a) (okb:OkRw b):Qag prog 36 [.sl 4 false (a.map trA),.sl 4 false (b.map trA)] (aB (dP (a=b))):=by
 have la:=oka.1;have lb:=okb.1;exact Qac func36 (let R:AV:=aB (dP (a=b));
 .r 1<|.r 2<|.lm 8 a trA<|.r 2<|.lm 10 b trA<|.r 1<|.bn 11 (a.length:Int) (b.length:Int) (fun p1=>.r 1<|.f (aB (dP (a=b))) [] (aB false) (by exact sF (fun h=>by have:=W1y List.length h;omega)))
 <| fun p1=>.r 1<|let L1:Lp (Nat):=⟨fun a1=>⟨[(0,.sl 4 false (a.map trA)),(1,.sl 4 false (b.map trA)),(5,aI (a1:Int))],[]⟩,fun a1=>a.length-a1,fun a1=>a1≤a.length∧a.take a1=b.take a1⟩
 .lp L1 0 ⟨W0j _,rfl⟩ [(5,aI 0)] [] ⟨sR,sR,sO,trivial⟩ trivial fun a1 ha1=>
 (fun (k:Nat) (hH1:k≤a.length∧a.take k=b.take k)=>.r 3<|.lm 14 a trA<|.r 1<|.bd 15 ((k:Int)<(a.length:Int)) (fun p2=>.ord [0,1,2,3,4,5,6,7,8,9,10,11,12,13,14,15,16,17,18,19,20,21,22,23,24,25,26,27,28,29,30,31,32,33,34,35,36,37,38,39,40,41,42,43,44,45,46,47,48,49,50,51]<|.r 2<|.idxM a trA k (m:=(k:Int)) rfl (by omega) fun x1 hx1=>
 have okx1:=(oka.2 x1 (W0h hx1)).2.1;.r 4<|.idxM b trA k (m:=(k:Int)) rfl (by omega) fun x2 hx2=>
 have okx2:=(okb.2 x2 (W0h hx2)).2.1;.r 4<|.bn 29 x1.client x2.client (fun p3=>.r 40<|.r 1<|.f R [] (aB false) (by
  refine sF (fun h=>?_);rw [h,hx2] at hx1;obtain rfl:=W0c hx1
  first | omega | simp_all))
 <| fun p3=>.r 2<|.idx k (m:=(k:Int)) (xs:=a.map trA) (e:=trA x1) rfl (map_some hx1)<|
 .r 4<|.idx k (m:=(k:Int)) (xs:=b.map trA) (e:=trA x2) rfl (map_some hx2)<|
 .r 5<|.bn 42 x1.epoch x2.epoch (fun p4=>.r 27<|.r 1<|.f R [] (aB false) (by
  refine sF (fun h=>?_);rw [h,hx2] at hx1;obtain rfl:=W0c hx1
  first | omega | simp_all))
 <| fun p4=>.r 2<|.idx k (m:=(k:Int)) (xs:=a.map trA) (e:=trA x1) rfl (map_some hx1)<|
 .r 4<|.idx k (m:=(k:Int)) (xs:=b.map trA) (e:=trA x2) rfl (map_some hx2)<|
 .r 5<|.bn 55 x1.done x2.done (fun p5=>.r 14<|.r 1<|.f R [] (aB false) (by
  refine sF (fun h=>?_);rw [h,hx2] at hx1;obtain rfl:=W0c hx1
  first | omega | simp_all))
 <| fun p5=>.r 2<|.idx k (m:=(k:Int)) (xs:=a.map trA) (e:=trA x1) rfl (map_some hx1)<|
 .r 3<|.lm 61 x1.l tdA<|.r 2<|.idx k (m:=(k:Int)) (xs:=b.map trA) (e:=trA x2) rfl (map_some hx2)<|
 .r 3<|.lm 67 x2.l tdA<|.r 2<|.bn 69 (x1.l.length:Int) (x2.l.length:Int) (fun p6=>.r 1<|.f R [] (aB false) (by
  refine sF (fun h=>?_);rw [h,hx2] at hx1;obtain rfl:=W0c hx1
  first | omega | simp_all))
 <| fun p6=>.r 1<|let L2:Lp (Nat):=⟨fun a2=>⟨[(0,.sl 4 false (a.map trA)),(1,.sl 4 false (b.map trA)),(5,aI (k:Int)),(6,aI (a2:Int))],[]⟩,fun a2=>x1.l.length-a2,fun a2=>a2≤x1.l.length∧x1.l.take a2=x2.l.take a2⟩
 .lp L2 0 ⟨W0j _,rfl⟩ [(6,aI 0)] [] ⟨sR,sR,sR,sO,trivial⟩ trivial fun a2 ha2=>
 (fun (j:Nat) (hH2:j≤x1.l.length∧x1.l.take j=x2.l.take j)=>.r 3<|.idx k (m:=(k:Int)) (xs:=a.map trA) (e:=trA x1) rfl (map_some hx1)<|
 .r 3<|.lm 76 x1.l tdA<|.r 1<|.bd 77 ((j:Int)<(x1.l.length:Int)) (fun p7=>.ord [0,1,2,3,4,5,6,7,8,9,10,11,12,13,14,15,16]<|.r 2<|.idx k (m:=(k:Int)) (xs:=a.map trA) (e:=trA x1) rfl (map_some hx1)<|
 .r 3<|.idxM x1.l tdA j (m:=(j:Int)) rfl (by omega) fun x3 hx3=>
 .r 3<|.idx k (m:=(k:Int)) (xs:=b.map trA) (e:=trA x2) rfl (map_some hx2)<|
 .r 3<|.idxM x2.l tdA j (m:=(j:Int)) rfl (by omega) fun x4 hx4=>
 .r 1<|.eqS<|.nbb 96 ((x3.1==x4.1)&&((x3.2==x4.2)&&(true))) (fun p8=>.r 1<|.f R [] (aB false) (by
  refine sF (fun h=>?_);rw [h,hx2] at hx1;obtain rfl:=W0c hx1;rw [hx4] at hx3;obtain rfl:=W0c hx3;simp_all))
 <| fun p8=>.run 3 [rng .i64 ((j:Int)+1)] ⟨Qal,trivial⟩<|
 .bk L2 j (j+1) ⟨by omega,by rw [Qaq hx3,Qaq hx4,hH2.2];first | (congr 2;done) | (congr 2;exact Zk4 (by simp_all [Qaf,Qaa]) (by simp_all [Qaf,Qaa]))⟩ (show x1.l.length-(j+1)<x1.l.length-j from (by omega)) [(6,aI ((j:Int)+1))] [] ⟨sR,sR,sR,sO,trivial⟩ trivial)
 <| fun p7=>.run 3 [rng .i64 ((k:Int)+1)] ⟨Qal,trivial⟩<|
 .bk L1 k (k+1) ⟨by omega,by rw [Qaq hx1,Qaq hx2,hH1.2];congr 2;exact Zk3 (by omega) (by omega) (by omega) (by have h:=hH2.2;rw [Qap (by omega),Qap (by omega)] at h;exact h)⟩ (show a.length-(k+1)<a.length-k from (by omega)) [(5,aI ((k:Int)+1))] [] ⟨sR,sR,sO,trivial⟩ trivial) a2 ha2)
 <| fun p2=>.r 1<|.f R [] (aB true) (by
  refine sT ?_;have h:=hH1.2;rw [Qap (by omega),Qap (by omega)] at h;exact h)) a1 ha1)
theorem Qps (rs:List TRow) (okr:OkRw rs):Qag prog 39 [.sl 4 false (rs.map trA)] (aB (dP (Good rs))):=by
 have hlr:=okr.1;exact Qac func39 (let R:AV:=aB (dP (Good rs));
 .r 1<|.r 2<|.lm 7 rs trA<|.r 1<|.bd 8 ((rs.length:Int)>64) (fun p1=>.r 1<|.f (aB (dP (Good rs))) [] (aB false) (by exact sF (fun h=>by have:=((Qdd rs).1 h).1;omega)))
 <| fun p1=>.r 1<|let L1:Lp (Nat):=⟨fun a1=>⟨[(0,.sl 4 false (rs.map trA)),(3,aI (a1:Int))],[]⟩,fun a1=>rs.length-a1,fun a1=>a1≤rs.length∧Qmc (fun r:TRow=>r.client) (-1) rs a1∧Qaz (fun _ r=>Zmn r) rs a1⟩
 .lp L1 0 ⟨W0j _,Qjy _ _ _,Qaz.zero _ _⟩ [(3,aI 0)] [] ⟨sR,sO,trivial⟩ trivial fun a1 ha1=>
 (fun (k:Nat) (hH1:k≤rs.length∧Qmc (fun r:TRow=>r.client) (-1) rs k∧Qaz (fun _ r=>Zmn r) rs k)=>.r 3<|.lm 11 rs trA<|.r 1<|.bd 12 ((k:Int)<(rs.length:Int)) (fun p2=>.r 2<|.idxM rs trA k (m:=(k:Int)) rfl (by omega) fun x1 hx1=>
 have okx1:=(okr.2 x1 (W0h hx1)).2.1;.r 1<|.new fun b1=>.u 1 [b1]<|
 .ord [0,1,2,3,4,5,6,7,8,9,10,11,12,13,14,15,16,17,18,19,20,21,22,23,24,25,26,27,28,29,30,31,32,33]<|.u 4 [b1]<|
 .bd 22 (x1.client<0) (fun p3=>.r 30<|.r 1<|.f (aB (dP (Good rs))) [] (aB false) (by exact sF (fun h=>by have h0:=((Qdd rs).1 h).2.1.2 x1 (W0h hx1);have hg:=(((Qdd rs).1 h).2.2 x1 (W0h hx1));have h1:=hg.1;have h2:=hg.2.1;have h3:=hg.2.2.1;omega)))
 <| fun p3=>.u 5 [b1]<|
 .bd 27 (x1.epoch<1) (fun p4=>.r 25<|.r 1<|.f (aB (dP (Good rs))) [] (aB false) (by exact sF (fun h=>by have h0:=((Qdd rs).1 h).2.1.2 x1 (W0h hx1);have hg:=(((Qdd rs).1 h).2.2 x1 (W0h hx1));have h1:=hg.1;have h2:=hg.2.1;have h3:=hg.2.2.1;omega)))
 <| fun p4=>.u 5 [b1]<|
 .bd 32 (x1.done<0) (fun p5=>.r 20<|.r 1<|.f (aB (dP (Good rs))) [] (aB false) (by exact sF (fun h=>by have h0:=((Qdd rs).1 h).2.1.2 x1 (W0h hx1);have hg:=(((Qdd rs).1 h).2.2 x1 (W0h hx1));have h1:=hg.1;have h2:=hg.2.1;have h3:=hg.2.2.1;omega)))
 <| fun p5=>.u 3 [b1]<|
 .lm 35 x1.l tdA<|.r 3<|.bd 38 ((x1.l.length:Int)>256) (fun p6=>.r 14<|.r 1<|.f (aB (dP (Good rs))) [] (aB false) (by exact sF (fun h=>by have h0:=((Qdd rs).1 h).2.1.2 x1 (W0h hx1);have hg:=(((Qdd rs).1 h).2.2 x1 (W0h hx1));have h1:=hg.1;have h2:=hg.2.1;have h3:=hg.2.2.1;omega)))
 <| fun p6=>.r 3<|.bd 41 ((k:Int)>0) (fun p7=>.run 3 [rng .i64 ((k:Int)-1)] ⟨Qal,trivial⟩<|
 .idxM rs trA (k-1) (m:=(k:Int)-1) (by omega) (by omega) fun x2 hx2=>
 have okx2:=(okr.2 x2 (W0h hx2)).2.1;.u 7 [b1]<|
 .bd 52 (x2.client≥x1.client) (fun p8=>.r 1<|.f (aB (dP (Good rs))) [] (aB false) (by exact sF (fun h=>Qix (f:=(fun r:TRow=>r.client)) hx1 (by rw [Qem hx2 (by omega)];omega) ((Qdd rs).1 h).2.1)))
 <| fun p8=>.r 1<|let L2:Lp (Nat):=⟨fun a2=>⟨[(0,.sl 4 false (rs.map trA)),(3,aI (k:Int)),(4,.ptr 4 b1 0),(5,aI (a2:Int))],[(4,.box b1 90 [aI x1.client,aI x1.epoch,aI x1.done,.sl 2 false (x1.l.map tdA)])]⟩,fun a2=>x1.l.length-a2,fun a2=>a2≤x1.l.length∧Qmc (fun d:Int × Bool=>d.1) x1.done x1.l a2⟩
 .lp L2 0 ⟨W0j _,Qjy _ _ _⟩ [(5,aI 0)] [] ⟨sR,sR,sR,sO,trivial⟩ bb1 fun a2 ha2=>
 (fun (j:Nat) (hH2:j≤x1.l.length∧Qmc (fun d:Int × Bool=>d.1) x1.done x1.l j)=>.u 4 [b1]<|
 .lm 56 x1.l tdA<|.r 1<|.bd 57 ((j:Int)<(x1.l.length:Int)) (fun p9=>.ord [0,1,2,3,4,5,6,7,8,9,10,11,12,13,14,15,16,17,18,19,20,21,22,23,24,25,26,27,28]<|.u 3 [b1]<|
 .idxM x1.l tdA j (m:=(j:Int)) rfl (by omega) fun x3 hx3=>
 .u 6 [b1]<|
 .bd 69 (x3.1≤x1.done) (fun p10=>.r 19<|.r 1<|.f (aB (dP (Good rs))) [] (aB false) (by exact sF (fun h=>Qix (f:=(fun d:Int × Bool=>d.1)) hx3 (by have:=Qma hH2.2;omega) (((Qdd rs).1 h).2.2 x1 (W0h hx1)).2.2.2)))
 <| fun p10=>.r 3<|.bd 72 ((j:Int)>0) (fun p11=>.run 4 [b1=b1,rng .i64 ((j:Int)-1)] ⟨rfl,Qal,trivial⟩<|
 .idxM x1.l tdA (j-1) (m:=(j:Int)-1) (by omega) (by omega) fun x4 hx4=>
 .u 5 [b1]<|
 .idx j (m:=(j:Int)) (xs:=x1.l.map tdA) (e:=tdA x3) rfl (map_some hx3)<|
 .r 5<|.bd 88 (x4.1≥x3.1) (fun p12=>.r 1<|.f (aB (dP (Good rs))) [] (aB false) (by exact sF (fun h=>Qix (f:=(fun d:Int × Bool=>d.1)) hx3 (by rw [Qem hx4 (by omega)];omega) (((Qdd rs).1 h).2.2 x1 (W0h hx1)).2.2.2)))
 <| fun p12=>.run 3 [rng .i64 ((j:Int)+1)] ⟨Qal,trivial⟩<|
 .bk L2 j (j+1) ⟨by omega,Qel hH2.2 hx3 (by rw [Qem hx4 (by omega)];omega)⟩ (show x1.l.length-(j+1)<x1.l.length-j from (by omega)) [(5,aI ((j:Int)+1))] [] ⟨sR,sR,sR,sO,trivial⟩ bb1)
 <| fun p11=>.r 16<|.run 3 [rng .i64 ((j:Int)+1)] ⟨Qal,trivial⟩<|
 .bk L2 j (j+1) ⟨by omega,Qel hH2.2 hx3 (by rw [show j=0 from by omega,Qj5];omega)⟩ (show x1.l.length-(j+1)<x1.l.length-j from (by omega)) [(5,aI ((j:Int)+1))] [] ⟨sR,sR,sR,sO,trivial⟩ bb1)
 <| fun p9=>.run 3 [rng .i64 ((k:Int)+1)] ⟨Qal,trivial⟩<|
 .bk L1 k (k+1) ⟨by omega,Qel hH1.2.1 hx1 (by rw [Qem hx2 (by omega)];omega),hH1.2.2.step hx1 ⟨by omega,by omega,by omega,Qmb hH2.2 (by omega)⟩⟩ (show rs.length-(k+1)<rs.length-k from (by omega)) [(3,aI ((k:Int)+1))] [] ⟨sR,sO,trivial⟩ trivial) a2 ha2)
 <| fun p7=>.r 11<|.r 1<|let L2:Lp (Nat):=⟨fun a2=>⟨[(0,.sl 4 false (rs.map trA)),(3,aI (k:Int)),(4,.ptr 4 b1 0),(5,aI (a2:Int))],[(4,.box b1 90 [aI x1.client,aI x1.epoch,aI x1.done,.sl 2 false (x1.l.map tdA)])]⟩,fun a2=>x1.l.length-a2,fun a2=>a2≤x1.l.length∧Qmc (fun d:Int × Bool=>d.1) x1.done x1.l a2⟩
 .lp L2 0 ⟨W0j _,Qjy _ _ _⟩ [(5,aI 0)] [] ⟨sR,sR,sR,sO,trivial⟩ bb1 fun a2 ha2=>
 (fun (j:Nat) (hH2:j≤x1.l.length∧Qmc (fun d:Int × Bool=>d.1) x1.done x1.l j)=>.u 4 [b1]<|
 .lm 56 x1.l tdA<|.r 1<|.bd 57 ((j:Int)<(x1.l.length:Int)) (fun p13=>.ord [0,1,2,3,4,5,6,7,8,9,10,11,12,13,14,15,16,17,18,19,20,21,22,23,24,25,26,27,28]<|.u 3 [b1]<|
 .idxM x1.l tdA j (m:=(j:Int)) rfl (by omega) fun x5 hx5=>
 .u 6 [b1]<|
 .bd 69 (x5.1≤x1.done) (fun p14=>.r 19<|.r 1<|.f (aB (dP (Good rs))) [] (aB false) (by exact sF (fun h=>Qix (f:=(fun d:Int × Bool=>d.1)) hx5 (by have:=Qma hH2.2;omega) (((Qdd rs).1 h).2.2 x1 (W0h hx1)).2.2.2)))
 <| fun p14=>.r 3<|.bd 72 ((j:Int)>0) (fun p15=>.run 4 [b1=b1,rng .i64 ((j:Int)-1)] ⟨rfl,Qal,trivial⟩<|
 .idxM x1.l tdA (j-1) (m:=(j:Int)-1) (by omega) (by omega) fun x6 hx6=>
 .u 5 [b1]<|
 .idx j (m:=(j:Int)) (xs:=x1.l.map tdA) (e:=tdA x5) rfl (map_some hx5)<|
 .r 5<|.bd 88 (x6.1≥x5.1) (fun p16=>.r 1<|.f (aB (dP (Good rs))) [] (aB false) (by exact sF (fun h=>Qix (f:=(fun d:Int × Bool=>d.1)) hx5 (by rw [Qem hx6 (by omega)];omega) (((Qdd rs).1 h).2.2 x1 (W0h hx1)).2.2.2)))
 <| fun p16=>.run 3 [rng .i64 ((j:Int)+1)] ⟨Qal,trivial⟩<|
 .bk L2 j (j+1) ⟨by omega,Qel hH2.2 hx5 (by rw [Qem hx6 (by omega)];omega)⟩ (show x1.l.length-(j+1)<x1.l.length-j from (by omega)) [(5,aI ((j:Int)+1))] [] ⟨sR,sR,sR,sO,trivial⟩ bb1)
 <| fun p15=>.r 16<|.run 3 [rng .i64 ((j:Int)+1)] ⟨Qal,trivial⟩<|
 .bk L2 j (j+1) ⟨by omega,Qel hH2.2 hx5 (by rw [show j=0 from by omega,Qj5];omega)⟩ (show x1.l.length-(j+1)<x1.l.length-j from (by omega)) [(5,aI ((j:Int)+1))] [] ⟨sR,sR,sR,sO,trivial⟩ bb1)
 <| fun p13=>.run 3 [rng .i64 ((k:Int)+1)] ⟨Qal,trivial⟩<|
 .bk L1 k (k+1) ⟨by omega,Qel hH1.2.1 hx1 (by rw [show k=0 from by omega,Qj5];omega),hH1.2.2.step hx1 ⟨by omega,by omega,by omega,Qmb hH2.2 (by omega)⟩⟩ (show rs.length-(k+1)<rs.length-k from (by omega)) [(3,aI ((k:Int)+1))] [] ⟨sR,sO,trivial⟩ trivial) a2 ha2)
 <| fun p2=>.r 1<|.f R [] (aB true) (by exact sT ((Qdd rs).2 ⟨by omega,Qmb hH1.2.1 (by omega),fun r hr=>by obtain ⟨i,hi⟩:=W0w hr;exact hH1.2.2.full (by omega) i r hi⟩))) a1 ha1)
theorem Qt9 (rs:List TRow) (hlr:rs.length≤8796093022207) (hrl:∀ r∈rs,r.l.length≤8796093022207):Qag prog 10 [.sl 4 false (rs.map trA)] (aB (dP (Qey rs rs.length≤400))):=by
 exact Qac func10 (let R:AV:=aB (dP (Qey rs rs.length≤400));
 .r 1<|.r 2<|.lm 6 rs trA<|.r 1<|.r 1<|let L1:Lp (Nat):=⟨fun a1=>⟨[(0,.sl 4 false (rs.map trA)),(4,aI (a1:Int)),(3,aI (Qey rs a1:Int))],[]⟩,fun a1=>rs.length-a1,fun a1=>a1≤rs.length⟩
 .lp L1 0 (show 0≤rs.length from W0j _) [(4,aI 0),(3,aI (rs.length:Int))] [] ⟨sR,sO,W2n (W1y aI (by simp [Qey])),trivial⟩ trivial fun a1 ha1=>
 (fun (k:Nat) (hH1:k≤rs.length)=>have hmk:=Zcz rs k;.r 3<|.lm 9 rs trA<|.r 2<|.bd 11 ((k:Int)<(rs.length:Int)) (fun p1=>.r 3<|.bd 14 ((Qey rs k:Int)≤400) (fun p2=>.r 3<|.idxM rs trA k (m:=(k:Int)) rfl (by omega) fun x1 hx1=>
 have bx1:=hrl x1 (W0h hx1);.r 3<|.lm 23 x1.l tdA<|.run 2 [rng .i64 ((Qey rs k:Int)+(x1.l.length:Int))] ⟨Qal,trivial⟩<|
 .run 3 [rng .i64 ((k:Int)+1)] ⟨Qal,trivial⟩<|
 .bk L1 k (k+1) (show (k+1)≤rs.length from (by show _≤_;omega)) (show rs.length-(k+1)<rs.length-k from (by omega)) [(4,aI ((k:Int)+1)),(3,aI ((Qey rs k:Int)+(x1.l.length:Int)))] [] ⟨sR,sO,W2n (W1y aI (by show _=((Qey rs (k+1):Nat):Int);rw [Zhx hx1];omega)),trivial⟩ trivial)
 <| fun p2=>.r 3<|.f R [] (aB (decide ((Qey rs k:Int)≤400))) (by
  refine sE ?_;simp only [W2m]
  first | (rw [show k=rs.length from by omega];omega) | (constructor<;>intro h<;>omega)))
 <| fun p1=>.r 3<|.r 3<|.f R [] (aB (decide ((Qey rs k:Int)≤400))) (by
  refine sE ?_;simp only [W2m]
  first | (rw [show k=rs.length from by omega];omega) | (constructor<;>intro h<;>omega))) a1 ha1)
end Go.Proofs.YtkhodpknpligpaaGreat

namespace Go.Proofs.YtkhodpknpligpaaGreat
open Go.RowKit Copyhold Copyhold.Name
def geAt (l:List Name.Ent) (s:List UInt8) (i:Nat):Bool:=!decide ((l.getD i ([],0)).1<s)
theorem Zmq {l:List Name.Ent} {s:List UInt8} (h:Srt l) (i:Nat) (hi:i<l.length):geAt l s i=decide (pos l s≤i):=by
 induction l generalizing i with
 | nil=>simp at hi
 | cons a l ih=>
  by_cases ha:a.1<s
  ·rw [Qrv ha];cases i with
   | zero=>simp [geAt,ha]
   | succ i=>
    have:=ih h.tail i (by simpa using hi);unfold geAt at this ⊢;rw [List.getD_cons_succ,this];simp
  ·rw [Qrw h ha];cases i with
   | zero=>simp [geAt,ha]
   | succ i=>
    have hx:¬ ((a :: l).getD (i+1) ([],0)).1<s:=by
     rw [List.getD_cons_succ,gete l i (by simpa using hi)];exact fun hxs=>ha (ltT (h.head _ (W1m _)) hxs)
    unfold geAt;rw [decide_eq_false hx];simp
theorem Qy8 (l:List Name.Ent) (s:List UInt8) (A:Option Addr) (c i ba bs:Nat) (w:World) (hl:Ents w (.slice A l.length c) l) (hi:i<l.length) (hn:l.length≤1000000)
  (ha:w.cell? ⟨ba,0,none⟩=some (.slice A l.length c)) (hs:w.cell? ⟨bs,0,none⟩=some (.string ⟨s.toArray⟩)) :
  Calls Tryz.prog 331 #[.int .i64 (i:Int),.pointer (some ⟨ba,0,none⟩),.pointer (some ⟨bs,0,none⟩)] w fun e w'=>e=.returned (.bool (geAt l s i))∧∃ n,w'=w.drewN n:=by
 obtain ⟨b,off,rfl,hb,hc,hc1,hc2⟩:=hl.at i hi;have hg:l[i]=l.getD i ([],0):=(gete l i hi).symm;rw [hg] at hc1 hc2;unfold geAt;generalize l.getD i ([],0)=x at *;clear hg hl;have hi1:(i:Int)<(l.length:Int):=by omega
 have hi0:(0:Int)≤(i:Int):=by omega
 go_enter Tryz.func331,Tryz.ntmps331
 go_wp2_with fail
 go_quiet (fail)
 go_wp2_with fail
 go_ret
 exact ⟨by rw [← Qp6];rfl,_,rfl⟩
theorem Qtv (l:List Name.Ent) (s:List UInt8) (A:Option Addr) (c ba bs:Nat) (w:World) (hl:Ents w (.slice A l.length c) l) (hn:l.length≤1000000) (hsrt:Srt l)
  (ha:w.cell? ⟨ba,0,none⟩=some (.slice A l.length c)) (hs:w.cell? ⟨bs,0,none⟩=some (.string ⟨s.toArray⟩)) :
  Calls Tryz.prog 330 #[.int .i64 (l.length:Int),.func (.func 331) #[] #[.pointer (some ⟨ba,0,none⟩),.pointer (some ⟨bs,0,none⟩)]] w fun e w'=>e=.returned (.int .i64 (pos l s:Int))∧∃ n,w'=w.drewN n:=by
 have hp:=pos_le l s;have HG:=Lib.hid (Zmq (s:=s) hsrt);have HT:=Lib.hid (fun (i m:Nat) (hi:i<l.length)=>Qy8 l s A c i ba bs (w.drewN m) hl hi hn ha hs);clear hl hsrt ha hs
 go_enter Tryz.func330,Tryz.ntmps330
 go_wp2_with fail
 go_loopw [5,6] (fun si sj wr=>∃ i j n:Nat,si=.int .i64 i∧sj=.int .i64 j∧i≤pos l s∧pos l s≤j∧j≤l.length∧wr=w.drewN n) (fun si sj _=>(intOf sj).toNat-(intOf si).toNat)
 case atStart=>exact ⟨0,l.length,0,rfl,rfl,W0j _,hp,W0m _,rfl⟩
 case round=>
  obtain ⟨i,j,n,rfl,rfl,hi,hj,hjl,rfl⟩:=hrel;by_cases hlt:i<j
  ·have hmid:((i:Int)+j) / 2=(((i+j) / 2:Nat):Int):=by omega
   obtain ⟨m,hm⟩:∃ m,m=(i+j) / 2:=⟨_,rfl⟩
   have hm1:i≤m:=by omega
   have hm2:m<j:=by omega
   rw [← hm] at hmid;have hC:=HT.out m n (by omega);rw [HG.out m (by omega)] at hC;have HC:=Lib.hid hC;clear hC hm;by_cases hge:pos l s≤m
   ·have hd:decide (pos l s≤m)=true:=by simpa using hge
    rw [hd] at HC;clear hd
    go_wp2_with fail
    refine HC.out.mono ?_;rintro e w1 ⟨rfl,n1,rfl⟩
    go_wp2_with fail
    go_roundw
    case rel=>exact ⟨i,m,_,rfl,rfl,hi,hge,by omega,rfl⟩
    case measure=>simp [intOf];omega
   ·have hd:decide (pos l s≤m)=false:=by simpa using hge
    rw [hd] at HC;clear hd
    go_wp2_with fail
    refine HC.out.mono ?_;rintro e w1 ⟨rfl,n1,rfl⟩
    go_wp2_with fail
    go_roundw
    case rel=>exact ⟨m+1,j,_,by go_num,rfl,by omega,hj,hjl,rfl⟩
    case measure=>simp [intOf];omega
  ·obtain rfl:i=pos l s:=by omega
   go_wp2_with fail
   go_ret
   exact ⟨rfl,_,rfl⟩
theorem Qoq (l:List Name.Ent) (s:List UInt8) (A:Option Addr) (c:Nat) (w:World) (hl:Ents w (.slice A l.length c) l) (hn:l.length≤1000000) (hsrt:Srt l) :
  Calls Tryz.prog 311 #[.slice A l.length c,.string ⟨s.toArray⟩] w fun e w'=>e=.returned (.tuple #[.int .i64 (pos l s:Int),.bool (isAt l s)])∧Below w.heap.size w w':=by
 obtain ⟨W,hW⟩:∃ W,W=(w.alloc (.cells #[.slice A l.length c] 83)).alloc (.cells #[.string ⟨s.toArray⟩] 9):=⟨_,rfl⟩
 have hb:Below w.heap.size w W:=by rw [hW];exact ((Below.refl _ _).alloc (W0m _) _).alloc (by simp) _
 have c0:W.cell? ⟨w.heap.size,0,none⟩=some (.slice A l.length c):=by rw [hW];simp [go_sem]
 have c1:W.cell? ⟨w.heap.size+1,0,none⟩=some (.string ⟨s.toArray⟩):=by rw [hW];simp [go_sem]
 have HC:=Lib.hid (Qtv l s A c w.heap.size (w.heap.size+1) W (hl.below hb) hn hsrt c0 c1);have hat:=at_pos hsrt s;have hp:=pos_le l s;have HW:=Lib.hid hW;have HB:=Lib.hid hb;by_cases hlt:pos l s<l.length
 ·obtain ⟨b,off,rfl,hbk,hc,hc1,hc2⟩:=(hl.below hb).at (pos l s) hlt;rw [W0d hlt,Option.any_some] at hat;have HAT:=Lib.hid hat;have hi1:(pos l s:Int)<(l.length:Int):=by omega
  have hi0:(0:Int)≤(pos l s:Int):=by omega
  clear hl hsrt hat hW hb;generalize l[pos l s]=x at *;generalize isAt l s=q at *;generalize pos l s=k at *
  go_enter Tryz.func311,Tryz.ntmps311
  go_wp2_with fail
  rw [← HW.out];refine HC.out.mono ?_;rintro e w1 ⟨rfl,n1,rfl⟩
  go_wp2_with fail
  go_quiet (fail)
  go_wp2_with fail
  go_ret2
  exact ⟨by rw [← HAT.out];rfl,Qhv (Qhv HB.out _) _⟩
 ·rw [W1h (by omega),Option.any_none] at hat;have HAT:=Lib.hid hat;have hpl:pos l s=l.length:=by omega
  rw [hpl] at HC ⊢;have hd:decide ((l.length:Int)<(l.length:Int))=false:=by simp
  clear hl hsrt hat hb hlt hp hpl hW;generalize isAt l s=q at *
  go_enter Tryz.func311,Tryz.ntmps311
  go_wp2_with fail
  rw [← HW.out];refine HC.out.mono ?_;rintro e w1 ⟨rfl,n1,rfl⟩
  go_wp2_with fail
  go_quiet (fail)
  go_wp2_with fail
  go_ret2
  exact ⟨by rw [← HAT.out];rfl,Qhv (Qhv HB.out _) _⟩
def findR (l:List Name.Ent) (s:List UInt8):Value:=.tuple #[.int .i64 ((getE l s).getD 0),.bool (isAt l s)]
theorem Zcu (l:List Name.Ent) (s:List UInt8) (A:Option Addr) (c:Nat) (w:World) (hl:Ents w (.slice A l.length c) l) (hn:l.length≤1000000) (hsrt:Srt l) :
  Calls Tryz.prog 282 #[.slice A l.length c,.string ⟨s.toArray⟩] w fun e w'=>e=.returned (findR l s)∧Below w.heap.size w w':=by
 have HC:=Lib.hid (Qoq l s A c w hl hn hsrt);unfold findR;cases hi:isAt l s with
 | true=>
  obtain ⟨x,hx1,hx2,hx3⟩:=get_pos hsrt hi;obtain ⟨hlt,hxe⟩:=W0i.1 hx1;obtain ⟨b,off,rfl,hbk,hc,hc1,hc2⟩:=hl.at (pos l s) hlt;rw [hxe] at hc2;rw [hx3,W2j];rw [hi] at HC;have HC2:=Lib.hid hc2;have hi1:(pos l s:Int)<(l.length:Int):=by omega
  have hi0:(0:Int)≤(pos l s:Int):=by omega
  clear hl hsrt hc1 hc2 hx1 hx2 hx3 hxe hi;generalize pos l s=k at *
  go_enter Tryz.func282,Tryz.ntmps282
  go_wp2_with fail
  refine HC.out.mono ?_;rintro e w1 ⟨rfl,hb1⟩;have hc2:=Qjn hb1 HC2.out;have HB1:=Lib.hid hb1;clear hb1
  go_wp2_with fail
  go_ret2
  exact ⟨rfl,HB1.out⟩
 | false=>
  rw [Qxc hi,Option.getD_none];rw [hi] at HC;clear hl hsrt hi
  go_enter Tryz.func282,Tryz.ntmps282
  go_wp2_with fail
  refine HC.out.mono ?_;rintro e w1 ⟨rfl,hb1⟩;have HB1:=Lib.hid hb1;clear hb1
  go_wp2_with fail
  go_ret2
  exact ⟨rfl,HB1.out⟩
end Go.Proofs.YtkhodpknpligpaaGreat

namespace Go.Proofs.YtkhodpknpligpaaGreat
open Go.RowKit Copyhold Copyhold.Name
end Go.Proofs.YtkhodpknpligpaaGreat

namespace Go.Proofs.YtkhodpknpligpaaGreat
open Go.RowKit Copyhold Copyhold.Name
end Go.Proofs.YtkhodpknpligpaaGreat

namespace Go.Proofs.YtkhodpknpligpaaGreat
open Go.RowKit Copyhold Copyhold.Name
theorem Zgo:Elem Tryz.prog 43 9 (.string ⟨#[]⟩) 1 16:=
 ⟨Tryz.underlying43,by kernel_rfl,by kernel_rfl,by decide⟩
end Go.Proofs.YtkhodpknpligpaaGreat

namespace Go.Proofs.YtkhodpknpligpaaGreat
open Go.RowKit Copyhold
end Go.Proofs.YtkhodpknpligpaaGreat

namespace Go.Proofs.YtkhodpknpligpaaGreat
open Go.RowKit Copyhold Copyhold.Name
end Go.Proofs.YtkhodpknpligpaaGreat

namespace Go.Proofs.YtkhodpknpligpaaGreat
open Go.RowKit Go.Shelf Copyhold Copyhold.Name
attribute [local go_sem] Oper.semAt_some
theorem Ziq (n:Nat) (hn:1≤n) (l Bs n₀ c:Nat) (A:Option Addr) (es:List Name.Ent) (hlen:es.length≤1000000) (J Jx:List (List UInt8)→World→Prop)
  (hY:∀ pre x W,J pre W→pre.length<es.length→YieldAt Fence.wide (n-1) Tryz.prog l #[.string ⟨x.toArray⟩] W fun e W'=>
   (e=.returned (.bool true)∧J (pre++[x]) W'∧Below n₀ W W')∨(e=.returned (.bool false)∧Jx (pre++[x]) W'))
  (hJa:∀ pre W o,J pre W→J pre (W.alloc o))
  (W:World) (hn0:n₀≤W.heap.size) (hBs:W.cell? ⟨Bs,0,none⟩=some (.slice A es.length c)) (hE:Ents W (.slice A es.length c) es) (hat:At (·<n₀) (.slice A es.length c)) (h0:J [] W) :
  CallsIn Fence.wide n Tryz.prog 329 #[.func (.yield l) #[] #[],.pointer (some ⟨Bs,0,none⟩)] W fun e W'=>(∃ v,e=.returned v) ∧
   ((∃ ys,ys=es.map (·.1)∧J ys W')∨(∃ pre,pre <+: es.map (·.1)∧Jx pre W')):=by
 have HE:=Lib.hid hE;have HAT:=Lib.hid hat;clear hE hat;refine callsIn_of_wp Tryz.func329 rfl trivial ?_ rfl;simp only [Tryz.ntmps329,W2h,W0b,W0f,Nat.reduceAdd,Nat.reduceSub,Array.replicate_succ,Array.replicate_zero,List.push_toArray,List.append_toArray,W1v,List.cons_append]
 gi_wp2
 gi_loopw [7] (fun i wr=>∃ k:Nat,k≤es.length∧i=.int .i64 k∧J ((es.take k).map (·.1)) wr∧Below n₀ W wr∧W.heap.size≤wr.heap.size)
  (fun i _=>es.length-(intOf i).toNat)
 case atStart=>exact ⟨0,W0j _,rfl,by simpa using h0,Below.refl _ _,W0m _⟩
 case round=>
  obtain ⟨k,hk,rfl,hJs,hnx,hsz⟩:=hrel;by_cases hlt:k<es.length
  ·have hE':Ents wr (.slice A es.length c) es:=Sl.frame HE.out HAT.out (fun b hb _=>hnx.block b hb) hsz;obtain ⟨b,off,hA,hbk,hc,hc1,hc2⟩:=hE'.at k hlt;subst hA;have hst:(es.take (k+1)).map (·.1)=(es.take k).map (·.1)++[es[k].1]:=by
    rw [W14 hlt,W1r];rfl
   have HST:=Lib.hid hst;have hJa':=hJa _ _ (.cells #[strV es[k].1,.int .i64 es[k].2] 125) hJs;have hll:((es.take k).map (·.1)).length<es.length:=by simp;omega
   obtain ⟨fn,tmps,assign,body,hy,hR⟩:=hY _ es[k].1 _ hJa' hll;have HR:=Lib.hid hR;have HNX:=Lib.hid hnx;have HPP:Hid ((es.take (k+1)).map (·.1) <+: es.map (·.1)):=Lib.hid ((List.take_prefix _ _).map _);clear hE' hst hJa' hll hR hnx hJs hY;unfold strV at hy HR;generalize es[k]=x at *
   gi_wp2
   refine HR.out.mono ?_;rintro e W3 (⟨rfl,hJ3,hk3⟩ | ⟨rfl,hJx3⟩)
   ·have hn3:Below n₀ W W3:=(HNX.out.alloc (by omega) _).trans hk3;have hs3:=hk3.size
    gi_wp2
    go_roundw
    case rel=>exact ⟨k+1,by omega,by go_num,by rw [HST.out];exact hJ3,hn3,by simp at hs3;omega⟩
    case measure=>simp [intOf];omega
   ·gi_wp2
    refine bodyPost_ret (results_none rfl _ _ _) rfl ?_;exact ⟨⟨_,rfl⟩,.inr ⟨_,by rw [← HST.out];exact HPP.out,hJx3⟩⟩
  ·obtain rfl:k=es.length:=by omega
   have hfin:(es.take es.length).map (·.1)=es.map (·.1):=by rw [W12]
   have HF:=Lib.hid hfin;clear hfin
   gi_wp2
   go_end0
   exact ⟨⟨_,rfl⟩,.inl (by rw [← HF.out];exact hJs)⟩
theorem Qtj {β:Type} {B:Nat} {J:β→World→Prop} (h:AbidesFrom B J) {s:β} {W:World} (o:Obj) (hs:J s W):J s (W.alloc o):=
 h s W _ none hs (World.grownBy_alloc W o none) (fun r e=>by cases e)
theorem Zmv (n:Nat) (A:Option Addr) (m c:Nat) (w:World) :
  CallsIn Fence.wide n Tryz.prog 310 #[.slice A m c] w fun e w'=>e=.returned (.func (.func 329) #[] #[.pointer (some ⟨w.heap.size,0,none⟩)])∧w'=w.alloc (.cells #[.slice A m c] 83):=by
 refine callsIn_of_wp Tryz.func310 rfl trivial ?_ rfl;simp only [Tryz.ntmps310,W2h,W0b,W0f,Nat.reduceAdd,Nat.reduceSub,Array.replicate_succ,Array.replicate_zero,List.push_toArray,List.append_toArray,W1v,List.cons_append]
 gi_wp2
 go_ret
 exact ⟨rfl,rfl⟩
theorem Qzx (n:Nat) (hn:1≤n) (Bs n₀ c:Nat) (A:Option Addr) (es:List Name.Ent) (hlen:es.length≤1000000) (w:World) (hBs:Bs<w.heap.size) (hn₀:n₀≤w.heap.size)
  (hc:w.cell? ⟨Bs,0,none⟩=some (.slice A es.length c)) (hE:Ents w (.slice A es.length c) es) (hat:At (·<n₀) (.slice A es.length c)) :
  SeqStopsK Fence.wide n Tryz.prog 329 #[.pointer (some ⟨Bs,0,none⟩)] (fun x:List UInt8=>#[Value.string ⟨x.toArray⟩]) (Below n₀) (fun ys=>ys=es.map (·.1)) (fun pre=>pre <+: es.map (·.1)) es.length w:=fun l J Jx W hW hJ _ hY h0=>
 Ziq n hn l Bs n₀ c A es hlen J Jx hY (fun pre W o h=>Qtj hJ o h) W (W09 hn₀ hW.size) ((hW.cell (p:=⟨Bs,0,none⟩) hBs).trans hc) (hE.below hW) hat h0
theorem Zh9:(Tryz.prog.info? 9).map (fun i=>(i.zero,i.size,i.bytes))=some (some (.string ⟨#[]⟩),1,16):=by kernel_rfl
theorem Zjx (n:Nat) (hn:3≤n) (A:Option Addr) (c:Nat) (es:List Name.Ent) (hlen:es.length≤1000000) (w:World) (hE:Ents w (.slice A es.length c) es) :
  CallsIn Fence.wide n Tryz.prog 279 #[.slice A es.length c] w fun e W'=>∃ v,e=.returned v∧W'.ownsRow w.heap.size 9 1 v es.length (es.map fun x=>strV x.1)∧Below w.heap.size w W':=by
 have h1:1≤n:=by omega
 obtain ⟨i0,hi,hz0,hz1,hz2⟩:=info_parts Zh9;obtain ⟨w1,hmk,hown1,hgr1⟩:=Qzh Zgo w w.heap.size es.length (by omega) (by unfold maxLen;omega) (W0m _);have hb1:=(Below.refl w.heap.size w).grown hgr1 (W0m _) (fun g hg=>by cases hg);refine callsIn_of_wp_marks Tryz.func279 rfl trivial ?_ rfl;simp only [Tryz.ntmps279,W2h,W0b,W0f,Nat.reduceAdd,Nat.reduceSub,Array.replicate_succ,Array.replicate_zero,List.push_toArray,List.append_toArray,W1v,List.cons_append]
 gi_wp2_with (refine ⟨trivial,?_⟩;gi_at_call 310;refine (Zmv (n-1) A es.length c _).mono ?_;rintro e w' ⟨rfl,rfl⟩)
 obtain ⟨v1,hv1⟩:∃ v,v=Value.slice (some ⟨w.heap.size,0,none⟩) 0 es.length:=⟨_,rfl⟩
 rw [← hv1] at hown1 ⊢;clear hv1 hmk hgr1;have bO:=Boxed.new w1 43 v1;have bN:=Boxed.new (w1.alloc (.cells #[v1] 43)) 83 (.slice A es.length c);rw [World.size_alloc] at bN;have hB0:Below w.heap.size w ((w1.alloc (.cells #[v1] 43)).alloc (.cells #[.slice A es.length c] 83)):=(hb1.alloc hb1.size _).alloc (by have:=hb1.size;simp;omega) _;have hE0:Ents ((w1.alloc (.cells #[v1] 43)).alloc (.cells #[.slice A es.length c] 83)) (.slice A es.length c) es:=hE.below hB0;refine wpIn_rangeFunc_ownG rfl h1 (gf:=329) (lb:=#[.pointer (some ⟨w1.heap.size+1,0,none⟩)]) rfl trivial (enters_of Tryz.func329 (by kernel_rfl) rfl)
  (Qzx (n-1) (by omega) (w1.heap.size+1) w.heap.size c A es hlen _ (by simp) (by have:=hb1.size;simp;omega) bN.cell hE0 hE.lies) belowK_t (belowK_b (by have:=hb1.size;simp;omega)) (Below.refl _ _) (fun _=>rfl)
  (fun (pre:List (List UInt8)) W=>(∃ v,Boxed W w1.heap.size 43 v∧W.ownsRow w.heap.size 9 1 v pre.length (pre.map strV)∧True)∧Below w.heap.size w W)
  (fun _ _ _=>False)
  (OwnFrom.and (Own.from (holdsRow_own w.heap.size w1.heap.size 43 9 1 (fun (pre:List (List UInt8))=>pre.length) (fun pre=>pre.map strV) (fun pre v=>True)) _) (ownFrom_below (W0m _) (by have:=hb1.size;simp;omega)))
  (fun _ _ _ _ _ hs _ _=>hs)
  ⟨⟨_,bO.alloc _,(hown1.alloc _).alloc _,trivial⟩,hB0⟩
  (fun (x:List UInt8)=>{ tmps:=#[.slice A es.length c,undef,.slice none 0 0,.pointer (some ⟨w1.heap.size,0,none⟩),.string ⟨x.toArray⟩,.slice A es.length c,.int .i64 es.length,v1,.slice A es.length c,.func (.func 329) #[] #[.pointer (some ⟨w1.heap.size+1,0,none⟩)],.string ⟨x.toArray⟩,undef,undef,undef,undef,undef],defers:=[] }) ?assign ?body ?done ?stop
 case assign=>
  intro l x W K hK
  gi_wp2
  exact hK
 case body=>
  rintro l pre x W ⟨⟨v,hv,hrow,-⟩,hB⟩ hlt;have hc:=hv.cell
  gi_wp2_with (gi_at_builtin;refine wpListIn_append_own _ rfl _ _ 43 rfl w.heap.size 9 i0 (.string ⟨#[]⟩) 1 16 Tryz.underlying43 hi hz0 hz1 hz2 rfl (by decide) _ _ _ rfl (hrow.alloc _) ⟨W.heap.size,0,none⟩ 1 1 [.string ⟨x.toArray⟩] rfl rfl (cell_one_new _ _ _) (by simp [Value.oneCell']) (by unfold maxLen;omega) (by omega) (by have:=hB.size;simp;omega) ?_;intro v' w1' hown' hgrow _;obtain ⟨g',cap',rfl⟩:=ownsRow_succ hown';obtain ⟨hv1',hv2,hr2,hk2,hb2⟩:=hv.appended (by decide) hrow hB.size hb1.size hown' hgrow;have hc1:=hv1'.cell;have hf1:=hv1'.frozen)
  exact ⟨hk2.from _,hb2,⟨_,hv2,by simpa [strV] using hr2,trivial⟩,hB.trans hb2⟩
 case done=>
  rintro D ys W hD rfl ⟨⟨v,hv,hrow,-⟩,hB⟩ hK;have hc:=hv.cell
  gi_wp2
  refine ⟨by simp,.inl ⟨_,_,rfl,run_takeDeferred hK,?_⟩⟩;have hr:=ownsRow_putObj hrow (Obj.deferred none) hK rfl;rw [W0a,List.map_map] at hr;exact ⟨_,results_tmp rfl _ _ _,v,rfl,hr,hB.trans (belowK_b (w:=w) (W0m _) W D _ _ (by have:=hb1.size;simp at hD;omega) hK rfl rfl)⟩
 case stop=>
  rintro D c pre W _ _ h _;exact h.elim
end Go.Proofs.YtkhodpknpligpaaGreat

namespace Go.Proofs.YtkhodpknpligpaaGreat
open Go Go.RowKit Copyhold Go.Proofs.Tryz
theorem Zjr (x:Nod):Qag prog 156 [.agg (nodA x)] (aI x.ino):=by
 exact Qac func156 (
 .new fun b1=>.r 1<|.u 3 [b1]<|
 .fi (aI x.ino) [])
theorem Qxy (x:Nod) (n:Int):Qag prog 189 [.agg (nodA x),aI n,.dptr [.val (.func (.func 156) #[] #[])]] (aI (cmpD x.ino n)):=by
 exact Qac func189 (
 .new fun b1=>.r 1<|.u 2 [b1]<|
 .call (Zjr x)<|
 .r 1<|.r 4<|.bd 10 (x.ino<n) (fun p1=>.r 1<|.f (aI (cmpD x.ino n)) [] (aI (-1)) (by exact W2n (W1y aI (cmp1 (by omega)).symm)))
 <| fun p1=>.r 4<|.bd 14 (x.ino>n) (fun p2=>.r 1<|.f (aI (cmpD x.ino n)) [] (aI 1) (by exact W2n (W1y aI (cmp2 (by omega) (by omega)).symm)))
 <| fun p2=>.r 1<|.f (aI (cmpD x.ino n)) [] (aI 0) (by exact W2n (W1y aI (cmp3 (by omega) (by omega)).symm)))
def BsH (l:List Nod) (n:Int) (i j:Nat):Prop:=i≤j∧j≤l.length∧Qaz (fun _ c=>c.ino<n) l i∧∀ k c,j≤k→l[k]?=some c→¬ c.ino<n
theorem bs0 (l:List Nod) (n:Int):BsH l n 0 l.length:=⟨W0j _,W0m _,Qaz.zero _ _,fun k c hk hc=>by have:=Qan hc;omega⟩
theorem bs_up {l:List Nod} {n:Int} {i j h:Nat} {x:Nod} (hr:Qbm l) (H:BsH l n i j) (hx:l[h]?=some x) (q:decide (cmpD x.ino n<0)=true) (hi:i≤h:=by omega) (hj:h<j:=by omega):BsH l n (h+1) j:=by
 rw [Zkv] at q;have q:=of_decide_eq_true q;refine ⟨hj,H.2.1,fun k c hk hc=>?_,H.2.2.2⟩;have:=hr.le hc hx (by omega);show c.ino<n;omega
theorem bs_dn {l:List Nod} {n:Int} {i j h:Nat} {x:Nod} (hr:Qbm l) (H:BsH l n i j) (hx:l[h]?=some x) (q:decide (cmpD x.ino n<0)=false) (hi:i≤h:=by omega) (hj:h<j:=by omega):BsH l n i h:=by
 rw [Zkv] at q;have q:=of_decide_eq_false q;refine ⟨hi,by have:=H.2.1;omega,H.2.2.1,fun k c hk hc=>?_⟩;have:=hr.le hx hc hk;omega
theorem Zkw {l:List Nod} {n:Int} {i j:Nat} (H:BsH l n i j) (hij:¬ i<j):plN l n=i:=
 Qr1 (by have:=H.1;have:=H.2.1;omega) H.2.2.1 (fun x hx=>H.2.2.2 i x (by omega) hx)
theorem Qs8 (l:List Nod) (n:Int) (hl:l.length≤100000) (hr:Qbm l):Qag prog 188 [.sl 5 false (l.map nodA),aI n,.clo 189 [.dptr [.val (.func (.func 156) #[] #[])]]] (.tup [aI (plN l n:Int),aB (thN l n)]):=by
 exact Qac func188 (
 .r 2<|.r 2<|.lm 13 l nodA<|.r 1<|.r 3<|let L1:Lp (Nat × Nat):=⟨fun a1=>⟨[(0,.sl 5 false (l.map nodA)),(1,aI n),(2,.clo 189 [.dptr [.val (.func (.func 156) #[] #[])]]),(8,aI (l.length:Int)),(9,aI (a1.1:Int)),(10,aI (a1.2:Int))],[]⟩,fun a1=>a1.2-a1.1,fun a1=>BsH l n a1.1 a1.2⟩
 .lp L1 (0,l.length) (show BsH l n 0 l.length from (bs0 l n)) [(9,aI 0)] [] ⟨sR,sR,sR,sR,sO,sR,trivial⟩ trivial fun a1 ha1=>
 (fun (i:Nat) (j:Nat) (hH1:BsH l n i j)=>have hb1:=hH1.1;have hb2:=hH1.2.1;.r 3<|.bd 17 ((i:Int)<(j:Int)) (fun p1=>.run 3 [rng .i64 ((i:Int)+(j:Int))] ⟨Qal,trivial⟩<|
 .op (cvR) (3,215,.int .i64 ((i:Int)+(j:Int)),some 21) (fun (_:Unit) σ=>σ.put (some 21) (.val (.int .u64 ((i:Int)+(j:Int))))) (Qt3 (Qqu (by kernel_rfl) (by kernel_rfl) (rngu (by omega) (by omega)))) fun _=>
 .binV .shr 215 (shrN (yk:=.u64) (a:=((i:Int)+(j:Int))) (b:=1) (by omega))<|
 .val 22 (show (.val (.int .u64 (((i:Int)+(j:Int)) / 2 ^ 1)):AV)=.val (.int .u64 (((i+j) / 2:Nat):Int)) from (W1y (fun z=>AV.val (.int .u64 z)) (by rw [show (i:Int)+(j:Int)=((i+j:Nat):Int) from by omega];exact fdiv2 _)))<|.op (cvR) (215,3,.int .u64 (((i+j) / 2:Nat):Int),some 23) (fun (_:Unit) σ=>σ.put (some 23) (.val (.int .i64 (((i+j) / 2:Nat):Int)))) (Qt3 (Qqu (by kernel_rfl) (by kernel_rfl) (Qal))) fun _=>
 .r 1<|.r 3<|.idxM l nodA ((i+j) / 2) (m:=(((i+j) / 2:Nat):Int)) rfl (by have:=hH1.1;have:=hH1.2.1;omega) fun x1 hx1=>
 .r 2<|.call (Qxy x1 n)<|
 .r 1<|.br 31 (decide ((cmpD x1.ino n)<0)) (fun q2=>have p2:=decT q2;.run 3 [rng .i64 ((((i+j) / 2:Nat):Int)+1)] ⟨Qal,trivial⟩<|
 .bk L1 (i,j) (((i+j) / 2+1),j) (show BsH l n ((i+j) / 2+1) j from (bs_up hr hH1 hx1 q2)) (show j-((i+j) / 2+1)<j-i from (by omega)) [(9,aI ((((i+j) / 2:Nat):Int)+1))] [] ⟨sR,sR,sR,sR,W2n (W1y aI (by omega)),sR,trivial⟩ trivial)
 <| fun q2=>have p2:=decF q2;.r 2<|.bk L1 (i,j) (i,((i+j) / 2)) (show BsH l n i ((i+j) / 2) from (bs_dn hr hH1 hx1 q2)) (show ((i+j) / 2)-i<j-i from (by omega)) [(10,aI (((i+j) / 2:Nat):Int))] [] ⟨sR,sR,sR,sR,sR,sO,trivial⟩ trivial)
 <| fun p1=>.r 5<|.bd 39 ((i:Int)<(l.length:Int)) (fun p3=>.r 3<|.idxM l nodA i (m:=(i:Int)) rfl (by omega) fun x2 hx2=>
 .r 2<|.call (Qxy x2 n)<|
 .r 4<|.f (.tup [aI (plN l n:Int),aB (thN l n)]) [] (.tup [aI (i:Int),aB ((cmpD x2.ino n)==0)]) (by
  have e:=Zkw hH1 (by omega);rw [show thN l n=(cmpD x2.ino n==0) from (Qlw e hx2).trans cmp_eq.symm,show plN l n=i from e];exact sR))
 <| fun p3=>.r 11<|.f (.tup [aI (plN l n:Int),aB (thN l n)]) [] (.tup [aI (i:Int),aB false]) (by
  have e:=Zkw hH1 (by omega);have e2:plN l n=l.length:=(by have:=hH1.1;have:=hH1.2.1;omega)
  rw [show thN l n=false from Qyh e2,show plN l n=i from e];exact sR)) a1.1 a1.2 ha1)
theorem Qy9 (l:List Nod) (n:Int) (hl:l.length≤100000) (hr:Qbm l):Qag prog 155 [.sl 5 false (l.map nodA),.val (.func (.func 156) #[] #[]),aI n] (.tup [aI (plN l n:Int),aB (thN l n)]):=by
 exact Qac func155 (let R:AV:=.tup [aI (plN l n:Int),aB (thN l n)];
 .new fun b1=>.r 2<|.frz 4 [0,2,4,6,7] [] [b1=b1] rt1<|
 .r 3<|.call (Qs8 l n hl hr)<|
 .r 4<|.fi R [])
theorem Qvt (f:Fsy) (n:Int) (hl:f.l.length≤100000) (hr:Qbm f.l):Qag prog 126 [.agg (fsyA f),aI n] (.tup [aI (plN f.l n:Int),aB (thN f.l n)]):=by
 exact Qac func126 (let R:AV:=.tup [aI (plN f.l n:Int),aB (thN f.l n)];
 .new fun b1=>.r 2<|.u 3 [b1]<|
 .call (Qy9 f.l n hl hr)<|
 .r 4<|.fi R [])
theorem Qce (f:Fsy) (n:Int) (hl:f.l.length≤100000) (hr:Qbm f.l):Qag prog 82 [.agg (fsyA f),aI n] (.tup [.agg (nodA (Qab f n)),aB (Qav f n)]):=by
 exact Qac func82 (
 .new fun b1=>.new fun b2=>.r 1<|.u 2 [b1]<|
 .call (Qvt f n hl hr)<|
 .r 5<|.r 2<|.br 15 (!(thN f.l n)) (fun q1=>have q1:=notT q1;have p1:=booF q1;.u 3 [b2]<|
 .f (.tup [.agg (nodA (Qab f n)),aB (Qav f n)]) [b2] (.tup [.agg [aI 0,aI 0,aI 0,aS ([]),aN],aB false]) (by
  obtain ⟨e1,e2⟩:=Qnc hr q1;rw [show Qab f n=nod0 from by unfold Qab;rw [e2];rfl,show Qav f n=false from e1];exact W2q ⟨W2r ⟨sR,sR,sR,sR,Sub.nil _ _,trivial⟩,sR,trivial⟩))
 <| fun q1=>have q1:=notF q1;have p1:=booT q1;.u 3 [b1]<|
 .idxM f.l nodA (plN f.l n) (m:=(plN f.l n:Int)) rfl (by obtain ⟨c,hc,_⟩:=Qfq q1;exact Qan hc) fun x1 hx1=>
 .u 3 [b2]<|
 .f (.tup [.agg (nodA (Qab f n)),aB (Qav f n)]) [b2] (.tup [.agg (nodA x1),aB true]) (by
  obtain ⟨e1,e2⟩:=Qo0 hr q1 hx1;rw [show Qab f n=x1 from by unfold Qab;rw [e2];rfl,show Qav f n=true from e1];exact sR))
theorem Qe6 (l:List Nod) (i:Int):plN l i≤l.length:=Zb1 _ _ _
theorem Qfg {l:List Nod} {i:Int} (h:thN l i=true):plN l i<l.length:=by
 obtain ⟨c,hc,_⟩:=Qfq h;exact Qan hc
theorem Qj8 {α:Type} {p:α→Bool} {l:List α} (h:∀ x∈l,p x=true):l.filter p=l:=List.filter_eq_self.2 h
theorem Qic {l:List Nod} {i:Int} (hr:Qbm l):(l.drop (plN l i)).filter (fun x=>x.ino != i)=l.drop (plN l i+if thN l i then 1 else 0):=by
 cases ht:thN l i with
 | true=>
  obtain ⟨c,hc,hi⟩:=Qfq ht;have hlt:=Qan hc;have e:l.drop (plN l i)=c :: l.drop (plN l i+1):=by
   rw [List.drop_eq_getElem_cons hlt];congr 1;exact W0c ((W0d hlt).symm.trans hc)
  rw [e,W2k,W1w (by simp [hi])];refine Qj8 fun x hx=>?_;obtain ⟨k,hk⟩:=W0w hx;rw [W07] at hk;have h3:=W1c.1 hr;have l2:=Qan hk;have:=h3 _ _ hlt l2 (show plN l i<plN l i+1+k by omega);have e1:l[plN l i]=c:=W0c ((W0d hlt).symm.trans hc);have e2:l[plN l i+1+k]=x:=W0c ((W0d l2).symm.trans hk);rw [e1,e2] at this;have hne:¬ x.ino=i:=by omega
  simpa using hne
 | false=>
  refine Qj8 fun x hx=>?_;have h0:=(Qnc hr ht).1;have:=W2c.1 h0 x (W2d hx);simpa [isNo] using this
theorem Qh6 {l:List Nod} {i:Int} (hr:Qbm l):outN l i=l.filter fun x=>x.ino != i:=by
 have e:l.filter (fun x=>x.ino != i)=l.take (plN l i)++(l.drop (plN l i)).filter (fun x=>x.ino != i):=by
  conv=>lhs;rw [← W1g (plN l i) l,W1j]
  congr 1;refine Qj8 fun x hx=>?_;have:=(hr.cut i).1 x hx;have hne:¬ x.ino=i:=by omega
  simpa using hne
 rw [e,Qic hr];unfold outN;cases thN l i with
 | true=>rfl
 | false=>simp
theorem Qme (l:List Nod) (n:Nod):(putN l n).length≤l.length+1:=by
 unfold putN;simp only [W0e,W0b,W0g,W0p];omega
theorem Qug (l:List Nod) (i:Int):(outN l i).length≤l.length:=by
 unfold outN
 split
 ·simp only [W0e,W0g,W0p];omega
 ·exact W0m _
theorem Qe5 (f:Fsy) (n:Nod) (hn:I64 n.ino∧n.ino<9223372036854775807) (hl:f.l.length≤90000) (hr:Qbm f.l):Qag prog 296 [.agg (fsyA f),.agg (nodA n)] (.agg (fsyA (putF f n))):=by
 have hn1:=hn.1.1;have hpl0:=Qe6 f.l n.ino;exact Qac func296 (
 .new fun b1=>.new fun b2=>.new fun b3=>.u 3 [b1,b2]<|
 .call (Qvt f n.ino (by omega) hr)<|
 .r 5<|.r 2<|.r 1<|.br 16 (thN f.l n.ino) (fun q1=>have p1:=booT q1;.run 3 [rng .i64 ((plN f.l n.ino:Int)+1)] ⟨Qal,trivial⟩<|
 .ord [0,1,2,3,4,6,7,8,9,12,13,14,15,16,17,5,10,11,18,19]<|.u 3 [b1]<|
 .slc 5 false (f.l.map nodA) none (some (plN f.l n.ino:Int)) none 0 (plN f.l n.ino) false (.inl ⟨rfl,rfl⟩) (.inr rfl) (.inl ⟨rfl,fun h=>by cases h⟩) (by have hpl:=Qe6 f.l n.ino;(try have hth:=Qfg (by assumption:thN f.l n.ino=true));first | omega | (rw [W0a];omega)) (by have hpl:=Qe6 f.l n.ino;(try have hth:=Qfg (by assumption:thN f.l n.ino=true));first | omega | (rw [W0a];omega))<|
 .u 4 [b2,b1]<|
 .slc 5 false (f.l.map nodA) (some ((plN f.l n.ino:Int)+1)) none none (plN f.l n.ino+1) ((f.l.map nodA).length) false (.inr (W1y some (by omega))) (.inl ⟨rfl,rfl⟩) (.inl ⟨rfl,fun h=>by cases h⟩) (by have hpl:=Qe6 f.l n.ino;(try have hth:=Qfg (by assumption:thN f.l n.ino=true));first | omega | (rw [W0a];omega)) (by have hpl:=Qe6 f.l n.ino;(try have hth:=Qfg (by assumption:thN f.l n.ino=true));first | omega | (rw [W0a];omega))<|
 .run 5 [b1=b1,b2=b2,rng .i64 (n.ino+1)] ⟨rfl,rfl,Qal,trivial⟩<|
 .op (mxR) (f.next,n.ino+1,some 36) (fun (_:Unit) σ=>σ.put (some 36) (aI (if (n.ino+1)>f.next then n.ino+1 else f.next))) (Qt1) fun _=>
 .r 2<|.cs (args0:=[.sl 1 true ([[.sl 5 false (((f.l.map nodA).take (plN f.l n.ino)).drop 0)],[.sl 5 true ([(nodA n)])],[.sl 5 false (((f.l.map nodA).take ((f.l.map nodA).length)).drop (plN f.l n.ino+1))]])]) (Qf3 [((f.l.map nodA).take (plN f.l n.ino)).drop 0,[(nodA n)],((f.l.map nodA).take ((f.l.map nodA).length)).drop (plN f.l n.ino+1)] (by simp) (by simp only [W1f,List.flatten_nil,W0e,W0g,W0p,W0a,W0b,W0f];omega)) ⟨pcs3 _ _ _,trivial⟩<|
 .u 2 [b3]<|
 .f (.agg (fsyA (putF f n))) [b3] (.agg [.sl 5 false ([((f.l.map nodA).take (plN f.l n.ino)).drop 0,[(nodA n)],((f.l.map nodA).take ((f.l.map nodA).length)).drop (plN f.l n.ino+1)].flatten),aI (if (n.ino+1)>f.next then n.ino+1 else f.next)]) (by
  refine W2r ⟨W2n (W1y (AV.sl 5 false) ?_),W2n (W1y aI rfl),trivial⟩;show _=(putN f.l n).map nodA;unfold putN;rw [q1];simp [nodA,W16,W2e,Qap]))
 <| fun q1=>have p1:=booF q1;.ord [0,1,2,3,4,6,7,8,9,12,13,14,15,16,17,5,10,11,18,19]<|.u 3 [b1]<|
 .slc 5 false (f.l.map nodA) none (some (plN f.l n.ino:Int)) none 0 (plN f.l n.ino) false (.inl ⟨rfl,rfl⟩) (.inr rfl) (.inl ⟨rfl,fun h=>by cases h⟩) (by have hpl:=Qe6 f.l n.ino;(try have hth:=Qfg (by assumption:thN f.l n.ino=true));first | omega | (rw [W0a];omega)) (by have hpl:=Qe6 f.l n.ino;(try have hth:=Qfg (by assumption:thN f.l n.ino=true));first | omega | (rw [W0a];omega))<|
 .u 4 [b2,b1]<|
 .slc 5 false (f.l.map nodA) (some (plN f.l n.ino:Int)) none none (plN f.l n.ino) ((f.l.map nodA).length) false (.inr rfl) (.inl ⟨rfl,rfl⟩) (.inl ⟨rfl,fun h=>by cases h⟩) (by have hpl:=Qe6 f.l n.ino;(try have hth:=Qfg (by assumption:thN f.l n.ino=true));first | omega | (rw [W0a];omega)) (by have hpl:=Qe6 f.l n.ino;(try have hth:=Qfg (by assumption:thN f.l n.ino=true));first | omega | (rw [W0a];omega))<|
 .run 5 [b1=b1,b2=b2,rng .i64 (n.ino+1)] ⟨rfl,rfl,Qal,trivial⟩<|
 .op (mxR) (f.next,n.ino+1,some 36) (fun (_:Unit) σ=>σ.put (some 36) (aI (if (n.ino+1)>f.next then n.ino+1 else f.next))) (Qt1) fun _=>
 .r 2<|.cs (args0:=[.sl 1 true ([[.sl 5 false (((f.l.map nodA).take (plN f.l n.ino)).drop 0)],[.sl 5 true ([(nodA n)])],[.sl 5 false (((f.l.map nodA).take ((f.l.map nodA).length)).drop (plN f.l n.ino))]])]) (Qf3 [((f.l.map nodA).take (plN f.l n.ino)).drop 0,[(nodA n)],((f.l.map nodA).take ((f.l.map nodA).length)).drop (plN f.l n.ino)] (by simp) (by simp only [W1f,List.flatten_nil,W0e,W0g,W0p,W0a,W0b,W0f];omega)) ⟨pcs3 _ _ _,trivial⟩<|
 .u 2 [b3]<|
 .f (.agg (fsyA (putF f n))) [b3] (.agg [.sl 5 false ([((f.l.map nodA).take (plN f.l n.ino)).drop 0,[(nodA n)],((f.l.map nodA).take ((f.l.map nodA).length)).drop (plN f.l n.ino)].flatten),aI (if (n.ino+1)>f.next then n.ino+1 else f.next)]) (by
  refine W2r ⟨W2n (W1y (AV.sl 5 false) ?_),W2n (W1y aI rfl),trivial⟩;show _=(putN f.l n).map nodA;unfold putN;rw [q1];simp [nodA,W16,W2e,Qap]))
theorem Zhg (f:Fsy) (i:Int) (hl:f.l.length≤90000) (hr:Qbm f.l):Qag prog 327 [.agg (fsyA f),aI i] (.agg (fsyA (outF f i))):=by
 have hpl0:=Qe6 f.l i;exact Qac func327 (
 .new fun b1=>.new fun b2=>.u 2 [b1]<|
 .call (Qvt f i (by omega) hr)<|
 .r 5<|.r 2<|.br 14 (!(thN f.l i)) (fun q1=>have q1:=notT q1;have p1:=booF q1;.u 2 [b1,b2]<|
 .f (.agg (fsyA (outF f i))) [b2] (.agg (fsyA f)) (by exact W2r ⟨W2n (by rw [show (outF f i).l=f.l from by show outN f.l i=_;unfold outN;rw [W1w (by rw [q1];simp)]]),sR,trivial⟩))
 <| fun q1=>have q1:=notF q1;have p1:=booT q1;.ord [0,1,2,3,4,5,6,7,8,11,12,9,10,13,14]<|.u 3 [b1]<|
 .slc 5 false (f.l.map nodA) none (some (plN f.l i:Int)) none 0 (plN f.l i) false (.inl ⟨rfl,rfl⟩) (.inr rfl) (.inl ⟨rfl,fun h=>by cases h⟩) (by have hpl:=Qe6 f.l i;(try have hth:=Qfg (by assumption:thN f.l i=true));first | omega | (rw [W0a];omega)) (by have hpl:=Qe6 f.l i;(try have hth:=Qfg (by assumption:thN f.l i=true));first | omega | (rw [W0a];omega))<|
 .run 4 [b1=b1,rng .i64 ((plN f.l i:Int)+1)] ⟨rfl,Qal,trivial⟩<|
 .slc 5 false (f.l.map nodA) (some ((plN f.l i:Int)+1)) none none (plN f.l i+1) ((f.l.map nodA).length) false (.inr (W1y some (by omega))) (.inl ⟨rfl,rfl⟩) (.inl ⟨rfl,fun h=>by cases h⟩) (by have hpl:=Qe6 f.l i;(try have hth:=Qfg (by assumption:thN f.l i=true));first | omega | (rw [W0a];omega)) (by have hpl:=Qe6 f.l i;(try have hth:=Qfg (by assumption:thN f.l i=true));first | omega | (rw [W0a];omega))<|
 .u 3 [b1]<|
 .cs (args0:=[.sl 1 true ([[.sl 5 false (((f.l.map nodA).take (plN f.l i)).drop 0)],[.sl 5 false (((f.l.map nodA).take ((f.l.map nodA).length)).drop (plN f.l i+1))]])]) (Qf3 [((f.l.map nodA).take (plN f.l i)).drop 0,((f.l.map nodA).take ((f.l.map nodA).length)).drop (plN f.l i+1)] (by simp) (by simp only [W1f,List.flatten_nil,W0e,W0g,W0p,W0a,W0b,W0f];omega)) ⟨pcs2 _ _,trivial⟩<|
 .u 2 [b2]<|
 .f (.agg (fsyA (outF f i))) [b2] (.agg [.sl 5 false ([((f.l.map nodA).take (plN f.l i)).drop 0,((f.l.map nodA).take ((f.l.map nodA).length)).drop (plN f.l i+1)].flatten),aI f.next]) (by
  refine W2r ⟨W2n (W1y (AV.sl 5 false) ?_),sR,trivial⟩;show _=(outN f.l i).map nodA;unfold outN;rw [W1x q1];simp [W16,W2e,Qap]))
end Go.Proofs.YtkhodpknpligpaaGreat
