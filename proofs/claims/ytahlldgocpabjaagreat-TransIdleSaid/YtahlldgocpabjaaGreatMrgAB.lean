import Derived.Test.YtahlldgocpabjaaGreatMrgAA
import Derived.Test.YtahlldgocpabjaaGreatMrgU
import Derived.Test.YtahlldgocpabjaaGreatMrgW
set_option maxRecDepth 100000
set_option maxHeartbeats 8000000
set_option linter.unusedVariables false
set_option linter.unusedSimpArgs false
namespace Go.Proofs.YtahlldgocpabjaaGreat
open Go Go.RowKit Copyhold Go.Proofs.Tryz
theorem Qu8 (f:Fsy) (okf:OkF f) (hf:midF f):Qah prog 46 [.agg (fsyA f)] (aB (dP (Qlr f))):=by
 have hfl:=okf.2.1;have hul:=Qr7 hf 1;exact Qac func46 (let R:AV:=aB (dP (Qlr f));
 .new fun b1=>.r 1<|.u 1 [b1]<|
 .call (Qzm f okf)<|
 .r 1<|.r 3<|.br 15 (!(dP (Qar f))) (fun q1=>have q1:=notT q1;have p1:=booF q1;.r 29<|.r 1<|.f R [] (aB false) (by
  refine sF (fun h=>?_);obtain ⟨g,⟨n,hn,a,b,c⟩,_⟩:=h
  first | exact Qab.1 (by assumption) g | (have:=Qap hn;omega)))
 <| fun q1=>have q1:=notF q1;have p1:=booT q1;.u 3 [b1]<|
 .lm 18 f.l nodA<|.r 3<|.br 21 (decide ((f.l.length:Int)<1)) (fun q2=>have p2:=decT q2;.r 23<|.r 1<|.f R [] (aB false) (by
  refine sF (fun h=>?_);obtain ⟨g,⟨n,hn,a,b,c⟩,_⟩:=h
  first | exact Qab.1 (by assumption) g | (have:=Qap hn;omega)))
 <| fun q2=>have p2:=decF q2;.u 2 [b1]<|
 .idxM f.l nodA 0 (m:=0) rfl (by omega) fun x1 hx1=>
 have okx1:=okf.2.2 x1 (List.mem_of_getElem? hx1);have blx1:=okx1.2.2.2.2.1;.r 5<|.br 29 (x1.ino != 1) (fun q3=>have p3:=bneT q3;.r 15<|.r 1<|.f R [] (aB false) (by
  refine sF (fun h=>?_);obtain ⟨g,⟨n,hn,a,b,c⟩,_⟩:=h
  first | exact Qab.1 (by assumption) g | (have:=Qap hn;omega)| (rw [hx1] at hn;obtain rfl:=Option.some.inj hn;omega)))
 <| fun q3=>have p3:=bneF q3;.u 2 [b1]<|
 .idx 0 (m:=0) (xs:=f.l.map nodA) (e:=nodA x1) rfl (map_some hx1)<|
 .r 5<|.br 37 (x1.kind != 2) (fun q4=>have p4:=bneT q4;.r 7<|.r 1<|.f R [] (aB false) (by
  refine sF (fun h=>?_);obtain ⟨g,⟨n,hn,a,b,c⟩,_⟩:=h
  first | exact Qab.1 (by assumption) g | (have:=Qap hn;omega)| (rw [hx1] at hn;obtain rfl:=Option.some.inj hn;omega)))
 <| fun q4=>have p4:=bneF q4;.u 2 [b1]<|
 .idx 0 (m:=0) (xs:=f.l.map nodA) (e:=nodA x1) rfl (map_some hx1)<|
 .r 4<|.br 44 (x1.links != 0) (fun q5=>have p5:=bneT q5;.r 1<|.f R [] (aB false) (by
  refine sF (fun h=>?_);obtain ⟨g,⟨n,hn,a,b,c⟩,_⟩:=h
  first | exact Qab.1 (by assumption) g | (have:=Qap hn;omega)| (rw [hx1] at hn;obtain rfl:=Option.some.inj hn;omega)))
 <| fun q5=>have p5:=bneF q5;.u 1 [b1]<|
 .call (Qml f 1 okf hf)<|
 .r 1<|.r 1<|let L1:Lp (Nat):=⟨fun a1=>⟨[(1,.ptr 1 b1 0),(4,.sl 1 false ((Qc4 f 1).map intA)),(5,aI (a1:Int))],[(1,.box b1 28 (fsyA f))]⟩,fun a1=>f.l.length-a1,fun a1=>Qa6 (Qvo f) f.l a1⟩
 .lp L1 0 (show Qa6 (Qvo f) f.l 0 from (Qa6.zero _ _)) [(5,aI 0)] [] ⟨sR,sR,sO,trivial⟩ bb1 fun a1 ha1=>
 (fun (k:Nat) (hH1:Qa6 (Qvo f) f.l k)=>.u 4 [b1]<|
 .lm 50 f.l nodA<|.r 1<|.br 51 (decide ((k:Int)<(f.l.length:Int))) (fun q6=>have p6:=decT q6;.u 3 [b1]<|
 .idxM f.l nodA k (m:=(k:Int)) rfl (by omega) fun x2 hx2=>
 have okx2:=okf.2.2 x2 (List.mem_of_getElem? hx2);have blx2:=okx2.2.2.2.2.1;.r 1<|.new fun b2=>.u 1 [b2]<|
 .ord [0,1,2,3,4,5,6]<|.u 5 [b2,b1,b2]<|
 .call (Qvp f x2.ino okf hf)<|
 .r 1<|.br 65 (x2.links != (Qpg f x2.ino:Int)) (fun q7=>have p7:=bneT q7;.r 1<|.f R [] (aB false) (by
  refine sF (fun h=>?_);have g:=(h.2.2.at hx2).1;omega))
 <| fun q7=>have p7:=bneF q7;.u 3 [b2]<|
 .call (Qkg (Qc4 f 1) x2.ino (by omega))<|
 .r 1<|.r 3<|.br 72 (decide ((k:Int)>0)) (fun q8=>have p8:=decT q8;.u 4 [b2]<|
 .br 76 (decide (x2.links<1)) (fun q9=>have p9:=decT q9;.r 14<|.r 1<|.f (aB (dP (Qlr f))) [] (aB false) (by
  refine sF (fun h=>?_);have g:=(h.2.2.at hx2).2.1;rw [show Qnm f k x2=false from by unfold Qnm;simp only [q8,q9,Bool.and_false,Bool.false_and,Bool.true_and,Bool.and_true,Bool.or_false,Bool.false_or,Bool.or_true,Bool.true_or,Bool.not_true,Bool.not_false]] at g;cases g))
 <| fun q9=>have p9:=decF q9;.u 4 [b2]<|
 .br 80 (x2.kind==2) (fun q10=>have p10:=beqT q10;.u 4 [b2]<|
 .br 84 (decide (x2.links>1)) (fun q11=>have p11:=decT q11;.r 6<|.r 1<|.f (aB (dP (Qlr f))) [] (aB false) (by
  refine sF (fun h=>?_);have g:=(h.2.2.at hx2).2.1;rw [show Qnm f k x2=false from by unfold Qnm;simp only [q8,q9,q10,q11,Bool.and_false,Bool.false_and,Bool.true_and,Bool.and_true,Bool.or_false,Bool.false_or,Bool.or_true,Bool.true_or,Bool.not_true,Bool.not_false]] at g;cases g))
 <| fun q11=>have p11:=decF q11;.r 6<|.br 90 (!(hasB (Qc4 f 1) x2.ino)) (fun q12=>have q12:=notT q12;have p12:=booF q12;.r 1<|.f (aB (dP (Qlr f))) [] (aB false) (by
  refine sF (fun h=>?_);have g:=(h.2.2.at hx2).2.1;rw [show Qnm f k x2=false from by unfold Qnm;simp only [q8,q9,q10,q11,q12,Bool.and_false,Bool.false_and,Bool.true_and,Bool.and_true,Bool.or_false,Bool.false_or,Bool.or_true,Bool.true_or,Bool.not_true,Bool.not_false]] at g;cases g))
 <| fun q12=>have q12:=notF q12;have p12:=booT q12;.r 1<|let L2:Lp (Nat):=⟨fun a2=>⟨[(1,.ptr 1 b1 0),(4,.sl 1 false ((Qc4 f 1).map intA)),(5,aI (k:Int)),(6,.ptr 6 b2 0),(8,aI (a2:Int))],[(1,.box b1 28 (fsyA f)),(6,.box b2 84 (nodA x2))]⟩,fun a2=>x2.l.length-a2,fun a2=>Qa6 (fun _ e=>Qau f e.ino=true) x2.l a2⟩
 .lp L2 0 (show Qa6 (fun _ e=>Qau f e.ino=true) x2.l 0 from Qa6.zero _ _) [(8,aI 0)] [] ⟨sR,sR,sR,sR,sO,trivial⟩ bb2 fun a2 ha2=>
 (fun (j:Nat) (hH2:Qa6 (fun _ e=>Qau f e.ino=true) x2.l j)=>.u 4 [b2]<|
 .lm 94 x2.l entA<|.r 1<|.br 95 (decide ((j:Int)<(x2.l.length:Int))) (fun q13=>have p13:=decT q13;.pick [0,1,2,3,4,5,6]<|.u 4 [b1,b2]<|
 .idxM x2.l entA j (m:=(j:Int)) rfl (by omega) fun x3 hx3=>
 .r 2<|.fork<|.alt (.call (Qa1 f x3.ino (by omega))<|
 .pick [8,9,10,11,12,13]<|.r 3<|.new fun b3=>.u 2 [b3]<|
 .r 2<|.br 110 (!(Qau f x3.ino)) (fun q14=>have q14:=notT q14;have p14:=booF q14;.r 1<|.f R [] (aB false) (by
  refine sF (fun h=>?_);have g:=(h.2.2.at hx2).2.2.at hx3;simp_all))
 <| fun q14=>have q14:=notF q14;have p14:=booT q14;.run 3 [rng .i64 ((j:Int)+1)] ⟨Qak (by omega) (by omega),trivial⟩<|
 .bk L2 j (j+1) (show Qa6 (fun _ e=>Qau f e.ino=true) x2.l (j+1) from (hH2.step hx3 (by assumption))) (show x2.l.length-(j+1)<x2.l.length-j from (by omega)) [(8,aI ((j:Int)+1))] [] ⟨sR,sR,sR,sR,sO,trivial⟩ bb2)
 <| .new fun b4=>.pick [7,8,9,10,12,13]<|.call (Qa1 f x3.ino (by omega))<|
 .u 5 [b4]<|
 .r 2<|.br 110 (!(Qau f x3.ino)) (fun q15=>have q15:=notT q15;have p15:=booF q15;.r 1<|.f R [] (aB false) (by
  refine sF (fun h=>?_);have g:=(h.2.2.at hx2).2.2.at hx3;simp_all))
 <| fun q15=>have q15:=notF q15;have p15:=booT q15;.run 3 [rng .i64 ((j:Int)+1)] ⟨Qak (by omega) (by omega),trivial⟩<|
 .bk L2 j (j+1) (show Qa6 (fun _ e=>Qau f e.ino=true) x2.l (j+1) from (hH2.step hx3 (by assumption))) (show x2.l.length-(j+1)<x2.l.length-j from (by omega)) [(8,aI ((j:Int)+1))] [] ⟨sR,sR,sR,sR,sO,trivial⟩ bb2)
 <| fun q13=>have p13:=decF q13;.run 3 [rng .i64 ((k:Int)+1)] ⟨Qak (by omega) (by omega),trivial⟩<|
 .bk L1 k (k+1) (show Qa6 (Qvo f) f.l (k+1) from (hH1.step hx2 ⟨by omega,(by unfold Qnm;simp only [q8,q9,q10,q11,q12,Bool.and_false,Bool.false_and,Bool.true_and,Bool.and_true,Bool.or_false,Bool.false_or,Bool.or_true,Bool.true_or,Bool.not_true,Bool.not_false]),hH2.full (by omega)⟩)) (show f.l.length-(k+1)<f.l.length-k from (by omega)) [(5,aI ((k:Int)+1))] [] ⟨sR,sR,sO,trivial⟩ bb1) a2 ha2)
 <| fun q10=>have p10:=beqF q10;.r 10<|.r 1<|let L2:Lp (Nat):=⟨fun a2=>⟨[(1,.ptr 1 b1 0),(4,.sl 1 false ((Qc4 f 1).map intA)),(5,aI (k:Int)),(6,.ptr 6 b2 0),(8,aI (a2:Int))],[(1,.box b1 28 (fsyA f)),(6,.box b2 84 (nodA x2))]⟩,fun a2=>x2.l.length-a2,fun a2=>Qa6 (fun _ e=>Qau f e.ino=true) x2.l a2⟩
 .lp L2 0 (show Qa6 (fun _ e=>Qau f e.ino=true) x2.l 0 from Qa6.zero _ _) [(8,aI 0)] [] ⟨sR,sR,sR,sR,sO,trivial⟩ bb2 fun a2 ha2=>
 (fun (j:Nat) (hH2:Qa6 (fun _ e=>Qau f e.ino=true) x2.l j)=>.u 4 [b2]<|
 .lm 94 x2.l entA<|.r 1<|.br 95 (decide ((j:Int)<(x2.l.length:Int))) (fun q16=>have p16:=decT q16;.pick [0,1,2,3,4,5,6]<|.u 4 [b1,b2]<|
 .idxM x2.l entA j (m:=(j:Int)) rfl (by omega) fun x4 hx4=>
 .r 2<|.fork<|.alt (.call (Qa1 f x4.ino (by omega))<|
 .pick [8,9,10,11,12,13]<|.r 3<|.new fun b5=>.u 2 [b5]<|
 .r 2<|.br 110 (!(Qau f x4.ino)) (fun q17=>have q17:=notT q17;have p17:=booF q17;.r 1<|.f R [] (aB false) (by
  refine sF (fun h=>?_);have g:=(h.2.2.at hx2).2.2.at hx4;simp_all))
 <| fun q17=>have q17:=notF q17;have p17:=booT q17;.run 3 [rng .i64 ((j:Int)+1)] ⟨Qak (by omega) (by omega),trivial⟩<|
 .bk L2 j (j+1) (show Qa6 (fun _ e=>Qau f e.ino=true) x2.l (j+1) from (hH2.step hx4 (by assumption))) (show x2.l.length-(j+1)<x2.l.length-j from (by omega)) [(8,aI ((j:Int)+1))] [] ⟨sR,sR,sR,sR,sO,trivial⟩ bb2)
 <| .new fun b6=>.pick [7,8,9,10,12,13]<|.call (Qa1 f x4.ino (by omega))<|
 .u 5 [b6]<|
 .r 2<|.br 110 (!(Qau f x4.ino)) (fun q18=>have q18:=notT q18;have p18:=booF q18;.r 1<|.f R [] (aB false) (by
  refine sF (fun h=>?_);have g:=(h.2.2.at hx2).2.2.at hx4;simp_all))
 <| fun q18=>have q18:=notF q18;have p18:=booT q18;.run 3 [rng .i64 ((j:Int)+1)] ⟨Qak (by omega) (by omega),trivial⟩<|
 .bk L2 j (j+1) (show Qa6 (fun _ e=>Qau f e.ino=true) x2.l (j+1) from (hH2.step hx4 (by assumption))) (show x2.l.length-(j+1)<x2.l.length-j from (by omega)) [(8,aI ((j:Int)+1))] [] ⟨sR,sR,sR,sR,sO,trivial⟩ bb2)
 <| fun q16=>have p16:=decF q16;.run 3 [rng .i64 ((k:Int)+1)] ⟨Qak (by omega) (by omega),trivial⟩<|
 .bk L1 k (k+1) (show Qa6 (Qvo f) f.l (k+1) from (hH1.step hx2 ⟨by omega,(by unfold Qnm;simp only [q8,q9,q10,Bool.and_false,Bool.false_and,Bool.true_and,Bool.and_true,Bool.or_false,Bool.false_or,Bool.or_true,Bool.true_or,Bool.not_true,Bool.not_false]),hH2.full (by omega)⟩)) (show f.l.length-(k+1)<f.l.length-k from (by omega)) [(5,aI ((k:Int)+1))] [] ⟨sR,sR,sO,trivial⟩ bb1) a2 ha2)
 <| fun q8=>have p8:=decF q8;.r 18<|.r 1<|let L2:Lp (Nat):=⟨fun a2=>⟨[(1,.ptr 1 b1 0),(4,.sl 1 false ((Qc4 f 1).map intA)),(5,aI (k:Int)),(6,.ptr 6 b2 0),(8,aI (a2:Int))],[(1,.box b1 28 (fsyA f)),(6,.box b2 84 (nodA x2))]⟩,fun a2=>x2.l.length-a2,fun a2=>Qa6 (fun _ e=>Qau f e.ino=true) x2.l a2⟩
 .lp L2 0 (show Qa6 (fun _ e=>Qau f e.ino=true) x2.l 0 from Qa6.zero _ _) [(8,aI 0)] [] ⟨sR,sR,sR,sR,sO,trivial⟩ bb2 fun a2 ha2=>
 (fun (j:Nat) (hH2:Qa6 (fun _ e=>Qau f e.ino=true) x2.l j)=>.u 4 [b2]<|
 .lm 94 x2.l entA<|.r 1<|.br 95 (decide ((j:Int)<(x2.l.length:Int))) (fun q19=>have p19:=decT q19;.pick [0,1,2,3,4,5,6]<|.u 4 [b1,b2]<|
 .idxM x2.l entA j (m:=(j:Int)) rfl (by omega) fun x5 hx5=>
 .r 2<|.fork<|.alt (.call (Qa1 f x5.ino (by omega))<|
 .pick [8,9,10,11,12,13]<|.r 3<|.new fun b7=>.u 2 [b7]<|
 .r 2<|.br 110 (!(Qau f x5.ino)) (fun q20=>have q20:=notT q20;have p20:=booF q20;.r 1<|.f R [] (aB false) (by
  refine sF (fun h=>?_);have g:=(h.2.2.at hx2).2.2.at hx5;simp_all))
 <| fun q20=>have q20:=notF q20;have p20:=booT q20;.run 3 [rng .i64 ((j:Int)+1)] ⟨Qak (by omega) (by omega),trivial⟩<|
 .bk L2 j (j+1) (show Qa6 (fun _ e=>Qau f e.ino=true) x2.l (j+1) from (hH2.step hx5 (by assumption))) (show x2.l.length-(j+1)<x2.l.length-j from (by omega)) [(8,aI ((j:Int)+1))] [] ⟨sR,sR,sR,sR,sO,trivial⟩ bb2)
 <| .new fun b8=>.pick [7,8,9,10,12,13]<|.call (Qa1 f x5.ino (by omega))<|
 .u 5 [b8]<|
 .r 2<|.br 110 (!(Qau f x5.ino)) (fun q21=>have q21:=notT q21;have p21:=booF q21;.r 1<|.f R [] (aB false) (by
  refine sF (fun h=>?_);have g:=(h.2.2.at hx2).2.2.at hx5;simp_all))
 <| fun q21=>have q21:=notF q21;have p21:=booT q21;.run 3 [rng .i64 ((j:Int)+1)] ⟨Qak (by omega) (by omega),trivial⟩<|
 .bk L2 j (j+1) (show Qa6 (fun _ e=>Qau f e.ino=true) x2.l (j+1) from (hH2.step hx5 (by assumption))) (show x2.l.length-(j+1)<x2.l.length-j from (by omega)) [(8,aI ((j:Int)+1))] [] ⟨sR,sR,sR,sR,sO,trivial⟩ bb2)
 <| fun q19=>have p19:=decF q19;.run 3 [rng .i64 ((k:Int)+1)] ⟨Qak (by omega) (by omega),trivial⟩<|
 .bk L1 k (k+1) (show Qa6 (Qvo f) f.l (k+1) from (hH1.step hx2 ⟨by omega,(by unfold Qnm;simp only [q8,Bool.and_false,Bool.false_and,Bool.true_and,Bool.and_true,Bool.or_false,Bool.false_or,Bool.or_true,Bool.true_or,Bool.not_true,Bool.not_false]),hH2.full (by omega)⟩)) (show f.l.length-(k+1)<f.l.length-k from (by omega)) [(5,aI ((k:Int)+1))] [] ⟨sR,sR,sO,trivial⟩ bb1) a2 ha2)
 <| fun q6=>have p6:=decF q6;.r 1<|.f R [] (aB true) (by exact sT ⟨Qaw.1 (by assumption),⟨x1,hx1,by omega,by omega,by omega⟩,hH1.full (by omega)⟩)) a1 ha1)
theorem Qtc {f:Fsy} {i:Int} (hp:Qar f) (hf:midF f):∀ (n:Nat) {U:List Int} (p:Nat),Dst f U→260≤n+p→(∀ y∈Qa5 f i,hasB U y=true)→(∀ k z,k<p→U[k]?=some z→∀ y∈Qa5 f z,hasB U y=true) →
  (∀ y∈Qa5 f i,hasB (goU f n U p) y=true)∧∀ z,hasB (goU f n U p) z=true→∀ y∈Qa5 f z,hasB (goU f n U p) y=true
 | 0,U,p,hd,hn,hi,h=>by
  have hl:=hd.leM hf;refine ⟨hi,fun z hz=>?_⟩;obtain ⟨k,hk⟩:=List.getElem?_of_mem (Qis.1 hz);have hk':U[k]?=some z:=hk;exact h k z (by have:=Qap hk';omega) hk'
 | n+1,U,p,hd,hn,hi,h=>by
  simp only [goU]
  split
  ·rename_i y hy;have mono:∀ z,hasB U z=true→hasB (addE U (Qaa f y).l) z=true:=fun z hz=>Qof.2 (.inl hz);refine Qtc hp hf n (p+1) (Qfu hd fun e he=>Qfs he) (by omega) (fun z hz=>mono z (hi z hz)) fun k z hk hz w hw=>?_;by_cases hkp:k<p
   ·have hk2:k<U.length:=by have:=Qap hy;omega
    have e:U[k]?=some z:=by
     have:=Qmi (l:=(Qaa f y).l) (List.getElem?_eq_getElem hk2);rw [this] at hz;rw [List.getElem?_eq_getElem hk2];exact hz
    exact mono w (h k z hkp e w hw)
   ·have e:k=p:=by omega
    subst e;rw [Qmi hy] at hz;obtain rfl:=Option.some.inj hz;exact Qof.2 (.inr (by rw [Qh1 hp];exact hw))
  ·rename_i hnone;refine ⟨hi,fun z hz=>?_⟩;obtain ⟨k,hk⟩:=List.getElem?_of_mem (Qis.1 hz);have:U.length≤p:=by
    cases Nat.lt_or_ge p U.length with
    | inl hlt=>rw [List.getElem?_eq_getElem hlt] at hnone;cases hnone
    | inr hge=>exact hge
   exact h k z (by have:=Qap hk;omega) hk
theorem Qy5 {f:Fsy} {i z:Int} (hp:Qar f) (hf:midF f):hasB (Qc4 f i) z=true↔Reach f i z:=by
 have h0:∀ y,hasB (addE [] (Qaa f i).l) y=true↔y∈Qa5 f i:=fun y=>by
  rw [Qof,Qh1 hp];simp [hasB]
 refine ⟨Qnv hp 300 0 (fun y hy=>.one ((h0 y).1 hy)) z,fun h=>?_⟩;obtain ⟨g1,g2⟩:=Qtc (i:=i) hp hf 300 0 (Qfu (Dst.nil f) fun e he=>Qfs he) (by omega) (fun y hy=>(h0 y).2 hy) (fun k z hk=>absurd hk (Nat.not_lt_zero k));have main:∀ a b,Reach f a b→(∀ y∈Qa5 f a,hasB (Qc4 f i) y=true)→hasB (Qc4 f i) b=true:=by
  intro a b hab
  induction hab with
  | one h=>exact fun hk=>hk _ h
  | more h _ ih=>exact fun hk=>ih (g2 _ (hk _ h))
 exact main i z h g1
end Go.Proofs.YtahlldgocpabjaaGreat

namespace Go.Proofs.YtahlldgocpabjaaGreat
open Go Go.RowKit Copyhold Go.Proofs.Tryz
open Copyhold.Name (Srt insE delE getE isAt)
theorem Qmm {f:Fsy} {i z:Int} (hp:Qar f) (hf:midF f):hasB (Qc4 f i) z=hasB (Qd7 f i) z:=by
 rw [Bool.eq_iff_iff,Qy5 hp hf,Qho]
theorem over_8 {n m:Nod} (h1:n.kind=2) (h2:¬ m.kind=2):Qdb n m=8:=by
 unfold Qdb;have a:(n.kind==2)=true:=by simpa using h1
 have b:(m.kind==2)=false:=by simpa using h2
 rw [a,b];rfl
theorem over_9 {n m:Nod} (h1:¬ n.kind=2) (h2:m.kind=2):Qdb n m=9:=by
 unfold Qdb;have a:(n.kind==2)=false:=by simpa using h1
 have b:(m.kind==2)=true:=by simpa using h2
 rw [a,b];rfl
theorem Zdk {n m:Nod} (hm:nodP m) (h:m.kind=2↔n.kind=2) (hl:(m.l.length:Int)>0):Qdb n m=11:=by
 have hk:m.kind=2:=by
  by_cases hk:m.kind=2
  ·exact hk
  ·rw [Qgm hm hk] at hl;simp at hl
 unfold Qdb Qc7;have a:(n.kind==2)=true:=by simpa using h.1 hk
 have b:(m.kind==2)=true:=by simpa using hk
 rw [a,b,decide_eq_true hl];rfl
theorem Zkk {n m:Nod} (h:m.kind=2↔n.kind=2) (hl:¬ (m.l.length:Int)>0):Qdb n m=0:=by
 unfold Qdb Qc7;rw [decide_eq_false hl];by_cases hk:n.kind=2
 ·have a:(n.kind==2)=true:=by simpa using hk
  have b:(m.kind==2)=true:=by simpa using h.2 hk
  rw [a,b];rfl
 ·have a:(n.kind==2)=false:=by simpa using hk
  have b:(m.kind==2)=false:=by simpa using fun e=>hk (h.1 e)
  rw [a,b];rfl
theorem Qnf {f:Fsy} {dir:Int} {s:Txt} {to:Int} {t:Txt} {v:Int} (h:mov1 f dir s to t=v) (hv:¬ v=0):Qa8 f dir s to t=v∧movF f dir s to t=f:=by
 have hn:¬ mov1 f dir s to t=0:=by rw [h];exact hv
 exact ⟨by unfold Qa8;rw [if_neg hn,h],if_neg hn⟩
theorem Qw9 {f:Fsy} {dir:Int} {s:Txt} {to:Int} {t:Txt} (okf:OkF f) (T:TreeP f) (h1:mov1 f dir s to t=0) (h6:¬ Qa3 f to t=0) :
  OkF (leaveF f dir s)∧Qar (leaveF f dir s)∧(dir ≠ to∧((Qaa f to).l.length:Int)≥256→Qa8 f dir s to t=12∧movF f dir s to t=f) ∧
   (¬ (dir ≠ to∧((Qaa f to).l.length:Int)≥256)→Qa8 f dir s to t=0∧movF f dir s to t=enterF (leaveF f dir s) to t (lookN f dir s).ino):=by
 have hp:=T.rows;obtain ⟨d,dt,n,j,A⟩:=Qxp hp h1;obtain ⟨e1,e2,e3⟩:=A.mB;obtain ⟨l1,l2,_⟩:=Qd0 (s:=s) okf hp A.dir A.kind;have hb:isB dt.l t=false:=by
  cases hb:isB dt.l t with
  | false=>rfl
  | true=>
   obtain ⟨i2,hg⟩:∃ i,getE (lI dt.l) t=some i:=by
    rw [Qex] at hb;cases hg:getE (lI dt.l) t with
    | none=>rw [hg] at hb;cases hb
    | some i=>exact ⟨i,rfl⟩
   obtain ⟨⟨m,hm⟩,_⟩:=T.kid to i2 (Qqy A.to A.kindt hg);exact absurd (Qfx A.to A.kindt A.chkt hg hm).1 h6
 have hfd:Qaa f to=dt:=(Qgq A.to).2;have hE:Qa8 f dir s to t=mov2 f dir s to t:=by unfold Qa8;rw [if_pos h1]
 have h2:mov2 f dir s to t=Qae ((to != dir)&&decide ((dt.l.length:Int)≥256)) 12:=by unfold mov2;rw [if_pos (by rw [e1,hb]),e3]
 have hF:movF f dir s to t=if mov2 f dir s to t=0 then enterF (leaveF f dir s) to t n.ino else f:=by
  have e0:mov0 f dir s to t n (movB f to t) (Qaa f (movI f to t))=enterF (leaveF f dir s) to t n.ino:=by
   unfold mov0;rw [if_neg (by rw [e1,hb];decide)]
  unfold movF;rw [if_pos h1,if_neg (fun h=>by rw [e1,hb] at h;cases h.1),A.look,e0]
 rw [hfd,hE,hF,A.look];refine ⟨l1,l2,fun ⟨ha,hl⟩=>?_,fun h=>?_⟩
 ·have hv:mov2 f dir s to t=12:=by
   rw [h2,decide_eq_true hl,show (to != dir)=true from by simpa using fun e=>ha e.symm];rfl
  rw [hv];exact ⟨rfl,rfl⟩
 ·have hv:mov2 f dir s to t=0:=by
   rw [h2];by_cases ha:dir=to
   ·rw [show (to != dir)=false from by simpa using ha.symm];rfl
   ·rw [decide_eq_false (fun hl=>h ⟨ha,hl⟩),Bool.and_false];rfl
  rw [hv];exact ⟨rfl,rfl⟩
theorem Qxa {f:Fsy} {dir:Int} {s:Txt} {to:Int} {t:Txt} (okf:OkF f) (T:TreeP f) (h1:mov1 f dir s to t=0) (h6:Qa3 f to t=0) :
  nodP (lookN f to t)∧((lookN f to t).ino=(lookN f dir s).ino→Qa8 f dir s to t=0∧movF f dir s to t=f) ∧
  (¬ (lookN f to t).ino=(lookN f dir s).ino→Qa8 f dir s to t=Qdb (lookN f dir s) (lookN f to t)∧(¬ Qdb (lookN f dir s) (lookN f to t)=0→movF f dir s to t=f) ∧
   (Qdb (lookN f dir s) (lookN f to t)=0→movF f dir s to t=enterF (leaveF (Qbd f to t (lookN f to t)) dir s) to t (lookN f dir s).ino ∧
    OkF (leaveF f to t)∧Qar (leaveF f to t)∧Qnk (leaveF f to t) (lookN f to t).ino=Qbd f to t (lookN f to t)∧OkF (Qbd f to t (lookN f to t))∧Qar (Qbd f to t (lookN f to t)) ∧
    OkF (leaveF (Qbd f to t (lookN f to t)) dir s)∧Qar (leaveF (Qbd f to t (lookN f to t)) dir s)∧((Qaa (Qbd f to t (lookN f to t)) to).l.length:Int)<256)):=by
 have hp:=T.rows;obtain ⟨d,dt,n,j,A⟩:=Qxp hp h1;obtain ⟨e1,e2,e3⟩:=A.mB;obtain ⟨dt',i2,m,b1,b2,b3,b4,b5⟩:=(Qkd hp).1 h6;have hdt:dt'=dt:=by rw [A.to] at b1;exact (Option.some.inj b1).symm
 subst hdt;have hlm:=(Qfx b1 b2 b3 b4 b5).2;have hb:isB dt'.l t=true:=by rw [Qex,b4];rfl
 have hmi:=Qc9 b5;have hnj:=A.nino;have hI:getI dt'.l t=i2:=by rw [Qfq,b4];rfl
 have hfm:Qaa f (getI dt'.l t)=m:=by rw [hI];exact (Qgq b5).2
 have hE:Qa8 f dir s to t=mov2 f dir s to t:=by unfold Qa8;rw [if_pos h1]
 rw [hlm,A.look];refine ⟨(Qbk hp b5).1,fun he=>?_,fun he=>?_⟩
 ·have hij:movI f to t=n.ino:=by rw [e2,hI,← hmi];exact he
  refine ⟨?_,?_⟩
  ·rw [hE];unfold mov2;rw [if_neg (by rw [e1,hb];decide),if_pos (by rw [A.look];exact hij)]
  ·unfold movF;rw [if_pos h1,if_pos ⟨by rw [e1,hb],by rw [A.look];exact hij⟩]
 ·have hij:¬ movI f to t=n.ino:=by rw [e2,hI,← hmi];exact he
  have h2:mov2 f dir s to t=Qdb n m:=by
   unfold mov2;rw [if_neg (by rw [e1,hb];decide),if_neg (by rw [A.look];exact hij),A.look,e2,hfm]
  have hF:movF f dir s to t=if Qdb n m=0 then enterF (leaveF (Qbd f to t m) dir s) to t n.ino else f:=by
   have e0:mov0 f dir s to t n (movB f to t) (Qaa f (movI f to t))=enterF (leaveF (Qbd f to t m) dir s) to t n.ino:=by
    unfold mov0;rw [if_pos (by rw [e1,hb]),e2,hfm]
   unfold movF;rw [if_pos h1,if_neg (fun h=>hij (by have:=h.2;rw [A.look] at this;exact this)),h2,A.look,e0]
  refine ⟨hE.trans h2,fun h=>by rw [hF,if_neg h],fun h=>?_⟩;obtain ⟨K,k2,k3,k4⟩:=Qnq okf T b1 b2 b4 b5 (Qm7 h).1;obtain ⟨w1,w2,w3,w4,w5⟩:=Qmg (s:=t) okf hp b1 b2 (n:=m) (.inl (by rw [hmi];exact b5));obtain ⟨l1,l2,l3,l4,l5⟩:=Qd0 (s:=t) okf hp b1 b2;have hH:=Zij okf hp h1 (fun _=>by rw [A.look,e2,hfm];exact h);rw [e1,e2,hfm,hb] at hH;obtain ⟨q1,q2,q3,q4⟩:=hH.1 rfl;refine ⟨by rw [hF,if_pos h],l1,l2,Qs2 ?_,w1,w2,q3,q4,?_⟩
  ·refine (Qgq ?_).2;rw [hmi,l5,if_neg k2];exact b5
  ·have hst:=Qc6 (Qdh (Qbk hp b1).1 b2).2;have hrow:=(Qdh (Qbk hp b1).1 b2).2;have hto:atF (Qbd f to t m) to=some (Qbr dt' (delL dt'.l t)):=by rw [w5,if_neg (fun e=>k2 (by rw [← hmi];exact e.symm)),if_pos rfl]
   rw [(Qgq hto).2];show ((delL dt'.l t).length:Int)<256;have:=Qkl hst b4;have:=hrow.1;omega
theorem Qvd (f:Fsy) (i t:Int) (okf:OkF f) (hf:midF f):Qah prog 123 [.agg (fsyA f),aI i,aI t] (aB (hasB (Qc4 f t) i)):=by
 exact Qac func123 (let R:AV:=aB (hasB (Qc4 f t) i);
 .new fun b1=>.r 1<|.u 2 [b1]<|
 .call (Qml f t okf hf)<|
 .r 1<|.call (Qkg (Qc4 f t) i (by have:=Qr7 hf t;omega))<|
 .r 1<|.fi R [])
theorem Qzq (f:Fsy) (dir:Int) (s:Txt) (to:Int) (t:Txt) (okf:OkF f) (T:TreeP f) (hp:Qar f) (hf:midF f) (hs:s.length≤1000000) (ht:t.length≤1000000):Qah prog 74 [.agg (fsyA f),aI dir,aS s,aI to,aS t] (.tup [.agg (fsyA (movF f dir s to t)),aI (Qa8 f dir s to t)]):=by
 have hl:=hp.1;have hr:=Qaf hp;exact Qac func74 (
 .new fun b1=>.new fun b2=>.r 1<|.u 3 [b1]<|
 .call (Qec f dir s hp hs)<|
 .r 3<|.new fun b3=>.u 2 [b3]<|
 .r 2<|.br 30 ((Qa3 f dir s) != 0) (fun q1=>have p1:=bneT q1;.u 4 [b1,b2]<|
 .f (.tup [.agg (fsyA (movF f dir s to t)),aI (Qa8 f dir s to t)]) [b2] (.tup [.agg (fsyA f),aI (Qa3 f dir s)]) (by
  have hm:=Qnf (f:=f) (dir:=dir) (s:=s) (to:=to) (t:=t) (by unfold mov1;exact Qc8 (bneT q1)) (bneT q1);rw [hm.1,hm.2];exact sR))
 <| fun q1=>have p1:=bneF q1;have g1:Qa3 f dir s=0:=bneF q1;.u 2 [b1]<|
 .call (Qhp f to hp)<|
 .r 3<|.new fun b4=>.u 2 [b4]<|
 .r 2<|.br 40 ((dirE f to) != 0) (fun q2=>have p2:=bneT q2;.u 4 [b1,b2]<|
 .f (.tup [.agg (fsyA (movF f dir s to t)),aI (Qa8 f dir s to t)]) [b2] (.tup [.agg (fsyA f),aI (dirE f to)]) (by
  have hm:=Qnf (f:=f) (dir:=dir) (s:=s) (to:=to) (t:=t) (by unfold mov1;rw [Qaz g1];exact Qc8 (bneT q2)) (bneT q2);rw [hm.1,hm.2];exact sR))
 <| fun q2=>have p2:=bneF q2;have g2:dirE f to=0:=bneF q2;.r 1<|.call (Qed t (by omega))<|
 .r 1<|.r 2<|.br 46 ((Qai t) != 0) (fun q3=>have p3:=bneT q3;.u 4 [b1,b2]<|
 .f (.tup [.agg (fsyA (movF f dir s to t)),aI (Qa8 f dir s to t)]) [b2] (.tup [.agg (fsyA f),aI (Qai t)]) (by
  have hm:=Qnf (f:=f) (dir:=dir) (s:=s) (to:=to) (t:=t) (by unfold mov1;rw [Qaz g1,Qaz g2];exact Qc8 (bneT q3)) (bneT q3);rw [hm.1,hm.2];exact sR))
 <| fun q3=>have p3:=bneF q3;have g3:Qai t=0:=bneF q3;.u 4 [b3]<|
 .br 52 (((lookN f dir s).kind)==2) (fun q4=>have p4:=beqT q4;have g4b:=q4;have g4:(lookN f dir s).kind=2:=beqT q4;.u 5 [b3]<|
 .br 57 (to==((lookN f dir s).ino)) (fun q5=>have p5:=beqT q5;.r 7<|.u 3 [b1,b2]<|
 .f (.tup [.agg (fsyA (movF f dir s to t)),aI (Qa8 f dir s to t)]) [b2] (.tup [.agg (fsyA f),aI 13]) (by
  have hw:Qb0 f to (lookN f dir s)=true:=(by unfold Qb0;rw [g4b,q5];rfl)
  have hm:=Qnf (f:=f) (dir:=dir) (s:=s) (to:=to) (t:=t) (by unfold mov1;rw [Qaz g1,Qaz g2,Qaz g3,hw];first | done | rfl) (by decide);rw [hm.1,hm.2];exact sR))
 <| fun q5=>have p5:=beqF q5;have g5:=q5;.u 4 [b1,b3]<|
 .call (Qvd f to (lookN f dir s).ino okf hf)<|
 .r 2<|.br 64 (hasB (Qc4 f (lookN f dir s).ino) to) (fun q6=>have p6:=booT q6;.u 3 [b1,b2]<|
 .f (.tup [.agg (fsyA (movF f dir s to t)),aI (Qa8 f dir s to t)]) [b2] (.tup [.agg (fsyA f),aI 13]) (by
  have hw:Qb0 f to (lookN f dir s)=true:=(by unfold Qb0;rw [g4b,g5,← Qmm hp hf,q6];rfl)
  have hm:=Qnf (f:=f) (dir:=dir) (s:=s) (to:=to) (t:=t) (by unfold mov1;rw [Qaz g1,Qaz g2,Qaz g3,hw];first | done | rfl) (by decide);rw [hm.1,hm.2];exact sR))
 <| fun q6=>have p6:=booF q6;have hw:Qb0 f to (lookN f dir s)=false:=(by unfold Qb0;rw [g4b,g5,← Qmm hp hf,q6];rfl);have h1:mov1 f dir s to t=0:=(by unfold mov1;rw [Qaz g1,Qaz g2,Qaz g3,hw];rfl);.u 1 [b1]<|
 .new fun b5=>.u 1 [b5]<|
 .u 3 [b1]<|
 .call (Qec f to t hp ht)<|
 .r 3<|.new fun b6=>.u 2 [b6]<|
 .r 3<|.br 76 ((Qa3 f to t)==0) (fun q7=>have p7:=beqT q7;have g6:Qa3 f to t=0:=beqT q7;have hB:=Qxa okf T h1 g6;.u 6 [b6,b3]<|
 .br 82 (((lookN f to t).ino)==((lookN f dir s).ino)) (fun q8=>have p8:=beqT q8;have hi:=beqT q8;.u 3 [b1,b2]<|
 .f (.tup [.agg (fsyA (movF f dir s to t)),aI (Qa8 f dir s to t)]) [b2] (.tup [.agg (fsyA f),aI 0]) (by
  have hc:=hB.2.1 hi;rw [hc.1,hc.2];exact sR))
 <| fun q8=>have p8:=beqF q8;have hi:=beqF q8;have hB2:=hB.2.2 hi;.r 2<|.is 85 q7<|.u 4 [b3]<|
 .is 89 q4<|.u 4 [b6]<|
 .br 93 (((lookN f to t).kind) != 2) (fun q9=>have p9:=bneT q9;have g7:¬ (lookN f to t).kind=2:=bneT q9;.u 3 [b1,b2]<|
 .f (.tup [.agg (fsyA (movF f dir s to t)),aI (Qa8 f dir s to t)]) [b2] (.tup [.agg (fsyA f),aI 8]) (by
  have e:Qdb (lookN f dir s) (lookN f to t)=8:=over_8 g4 g7;rw [hB2.1,hB2.2.1 (by rw [e];decide),e];exact sR))
 <| fun q9=>have p9:=bneF q9;have g7:(lookN f to t).kind=2:=bneF q9;.u 4 [b3]<|
 .is 98 (show (((lookN f dir s).kind) != 2)=false from (by simpa [bne] using g4))<|.r 4<|.u 3 [b6]<|
 .lm 106 ((lookN f to t).l) entA<|.r 1<|.bd 107 ((((lookN f to t).l).length:Int)>0) (fun p10=>.u 3 [b1,b2]<|
 .f (.tup [.agg (fsyA (movF f dir s to t)),aI (Qa8 f dir s to t)]) [b2] (.tup [.agg (fsyA f),aI 11]) (by
  have e:Qdb (lookN f dir s) (lookN f to t)=11:=Zdk hB.1 (by first | exact ⟨fun _=>g4,fun _=>g7⟩ | exact ⟨fun h=>absurd h g7,fun h=>absurd h g4⟩) (by omega);rw [hB2.1,hB2.2.1 (by rw [e];decide),e];exact sR))
 <| fun p10=>have ho:=Zkk (n:=lookN f dir s) (m:=lookN f to t) (by first | exact ⟨fun _=>g4,fun _=>g7⟩ | exact ⟨fun h=>absurd h g7,fun h=>absurd h g4⟩) (by omega);have gB:=hB2.2.2 ho;.ord [0,1,2,4,5,3,6,7]<|.u 5 [b1,b6]<|
 .call (Qcp f to t okf hp ht)<|
 .call ((show Qah _ _ _ (.agg (fsyA (Qbd f to t (lookN f to t)))) from gB.2.2.2.1 ▸ Qk4 (leaveF f to t) (lookN f to t).ino gB.2.1 gB.2.2.1))<|
 .u 1 [b5]<|
 .u 2 [b5]<|
 .call (Qa1 (Qbd f to t (lookN f to t)) to (by have:=gB.2.2.2.2.2.1.1;omega))<|
 .r 3<|.new fun b7=>.u 2 [b7]<|
 .r 4<|.bn 125 dir to (fun p11=>.u 3 [b7]<|
 .lm 128 ((Qaa (Qbd f to t (lookN f to t)) to).l) entA<|.r 2<|.is 130 (show (decide ((((Qaa (Qbd f to t (lookN f to t)) to).l).length:Int)≥256))=false from (decide_eq_false (by have:=gB.2.2.2.2.2.2.2.2;omega)))<|.ord [0,1,2,4,5,6,7,3,8,9,10]<|.u 7 [b5,b3]<|
 .call (Qcp (Qbd f to t (lookN f to t)) dir s gB.2.2.2.2.1 gB.2.2.2.2.2.1 hs)<|
 .call (Qb6 (leaveF (Qbd f to t (lookN f to t)) dir s) to t (lookN f dir s).ino gB.2.2.2.2.2.2.1 gB.2.2.2.2.2.2.2.1 ht)<|
 .u 2 [b2]<|
 .f (.tup [.agg (fsyA (movF f dir s to t)),aI (Qa8 f dir s to t)]) [b2] (.tup [.agg [.sl 5 false ((enterF (leaveF (Qbd f to t (lookN f to t)) dir s) to t (lookN f dir s).ino).l.map nodA),aI ((enterF (leaveF (Qbd f to t (lookN f to t)) dir s) to t (lookN f dir s).ino).next)],aI 0]) (by
  rw [hB2.1,ho,gB.1];exact sR))
 <| fun p11=>.r 5<|.ord [0,1,2,4,5,6,7,3,8,9,10]<|.u 7 [b5,b3]<|
 .call (Qcp (Qbd f to t (lookN f to t)) dir s gB.2.2.2.2.1 gB.2.2.2.2.2.1 hs)<|
 .call (Qb6 (leaveF (Qbd f to t (lookN f to t)) dir s) to t (lookN f dir s).ino gB.2.2.2.2.2.2.1 gB.2.2.2.2.2.2.2.1 ht)<|
 .u 2 [b2]<|
 .f (.tup [.agg (fsyA (movF f dir s to t)),aI (Qa8 f dir s to t)]) [b2] (.tup [.agg [.sl 5 false ((enterF (leaveF (Qbd f to t (lookN f to t)) dir s) to t (lookN f dir s).ino).l.map nodA),aI ((enterF (leaveF (Qbd f to t (lookN f to t)) dir s) to t (lookN f dir s).ino).next)],aI 0]) (by
  rw [hB2.1,ho,gB.1];exact sR))
 <| fun q7=>have p7:=beqF q7;have g6:¬ Qa3 f to t=0:=beqF q7;have gC:=Qw9 okf T h1 g6;.r 6<|.r 2<|.is 85 q7<|.u 2 [b5]<|
 .call (Qa1 f to (by omega))<|
 .r 3<|.new fun b8=>.u 2 [b8]<|
 .r 4<|.br 125 (dir != to) (fun q12=>have p12:=bneT q12;.u 3 [b8]<|
 .lm 128 ((Qaa f to).l) entA<|.r 2<|.bd 130 ((((Qaa f to).l).length:Int)≥256) (fun p13=>.u 3 [b1,b2]<|
 .f (.tup [.agg (fsyA (movF f dir s to t)),aI (Qa8 f dir s to t)]) [b2] (.tup [.agg (fsyA f),aI 12]) (by
  have hc:=gC.2.2.1 ⟨by simpa using q12,by omega⟩;rw [hc.1,hc.2];exact sR))
 <| fun p13=>.ord [0,1,2,4,5,6,7,3,8,9,10]<|.u 7 [b5,b3]<|
 .call (Qcp f dir s okf hp hs)<|
 .call (Qb6 (leaveF f dir s) to t (lookN f dir s).ino (gC.1) (gC.2.1) ht)<|
 .u 2 [b2]<|
 .f (.tup [.agg (fsyA (movF f dir s to t)),aI (Qa8 f dir s to t)]) [b2] (.tup [.agg [.sl 5 false ((enterF (leaveF f dir s) to t (lookN f dir s).ino).l.map nodA),aI ((enterF (leaveF f dir s) to t (lookN f dir s).ino).next)],aI 0]) (by
  have hc:=gC.2.2.2 (fun h=>by have:=h.2;omega);rw [hc.1,hc.2];exact sR))
 <| fun q12=>have p12:=bneF q12;.r 5<|.ord [0,1,2,4,5,6,7,3,8,9,10]<|.u 7 [b5,b3]<|
 .call (Qcp f dir s okf hp hs)<|
 .call (Qb6 (leaveF f dir s) to t (lookN f dir s).ino (gC.1) (gC.2.1) ht)<|
 .u 2 [b2]<|
 .f (.tup [.agg (fsyA (movF f dir s to t)),aI (Qa8 f dir s to t)]) [b2] (.tup [.agg [.sl 5 false ((enterF (leaveF f dir s) to t (lookN f dir s).ino).l.map nodA),aI ((enterF (leaveF f dir s) to t (lookN f dir s).ino).next)],aI 0]) (by
  have hc:=gC.2.2.2 (fun h=>h.1 (by simpa using q12));rw [hc.1,hc.2];exact sR))
 <| fun q4=>have p4:=beqF q4;have g4b:=q4;have g4:¬ (lookN f dir s).kind=2:=beqF q4;have hw:Qb0 f to (lookN f dir s)=false:=(by unfold Qb0;rw [q4];rfl);have h1:mov1 f dir s to t=0:=(by unfold mov1;rw [Qaz g1,Qaz g2,Qaz g3,hw];rfl);.r 12<|.u 1 [b1]<|
 .new fun b9=>.u 1 [b9]<|
 .u 3 [b1]<|
 .call (Qec f to t hp ht)<|
 .r 3<|.new fun b10=>.u 2 [b10]<|
 .r 3<|.br 76 ((Qa3 f to t)==0) (fun q14=>have p14:=beqT q14;have g6:Qa3 f to t=0:=beqT q14;have hB:=Qxa okf T h1 g6;.u 6 [b10,b3]<|
 .br 82 (((lookN f to t).ino)==((lookN f dir s).ino)) (fun q15=>have p15:=beqT q15;have hi:=beqT q15;.u 3 [b1,b2]<|
 .f (.tup [.agg (fsyA (movF f dir s to t)),aI (Qa8 f dir s to t)]) [b2] (.tup [.agg (fsyA f),aI 0]) (by
  have hc:=hB.2.1 hi;rw [hc.1,hc.2];exact sR))
 <| fun q15=>have p15:=beqF q15;have hi:=beqF q15;have hB2:=hB.2.2 hi;.r 2<|.is 85 q14<|.u 4 [b3]<|
 .is 89 q4<|.r 4<|.u 4 [b3]<|
 .is 98 (show (((lookN f dir s).kind) != 2)=true from (by simpa [bne] using g4))<|.u 4 [b10]<|
 .br 102 (((lookN f to t).kind)==2) (fun q16=>have p16:=beqT q16;have g7:(lookN f to t).kind=2:=beqT q16;.u 3 [b1,b2]<|
 .f (.tup [.agg (fsyA (movF f dir s to t)),aI (Qa8 f dir s to t)]) [b2] (.tup [.agg (fsyA f),aI 9]) (by
  have e:Qdb (lookN f dir s) (lookN f to t)=9:=over_9 g4 g7;rw [hB2.1,hB2.2.1 (by rw [e];decide),e];exact sR))
 <| fun q16=>have p16:=beqF q16;have g7:¬ (lookN f to t).kind=2:=beqF q16;.u 3 [b10]<|
 .lm 106 ((lookN f to t).l) entA<|.r 1<|.bd 107 ((((lookN f to t).l).length:Int)>0) (fun p17=>.u 3 [b1,b2]<|
 .f (.tup [.agg (fsyA (movF f dir s to t)),aI (Qa8 f dir s to t)]) [b2] (.tup [.agg (fsyA f),aI 11]) (by
  have e:Qdb (lookN f dir s) (lookN f to t)=11:=Zdk hB.1 (by first | exact ⟨fun _=>g4,fun _=>g7⟩ | exact ⟨fun h=>absurd h g7,fun h=>absurd h g4⟩) (by omega);rw [hB2.1,hB2.2.1 (by rw [e];decide),e];exact sR))
 <| fun p17=>have ho:=Zkk (n:=lookN f dir s) (m:=lookN f to t) (by first | exact ⟨fun _=>g4,fun _=>g7⟩ | exact ⟨fun h=>absurd h g7,fun h=>absurd h g4⟩) (by omega);have gB:=hB2.2.2 ho;.ord [0,1,2,4,5,3,6,7]<|.u 5 [b1,b10]<|
 .call (Qcp f to t okf hp ht)<|
 .call ((show Qah _ _ _ (.agg (fsyA (Qbd f to t (lookN f to t)))) from gB.2.2.2.1 ▸ Qk4 (leaveF f to t) (lookN f to t).ino gB.2.1 gB.2.2.1))<|
 .u 1 [b9]<|
 .u 2 [b9]<|
 .call (Qa1 (Qbd f to t (lookN f to t)) to (by have:=gB.2.2.2.2.2.1.1;omega))<|
 .r 3<|.new fun b11=>.u 2 [b11]<|
 .r 4<|.bn 125 dir to (fun p18=>.u 3 [b11]<|
 .lm 128 ((Qaa (Qbd f to t (lookN f to t)) to).l) entA<|.r 2<|.is 130 (show (decide ((((Qaa (Qbd f to t (lookN f to t)) to).l).length:Int)≥256))=false from (decide_eq_false (by have:=gB.2.2.2.2.2.2.2.2;omega)))<|.ord [0,1,2,4,5,6,7,3,8,9,10]<|.u 7 [b9,b3]<|
 .call (Qcp (Qbd f to t (lookN f to t)) dir s gB.2.2.2.2.1 gB.2.2.2.2.2.1 hs)<|
 .call (Qb6 (leaveF (Qbd f to t (lookN f to t)) dir s) to t (lookN f dir s).ino gB.2.2.2.2.2.2.1 gB.2.2.2.2.2.2.2.1 ht)<|
 .u 2 [b2]<|
 .f (.tup [.agg (fsyA (movF f dir s to t)),aI (Qa8 f dir s to t)]) [b2] (.tup [.agg [.sl 5 false ((enterF (leaveF (Qbd f to t (lookN f to t)) dir s) to t (lookN f dir s).ino).l.map nodA),aI ((enterF (leaveF (Qbd f to t (lookN f to t)) dir s) to t (lookN f dir s).ino).next)],aI 0]) (by
  rw [hB2.1,ho,gB.1];exact sR))
 <| fun p18=>.r 5<|.ord [0,1,2,4,5,6,7,3,8,9,10]<|.u 7 [b9,b3]<|
 .call (Qcp (Qbd f to t (lookN f to t)) dir s gB.2.2.2.2.1 gB.2.2.2.2.2.1 hs)<|
 .call (Qb6 (leaveF (Qbd f to t (lookN f to t)) dir s) to t (lookN f dir s).ino gB.2.2.2.2.2.2.1 gB.2.2.2.2.2.2.2.1 ht)<|
 .u 2 [b2]<|
 .f (.tup [.agg (fsyA (movF f dir s to t)),aI (Qa8 f dir s to t)]) [b2] (.tup [.agg [.sl 5 false ((enterF (leaveF (Qbd f to t (lookN f to t)) dir s) to t (lookN f dir s).ino).l.map nodA),aI ((enterF (leaveF (Qbd f to t (lookN f to t)) dir s) to t (lookN f dir s).ino).next)],aI 0]) (by
  rw [hB2.1,ho,gB.1];exact sR))
 <| fun q14=>have p14:=beqF q14;have g6:¬ Qa3 f to t=0:=beqF q14;have gC:=Qw9 okf T h1 g6;.r 6<|.r 2<|.is 85 q14<|.u 2 [b9]<|
 .call (Qa1 f to (by omega))<|
 .r 3<|.new fun b12=>.u 2 [b12]<|
 .r 4<|.br 125 (dir != to) (fun q19=>have p19:=bneT q19;.u 3 [b12]<|
 .lm 128 ((Qaa f to).l) entA<|.r 2<|.bd 130 ((((Qaa f to).l).length:Int)≥256) (fun p20=>.u 3 [b1,b2]<|
 .f (.tup [.agg (fsyA (movF f dir s to t)),aI (Qa8 f dir s to t)]) [b2] (.tup [.agg (fsyA f),aI 12]) (by
  have hc:=gC.2.2.1 ⟨by simpa using q19,by omega⟩;rw [hc.1,hc.2];exact sR))
 <| fun p20=>.ord [0,1,2,4,5,6,7,3,8,9,10]<|.u 7 [b9,b3]<|
 .call (Qcp f dir s okf hp hs)<|
 .call (Qb6 (leaveF f dir s) to t (lookN f dir s).ino (gC.1) (gC.2.1) ht)<|
 .u 2 [b2]<|
 .f (.tup [.agg (fsyA (movF f dir s to t)),aI (Qa8 f dir s to t)]) [b2] (.tup [.agg [.sl 5 false ((enterF (leaveF f dir s) to t (lookN f dir s).ino).l.map nodA),aI ((enterF (leaveF f dir s) to t (lookN f dir s).ino).next)],aI 0]) (by
  have hc:=gC.2.2.2 (fun h=>by have:=h.2;omega);rw [hc.1,hc.2];exact sR))
 <| fun q19=>have p19:=bneF q19;.r 5<|.ord [0,1,2,4,5,6,7,3,8,9,10]<|.u 7 [b9,b3]<|
 .call (Qcp f dir s okf hp hs)<|
 .call (Qb6 (leaveF f dir s) to t (lookN f dir s).ino (gC.1) (gC.2.1) ht)<|
 .u 2 [b2]<|
 .f (.tup [.agg (fsyA (movF f dir s to t)),aI (Qa8 f dir s to t)]) [b2] (.tup [.agg [.sl 5 false ((enterF (leaveF f dir s) to t (lookN f dir s).ino).l.map nodA),aI ((enterF (leaveF f dir s) to t (lookN f dir s).ino).next)],aI 0]) (by
  have hc:=gC.2.2.2 (fun h=>h.1 (by simpa using q19));rw [hc.1,hc.2];exact sR))
end Go.Proofs.YtahlldgocpabjaaGreat
