import Derived.Test.YtkhodpknpligpaaGreatAl
import Derived.Test.YtkhodpknpligpaaGreatMrgS
import Derived.Test.YtkhodpknpligpaaGreatMrgP
import Derived.Test.YtkhodpknpligpaaGreatMrgQ
import Derived.Test.YtkhodpknpligpaaGreatMrgR
import Derived.Test.YtkhodpknpligpaaGreatMrgA
import Derived.ArgAppend
import Derived.Test.YtkhodpknpligpaaGreatMrgH
set_option maxRecDepth 100000
set_option maxHeartbeats 8000000
set_option linter.unusedVariables false
set_option linter.unusedSimpArgs false
namespace Go.Proofs.YtkhodpknpligpaaGreat
open Go Go.RowKit Copyhold Go.Proofs.Tryz
theorem Qtt (f:Fsy) (i:Int) (okf:OkF f) (hf:midF f):Qag prog 72 [.agg (fsyA f),aI i] (.sl 1 false ((Qeu f i).map intA)):=by
 have hfl:=okf.2.1;have hfb:=fun i=>(Qf0 okf i).2.2.2.2.1;exact Qac func72 (
 .new fun b1=>.r 1<|.r 1<|.rowNil 5 5 3 1<|.u 2 [b1]<|
 .call (Qc2 f i (by omega))<|
 .r 3<|.new fun b2=>.u 2 [b2]<|
 .r 1<|let L1:Lp (Nat × Value):=⟨fun a1=>⟨[(2,.ptr 2 b1 0),(6,.ptr 6 b2 0),(8,aI (a1.1:Int)),(5,.rw 5 a1.2 ((addE [] ((Qab f i).l.take a1.1)).length))],[(2,.box b1 38 (fsyA f)),(5,.row a1.2 3 1 ((addE [] ((Qab f i).l.take a1.1)).map intA)),(6,.box b2 85 [aI ((Qab f i).ino),aI ((Qab f i).kind),aI ((Qab f i).links),aS ((Qab f i).text),.sl 2 false ((Qab f i).l.map entA)])]⟩,fun a1=>(Qab f i).l.length-a1.1,fun a1=>a1.1≤(Qab f i).l.length⟩
 .lp L1 (0,(.slice none 0 0)) (show 0≤(Qab f i).l.length from W0j _) [(8,aI 0),(5,.rw 5 (.slice none 0 0) 0)] [(5,.row (.slice none 0 0) 3 1 ([]))] ⟨sR,sR,sO,W2n (W1y (AV.rw 5 (.slice none 0 0)) (by simp [addE])),trivial⟩ ⟨sB,⟨_,rfl,W2o (by simp [addE])⟩,sB,trivial⟩ fun a1 ha1=>
 (fun (j:Nat) (V:Value) (hH1:j≤(Qab f i).l.length)=>have hd1:=(Qdf (Dst.nil f) i j).leM hf;have hb1:=hfb i;.u 4 [b2]<|
 .lm 24 ((Qab f i).l) entA<|.r 1<|.bd 25 ((j:Int)<(((Qab f i).l).length:Int)) (fun p1=>.u 4 [b2]<|
 .idxM ((Qab f i).l) entA j (m:=(j:Int)) rfl (by omega) fun x1 hx1=>
 .r 2<|.op (cbR prog 5) ((74,[.rw 5 V ((addE [] ((Qab f i).l.take j)).length),aI x1.ino],some 35),(V,3,1,(addE [] ((Qab f i).l.take j)).map intA)) (fun (_:Unit) σ=>σ.put (some 35) (aB (hasB (addE [] ((Qab f i).l.take j)) x1.ino))) (Qpo (args':=[.sl 1 false ((addE [] ((Qab f i).l.take j)).map intA),aI x1.ino]) ⟨Fz.row _ _ _ _ _ _ (by first | rfl | (simp;done) | (simp;omega)),Fz.refl _ _,trivial⟩ (Qlm (addE [] ((Qab f i).l.take j)) x1.ino (by omega)) rfl) fun _=>
 .r 1<|.r 2<|.br 37 (!(hasB (addE [] ((Qab f i).l.take j)) x1.ino)) (fun q2=>have q2:=notT q2;have p2:=booF q2;.u 4 [b2]<|
 .idx j (m:=(j:Int)) (xs:=(Qab f i).l.map entA) (e:=entA x1) rfl (map_some hx1)<|
 .r 3<|.app 8 V ((addE [] ((Qab f i).l.take j)).map intA) ([[aI x1.ino]]) (by simp only [W0a,W0b,W0f];omega) (by simp only [W0a,W0b,W0f];omega) fun V1=>
 .r 1<|.run 3 [rng .i64 ((j:Int)+1)] ⟨Qal,trivial⟩<|
 .bk L1 (j,V) ((j+1),V1) (show (j+1)≤(Qab f i).l.length from (by show _≤_;omega)) (show (Qab f i).l.length-(j+1)<(Qab f i).l.length-j from (by omega)) [(8,aI ((j:Int)+1)),(5,.rw 5 V1 (((addE [] ((Qab f i).l.take j)).map intA).length+([[aI x1.ino]]:List (List AV)).length))] [(5,.row V1 3 1 (((addE [] ((Qab f i).l.take j)).map intA)++([[aI x1.ino]])))] ⟨sR,sR,sO,W2n (W1y (AV.rw 5 V1) (by rw [Qkh hx1 q2];simp)),trivial⟩ ⟨sB,⟨_,rfl,W2o (by rw [Qkh hx1 q2];simp [intA])⟩,sB,trivial⟩)
 <| fun q2=>have q2:=notF q2;have p2:=booT q2;.run 3 [rng .i64 ((j:Int)+1)] ⟨Qal,trivial⟩<|
 .bk L1 (j,V) ((j+1),V) (show (j+1)≤(Qab f i).l.length from (by show _≤_;omega)) (show (Qab f i).l.length-(j+1)<(Qab f i).l.length-j from (by omega)) [(8,aI ((j:Int)+1)),(5,.rw 5 V ((addE [] ((Qab f i).l.take j)).length))] [(5,.row V 3 1 ((addE [] ((Qab f i).l.take j)).map intA))] ⟨sR,sR,sO,W2n (W1y (AV.rw 5 V) (by rw [Qhw hx1 q2])),trivial⟩ ⟨sB,⟨_,rfl,W2o (by rw [Qhw hx1 q2])⟩,sB,trivial⟩)
 <| fun p1=>.r 1<|let L2:Lp (Nat × List Int × Value):=⟨fun a2=>⟨[(2,.ptr 2 b1 0),(10,aI (a2.1:Int)),(5,.rw 5 a2.2.2 a2.2.1.length)],[(2,.box b1 38 (fsyA f)),(5,.row a2.2.2 3 1 (a2.2.1.map intA))]⟩,fun a2=>1300-a2.1,fun a2=>UH f i a2.2.1 a2.1⟩
 .lp L2 (0,(addE [] ((Qab f i).l.take j)),V) (show UH f i (addE [] ((Qab f i).l.take j)) 0 from (UH.zero f i (by omega))) [(10,aI 0)] [] ⟨sR,sO,sR,trivial⟩ bb2 fun a2 ha2=>
 (fun (p:Nat) (U:List Int) (V:Value) (hH2:UH f i U p)=>have hu2:=hH2.1.leM hf;have hp2:=hH2.2.1;.r 4<|.bd 50 ((p:Int)<(U.length:Int)) (fun p3=>.st (rowR 5) (V,3,1,U.map intA) (fun _ σ=>σ) (Qb0 5 (by first | omega | (rw [W0a];omega) | (simp<;>omega))) fun a3r=>
 .pick [0,1,2,3,4]<|.u 3 [b1]<|
 .op (ixR prog) (5,V,U.length,1,(p:Int),some 57) (fun (_:Unit) σ=>σ.put (some 57) (.ep 5 V 1 p 0)) (Qft p a3r.2.1 (by omega) (by first | omega | (rw [W0a];omega) | (simp<;>omega))) fun _=>
 .ex (Qdk (l:=U) (k:=p) (by first | omega | (rw [W0a];omega) | (simp<;>omega))) fun x2 hx2=>
 .op (ldR prog) (V,1,p,0,V,1,U.map intA,3,some 58) (fun (_:Unit) σ=>σ.put (some 58) (aI x2)) (Qpn (intA x2) (map_some hx2) (by kernel_rfl)) fun _=>
 .fork<|.alt (.call (Qc2 f x2 (by omega))<|
 .pick [6,7,8,9,10,11]<|.r 3<|.new fun b4=>.u 2 [b4]<|
 .r 1<|let L3:Lp (Nat × Value):=⟨fun a3=>⟨[(2,.ptr 2 b1 0),(10,aI (p:Int)),(11,.ptr 11 b4 0),(13,aI (a3.1:Int)),(5,.rw 5 a3.2 ((addE U ((Qab f x2).l.take a3.1)).length))],[(2,.box b1 38 (fsyA f)),(5,.row a3.2 3 1 ((addE U ((Qab f x2).l.take a3.1)).map intA)),(11,.box b4 85 [aI ((Qab f x2).ino),aI ((Qab f x2).kind),aI ((Qab f x2).links),aS ((Qab f x2).text),.sl 2 false ((Qab f x2).l.map entA)])]⟩,fun a3=>(Qab f x2).l.length-a3.1,fun a3=>a3.1≤(Qab f x2).l.length⟩
 .lp L3 (0,V) (show 0≤(Qab f x2).l.length from W0j _) [(13,aI 0),(5,.rw 5 V U.length)] [(5,.row V 3 1 (U.map intA))] ⟨sR,sR,sR,sO,W2n (W1y (AV.rw 5 V) (by simp [addE])),trivial⟩ ⟨sB,⟨_,rfl,W2o (by simp [addE])⟩,sB,trivial⟩ fun a3 ha3=>
 (fun (j:Nat) (Y:Value) (hH3:j≤(Qab f x2).l.length)=>have hd3:=(Qdf hH2.1 x2 j).leM hf;have hb3:=hfb x2;.u 4 [b4]<|
 .lm 65 ((Qab f x2).l) entA<|.r 1<|.bd 66 ((j:Int)<(((Qab f x2).l).length:Int)) (fun p4=>.u 4 [b4]<|
 .idxM ((Qab f x2).l) entA j (m:=(j:Int)) rfl (by omega) fun x3 hx3=>
 .r 2<|.op (cbR prog 5) ((74,[.rw 5 Y ((addE U ((Qab f x2).l.take j)).length),aI x3.ino],some 76),(Y,3,1,(addE U ((Qab f x2).l.take j)).map intA)) (fun (_:Unit) σ=>σ.put (some 76) (aB (hasB (addE U ((Qab f x2).l.take j)) x3.ino))) (Qpo (args':=[.sl 1 false ((addE U ((Qab f x2).l.take j)).map intA),aI x3.ino]) ⟨Fz.row _ _ _ _ _ _ (by first | rfl | (simp;done) | (simp;omega)),Fz.refl _ _,trivial⟩ (Qlm (addE U ((Qab f x2).l.take j)) x3.ino (by omega)) rfl) fun _=>
 .r 1<|.r 2<|.br 78 (!(hasB (addE U ((Qab f x2).l.take j)) x3.ino)) (fun q5=>have q5:=notT q5;have p5:=booF q5;.u 4 [b4]<|
 .idx j (m:=(j:Int)) (xs:=(Qab f x2).l.map entA) (e:=entA x3) rfl (map_some hx3)<|
 .r 3<|.app 8 Y ((addE U ((Qab f x2).l.take j)).map intA) ([[aI x3.ino]]) (by simp only [W0a,W0b,W0f];omega) (by simp only [W0a,W0b,W0f];omega) fun V2=>
 .r 1<|.run 3 [rng .i64 ((j:Int)+1)] ⟨Qal,trivial⟩<|
 .bk L3 (j,Y) ((j+1),V2) (show (j+1)≤(Qab f x2).l.length from (by show _≤_;omega)) (show (Qab f x2).l.length-(j+1)<(Qab f x2).l.length-j from (by omega)) [(13,aI ((j:Int)+1)),(5,.rw 5 V2 (((addE U ((Qab f x2).l.take j)).map intA).length+([[aI x3.ino]]:List (List AV)).length))] [(5,.row V2 3 1 (((addE U ((Qab f x2).l.take j)).map intA)++([[aI x3.ino]])))] ⟨sR,sR,sR,sO,W2n (W1y (AV.rw 5 V2) (by rw [Qkh hx3 q5];simp)),trivial⟩ ⟨sB,⟨_,rfl,W2o (by rw [Qkh hx3 q5];simp [intA])⟩,sB,trivial⟩)
 <| fun q5=>have q5:=notF q5;have p5:=booT q5;.run 3 [rng .i64 ((j:Int)+1)] ⟨Qal,trivial⟩<|
 .bk L3 (j,Y) ((j+1),Y) (show (j+1)≤(Qab f x2).l.length from (by show _≤_;omega)) (show (Qab f x2).l.length-(j+1)<(Qab f x2).l.length-j from (by omega)) [(13,aI ((j:Int)+1)),(5,.rw 5 Y ((addE U ((Qab f x2).l.take j)).length))] [(5,.row Y 3 1 ((addE U ((Qab f x2).l.take j)).map intA))] ⟨sR,sR,sR,sO,W2n (W1y (AV.rw 5 Y) (by rw [Qhw hx3 q5])),trivial⟩ ⟨sB,⟨_,rfl,W2o (by rw [Qhw hx3 q5])⟩,sB,trivial⟩)
 <| fun p4=>.run 3 [rng .i64 ((p:Int)+1)] ⟨Qal,trivial⟩<|
 .bk L2 (p,U,V) ((p+1),(addE U ((Qab f x2).l.take j)),Y) (show UH f i (addE U ((Qab f x2).l.take j)) (p+1) from (UH.stepM hf hH2 hx2 (by omega))) (show 1300-(p+1)<1300-p from (by omega)) [(10,aI ((p:Int)+1))] [] ⟨sR,sO,sR,trivial⟩ bb2) a3.1 a3.2 ha3)
 <| .new fun b5=>.pick [5,6,7,8,10,11]<|.call (Qc2 f x2 (by omega))<|
 .u 5 [b5]<|
 .r 1<|let L3:Lp (Nat × Value):=⟨fun a3=>⟨[(2,.ptr 2 b1 0),(10,aI (p:Int)),(11,.ptr 11 b5 0),(13,aI (a3.1:Int)),(5,.rw 5 a3.2 ((addE U ((Qab f x2).l.take a3.1)).length))],[(2,.box b1 38 (fsyA f)),(5,.row a3.2 3 1 ((addE U ((Qab f x2).l.take a3.1)).map intA)),(11,.box b5 85 [aI ((Qab f x2).ino),aI ((Qab f x2).kind),aI ((Qab f x2).links),aS ((Qab f x2).text),.sl 2 false ((Qab f x2).l.map entA)])]⟩,fun a3=>(Qab f x2).l.length-a3.1,fun a3=>a3.1≤(Qab f x2).l.length⟩
 .lp L3 (0,V) (show 0≤(Qab f x2).l.length from W0j _) [(13,aI 0),(5,.rw 5 V U.length)] [(5,.row V 3 1 (U.map intA))] ⟨sR,sR,sR,sO,W2n (W1y (AV.rw 5 V) (by simp [addE])),trivial⟩ ⟨sB,⟨_,rfl,W2o (by simp [addE])⟩,sB,trivial⟩ fun a3 ha3=>
 (fun (j:Nat) (Y:Value) (hH3:j≤(Qab f x2).l.length)=>have hd3:=(Qdf hH2.1 x2 j).leM hf;have hb3:=hfb x2;.u 4 [b5]<|
 .lm 65 ((Qab f x2).l) entA<|.r 1<|.bd 66 ((j:Int)<(((Qab f x2).l).length:Int)) (fun p6=>.u 4 [b5]<|
 .idxM ((Qab f x2).l) entA j (m:=(j:Int)) rfl (by omega) fun x4 hx4=>
 .r 2<|.op (cbR prog 5) ((74,[.rw 5 Y ((addE U ((Qab f x2).l.take j)).length),aI x4.ino],some 76),(Y,3,1,(addE U ((Qab f x2).l.take j)).map intA)) (fun (_:Unit) σ=>σ.put (some 76) (aB (hasB (addE U ((Qab f x2).l.take j)) x4.ino))) (Qpo (args':=[.sl 1 false ((addE U ((Qab f x2).l.take j)).map intA),aI x4.ino]) ⟨Fz.row _ _ _ _ _ _ (by first | rfl | (simp;done) | (simp;omega)),Fz.refl _ _,trivial⟩ (Qlm (addE U ((Qab f x2).l.take j)) x4.ino (by omega)) rfl) fun _=>
 .r 1<|.r 2<|.br 78 (!(hasB (addE U ((Qab f x2).l.take j)) x4.ino)) (fun q7=>have q7:=notT q7;have p7:=booF q7;.u 4 [b5]<|
 .idx j (m:=(j:Int)) (xs:=(Qab f x2).l.map entA) (e:=entA x4) rfl (map_some hx4)<|
 .r 3<|.app 8 Y ((addE U ((Qab f x2).l.take j)).map intA) ([[aI x4.ino]]) (by simp only [W0a,W0b,W0f];omega) (by simp only [W0a,W0b,W0f];omega) fun V3=>
 .r 1<|.run 3 [rng .i64 ((j:Int)+1)] ⟨Qal,trivial⟩<|
 .bk L3 (j,Y) ((j+1),V3) (show (j+1)≤(Qab f x2).l.length from (by show _≤_;omega)) (show (Qab f x2).l.length-(j+1)<(Qab f x2).l.length-j from (by omega)) [(13,aI ((j:Int)+1)),(5,.rw 5 V3 (((addE U ((Qab f x2).l.take j)).map intA).length+([[aI x4.ino]]:List (List AV)).length))] [(5,.row V3 3 1 (((addE U ((Qab f x2).l.take j)).map intA)++([[aI x4.ino]])))] ⟨sR,sR,sR,sO,W2n (W1y (AV.rw 5 V3) (by rw [Qkh hx4 q7];simp)),trivial⟩ ⟨sB,⟨_,rfl,W2o (by rw [Qkh hx4 q7];simp [intA])⟩,sB,trivial⟩)
 <| fun q7=>have q7:=notF q7;have p7:=booT q7;.run 3 [rng .i64 ((j:Int)+1)] ⟨Qal,trivial⟩<|
 .bk L3 (j,Y) ((j+1),Y) (show (j+1)≤(Qab f x2).l.length from (by show _≤_;omega)) (show (Qab f x2).l.length-(j+1)<(Qab f x2).l.length-j from (by omega)) [(13,aI ((j:Int)+1)),(5,.rw 5 Y ((addE U ((Qab f x2).l.take j)).length))] [(5,.row Y 3 1 ((addE U ((Qab f x2).l.take j)).map intA))] ⟨sR,sR,sR,sO,W2n (W1y (AV.rw 5 Y) (by rw [Qhw hx4 q7])),trivial⟩ ⟨sB,⟨_,rfl,W2o (by rw [Qhw hx4 q7])⟩,sB,trivial⟩)
 <| fun p6=>.run 3 [rng .i64 ((p:Int)+1)] ⟨Qal,trivial⟩<|
 .bk L2 (p,U,V) ((p+1),(addE U ((Qab f x2).l.take j)),Y) (show UH f i (addE U ((Qab f x2).l.take j)) (p+1) from (UH.stepM hf hH2 hx2 (by omega))) (show 1300-(p+1)<1300-p from (by omega)) [(10,aI ((p:Int)+1))] [] ⟨sR,sO,sR,trivial⟩ bb2) a3.1 a3.2 ha3)
 <| fun p3=>.r 2<|.frz 5 [4] [] [V=V,U.length=(U.map intA).length] ⟨rfl,(by first | rfl | (simp;done) | (simp;omega)),trivial⟩<|
 .f (.sl 1 false ((Qeu f i).map intA)) [] (.sl 1 false (U.map intA)) (by exact (W2n (by rw [UH.done hH2 (by omega)])).trans (W2p _ _ _))) a2.1 a2.2.1 a2.2.2 ha2) a1.1 a1.2 ha1)
theorem Qfv (f:Fsy) (okf:OkF f) (hf:midF f):Qag prog 40 [.agg (fsyA f)] (aB (dP (Qe3 f))):=by
 have hfl:=okf.2.1;have hul:=Zau hf 1;exact Qac func40 (let R:AV:=aB (dP (Qe3 f));
 .new fun b1=>.r 1<|.u 1 [b1]<|
 .call (Qy1 f okf)<|
 .r 1<|.r 3<|.br 15 (!(dP (Qat f))) (fun q1=>have q1:=notT q1;have p1:=booF q1;.r 29<|.r 1<|.f R [] (aB false) (by
  refine sF (fun h=>?_);obtain ⟨g,⟨n,hn,a,b,c⟩,_⟩:=h
  first | exact Qaa.1 (by assumption) g | (have:=Qan hn;omega)))
 <| fun q1=>have q1:=notF q1;have p1:=booT q1;.u 3 [b1]<|
 .lm 18 f.l nodA<|.r 3<|.br 21 (decide ((f.l.length:Int)<1)) (fun q2=>have p2:=decT q2;.r 23<|.r 1<|.f R [] (aB false) (by
  refine sF (fun h=>?_);obtain ⟨g,⟨n,hn,a,b,c⟩,_⟩:=h
  first | exact Qaa.1 (by assumption) g | (have:=Qan hn;omega)))
 <| fun q2=>have p2:=decF q2;.u 2 [b1]<|
 .idxM f.l nodA 0 (m:=0) rfl (by omega) fun x1 hx1=>
 have okx1:=okf.2.2 x1 (W0h hx1);have blx1:=okx1.2.2.2.2.1;.r 5<|.br 29 (x1.ino != 1) (fun q3=>have p3:=bneT q3;.r 15<|.r 1<|.f R [] (aB false) (by
  refine sF (fun h=>?_);obtain ⟨g,⟨n,hn,a,b,c⟩,_⟩:=h
  first | exact Qaa.1 (by assumption) g | (have:=Qan hn;omega)| (rw [hx1] at hn;obtain rfl:=W0c hn;omega)))
 <| fun q3=>have p3:=bneF q3;.u 2 [b1]<|
 .idx 0 (m:=0) (xs:=f.l.map nodA) (e:=nodA x1) rfl (map_some hx1)<|
 .r 5<|.br 37 (x1.kind != 2) (fun q4=>have p4:=bneT q4;.r 7<|.r 1<|.f R [] (aB false) (by
  refine sF (fun h=>?_);obtain ⟨g,⟨n,hn,a,b,c⟩,_⟩:=h
  first | exact Qaa.1 (by assumption) g | (have:=Qan hn;omega)| (rw [hx1] at hn;obtain rfl:=W0c hn;omega)))
 <| fun q4=>have p4:=bneF q4;.u 2 [b1]<|
 .idx 0 (m:=0) (xs:=f.l.map nodA) (e:=nodA x1) rfl (map_some hx1)<|
 .r 4<|.br 44 (x1.links != 0) (fun q5=>have p5:=bneT q5;.r 1<|.f R [] (aB false) (by
  refine sF (fun h=>?_);obtain ⟨g,⟨n,hn,a,b,c⟩,_⟩:=h
  first | exact Qaa.1 (by assumption) g | (have:=Qan hn;omega)| (rw [hx1] at hn;obtain rfl:=W0c hn;omega)))
 <| fun q5=>have p5:=bneF q5;.u 1 [b1]<|
 .call (Qtt f 1 okf hf)<|
 .r 1<|.r 1<|let L1:Lp (Nat):=⟨fun a1=>⟨[(1,.ptr 1 b1 0),(4,.sl 1 false ((Qeu f 1).map intA)),(5,aI (a1:Int))],[(1,.box b1 38 (fsyA f))]⟩,fun a1=>f.l.length-a1,fun a1=>Qaz (Quk f) f.l a1⟩
 .lp L1 0 (show Qaz (Quk f) f.l 0 from (Qaz.zero _ _)) [(5,aI 0)] [] ⟨sR,sR,sO,trivial⟩ bb1 fun a1 ha1=>
 (fun (k:Nat) (hH1:Qaz (Quk f) f.l k)=>.u 4 [b1]<|
 .lm 50 f.l nodA<|.r 1<|.br 51 (decide ((k:Int)<(f.l.length:Int))) (fun q6=>have p6:=decT q6;.u 3 [b1]<|
 .idxM f.l nodA k (m:=(k:Int)) rfl (by omega) fun x2 hx2=>
 have okx2:=okf.2.2 x2 (W0h hx2);have blx2:=okx2.2.2.2.2.1;.r 1<|.new fun b2=>.u 1 [b2]<|
 .ord [0,1,2,3,4,5,6]<|.u 5 [b2,b1,b2]<|
 .call (Qum f x2.ino okf hf)<|
 .r 1<|.br 65 (x2.links != (Qop f x2.ino:Int)) (fun q7=>have p7:=bneT q7;.r 1<|.f R [] (aB false) (by
  refine sF (fun h=>?_);have g:=(h.2.2.at hx2).1;omega))
 <| fun q7=>have p7:=bneF q7;.u 3 [b2]<|
 .call (Qlm (Qeu f 1) x2.ino (by omega))<|
 .r 1<|.r 3<|.br 72 (decide ((k:Int)>0)) (fun q8=>have p8:=decT q8;.u 4 [b2]<|
 .br 76 (decide (x2.links<1)) (fun q9=>have p9:=decT q9;.r 14<|.r 1<|.f (aB (dP (Qe3 f))) [] (aB false) (by
  refine sF (fun h=>?_);have g:=(h.2.2.at hx2).2.1;rw [show Qmw f k x2=false from by unfold Qmw;simp only [q8,q9,Bool.and_false,Bool.false_and,Bool.true_and,Bool.and_true,W01,W0u,Bool.or_true,W02,W0x,W0t]] at g;cases g))
 <| fun q9=>have p9:=decF q9;.u 4 [b2]<|
 .br 80 (x2.kind==2) (fun q10=>have p10:=beqT q10;.u 4 [b2]<|
 .br 84 (decide (x2.links>1)) (fun q11=>have p11:=decT q11;.r 6<|.r 1<|.f (aB (dP (Qe3 f))) [] (aB false) (by
  refine sF (fun h=>?_);have g:=(h.2.2.at hx2).2.1;rw [show Qmw f k x2=false from by unfold Qmw;simp only [q8,q9,q10,q11,Bool.and_false,Bool.false_and,Bool.true_and,Bool.and_true,W01,W0u,Bool.or_true,W02,W0x,W0t]] at g;cases g))
 <| fun q11=>have p11:=decF q11;.r 6<|.br 90 (!(hasB (Qeu f 1) x2.ino)) (fun q12=>have q12:=notT q12;have p12:=booF q12;.r 1<|.f (aB (dP (Qe3 f))) [] (aB false) (by
  refine sF (fun h=>?_);have g:=(h.2.2.at hx2).2.1;rw [show Qmw f k x2=false from by unfold Qmw;simp only [q8,q9,q10,q11,q12,Bool.and_false,Bool.false_and,Bool.true_and,Bool.and_true,W01,W0u,Bool.or_true,W02,W0x,W0t]] at g;cases g))
 <| fun q12=>have q12:=notF q12;have p12:=booT q12;.r 1<|let L2:Lp (Nat):=⟨fun a2=>⟨[(1,.ptr 1 b1 0),(4,.sl 1 false ((Qeu f 1).map intA)),(5,aI (k:Int)),(6,.ptr 6 b2 0),(8,aI (a2:Int))],[(1,.box b1 38 (fsyA f)),(6,.box b2 85 (nodA x2))]⟩,fun a2=>x2.l.length-a2,fun a2=>Qaz (fun _ e=>Qav f e.ino=true) x2.l a2⟩
 .lp L2 0 (show Qaz (fun _ e=>Qav f e.ino=true) x2.l 0 from Qaz.zero _ _) [(8,aI 0)] [] ⟨sR,sR,sR,sR,sO,trivial⟩ bb2 fun a2 ha2=>
 (fun (j:Nat) (hH2:Qaz (fun _ e=>Qav f e.ino=true) x2.l j)=>.u 4 [b2]<|
 .lm 94 x2.l entA<|.r 1<|.br 95 (decide ((j:Int)<(x2.l.length:Int))) (fun q13=>have p13:=decT q13;.pick [0,1,2,3,4,5,6]<|.u 4 [b1,b2]<|
 .idxM x2.l entA j (m:=(j:Int)) rfl (by omega) fun x3 hx3=>
 .r 2<|.fork<|.alt (.call (Qc2 f x3.ino (by omega))<|
 .pick [8,9,10,11,12,13]<|.r 3<|.new fun b3=>.u 2 [b3]<|
 .r 2<|.br 110 (!(Qav f x3.ino)) (fun q14=>have q14:=notT q14;have p14:=booF q14;.r 1<|.f R [] (aB false) (by
  refine sF (fun h=>?_);have g:=(h.2.2.at hx2).2.2.at hx3;simp_all))
 <| fun q14=>have q14:=notF q14;have p14:=booT q14;.run 3 [rng .i64 ((j:Int)+1)] ⟨Qal,trivial⟩<|
 .bk L2 j (j+1) (show Qaz (fun _ e=>Qav f e.ino=true) x2.l (j+1) from (hH2.step hx3 (by assumption))) (show x2.l.length-(j+1)<x2.l.length-j from (by omega)) [(8,aI ((j:Int)+1))] [] ⟨sR,sR,sR,sR,sO,trivial⟩ bb2)
 <| .new fun b4=>.pick [7,8,9,10,12,13]<|.call (Qc2 f x3.ino (by omega))<|
 .u 5 [b4]<|
 .r 2<|.br 110 (!(Qav f x3.ino)) (fun q15=>have q15:=notT q15;have p15:=booF q15;.r 1<|.f R [] (aB false) (by
  refine sF (fun h=>?_);have g:=(h.2.2.at hx2).2.2.at hx3;simp_all))
 <| fun q15=>have q15:=notF q15;have p15:=booT q15;.run 3 [rng .i64 ((j:Int)+1)] ⟨Qal,trivial⟩<|
 .bk L2 j (j+1) (show Qaz (fun _ e=>Qav f e.ino=true) x2.l (j+1) from (hH2.step hx3 (by assumption))) (show x2.l.length-(j+1)<x2.l.length-j from (by omega)) [(8,aI ((j:Int)+1))] [] ⟨sR,sR,sR,sR,sO,trivial⟩ bb2)
 <| fun q13=>have p13:=decF q13;.run 3 [rng .i64 ((k:Int)+1)] ⟨Qal,trivial⟩<|
 .bk L1 k (k+1) (show Qaz (Quk f) f.l (k+1) from (hH1.step hx2 ⟨by omega,(by unfold Qmw;simp only [q8,q9,q10,q11,q12,Bool.and_false,Bool.false_and,Bool.true_and,Bool.and_true,W01,W0u,Bool.or_true,W02,W0x,W0t]),hH2.full (by omega)⟩)) (show f.l.length-(k+1)<f.l.length-k from (by omega)) [(5,aI ((k:Int)+1))] [] ⟨sR,sR,sO,trivial⟩ bb1) a2 ha2)
 <| fun q10=>have p10:=beqF q10;.r 10<|.r 1<|let L2:Lp (Nat):=⟨fun a2=>⟨[(1,.ptr 1 b1 0),(4,.sl 1 false ((Qeu f 1).map intA)),(5,aI (k:Int)),(6,.ptr 6 b2 0),(8,aI (a2:Int))],[(1,.box b1 38 (fsyA f)),(6,.box b2 85 (nodA x2))]⟩,fun a2=>x2.l.length-a2,fun a2=>Qaz (fun _ e=>Qav f e.ino=true) x2.l a2⟩
 .lp L2 0 (show Qaz (fun _ e=>Qav f e.ino=true) x2.l 0 from Qaz.zero _ _) [(8,aI 0)] [] ⟨sR,sR,sR,sR,sO,trivial⟩ bb2 fun a2 ha2=>
 (fun (j:Nat) (hH2:Qaz (fun _ e=>Qav f e.ino=true) x2.l j)=>.u 4 [b2]<|
 .lm 94 x2.l entA<|.r 1<|.br 95 (decide ((j:Int)<(x2.l.length:Int))) (fun q16=>have p16:=decT q16;.pick [0,1,2,3,4,5,6]<|.u 4 [b1,b2]<|
 .idxM x2.l entA j (m:=(j:Int)) rfl (by omega) fun x4 hx4=>
 .r 2<|.fork<|.alt (.call (Qc2 f x4.ino (by omega))<|
 .pick [8,9,10,11,12,13]<|.r 3<|.new fun b5=>.u 2 [b5]<|
 .r 2<|.br 110 (!(Qav f x4.ino)) (fun q17=>have q17:=notT q17;have p17:=booF q17;.r 1<|.f R [] (aB false) (by
  refine sF (fun h=>?_);have g:=(h.2.2.at hx2).2.2.at hx4;simp_all))
 <| fun q17=>have q17:=notF q17;have p17:=booT q17;.run 3 [rng .i64 ((j:Int)+1)] ⟨Qal,trivial⟩<|
 .bk L2 j (j+1) (show Qaz (fun _ e=>Qav f e.ino=true) x2.l (j+1) from (hH2.step hx4 (by assumption))) (show x2.l.length-(j+1)<x2.l.length-j from (by omega)) [(8,aI ((j:Int)+1))] [] ⟨sR,sR,sR,sR,sO,trivial⟩ bb2)
 <| .new fun b6=>.pick [7,8,9,10,12,13]<|.call (Qc2 f x4.ino (by omega))<|
 .u 5 [b6]<|
 .r 2<|.br 110 (!(Qav f x4.ino)) (fun q18=>have q18:=notT q18;have p18:=booF q18;.r 1<|.f R [] (aB false) (by
  refine sF (fun h=>?_);have g:=(h.2.2.at hx2).2.2.at hx4;simp_all))
 <| fun q18=>have q18:=notF q18;have p18:=booT q18;.run 3 [rng .i64 ((j:Int)+1)] ⟨Qal,trivial⟩<|
 .bk L2 j (j+1) (show Qaz (fun _ e=>Qav f e.ino=true) x2.l (j+1) from (hH2.step hx4 (by assumption))) (show x2.l.length-(j+1)<x2.l.length-j from (by omega)) [(8,aI ((j:Int)+1))] [] ⟨sR,sR,sR,sR,sO,trivial⟩ bb2)
 <| fun q16=>have p16:=decF q16;.run 3 [rng .i64 ((k:Int)+1)] ⟨Qal,trivial⟩<|
 .bk L1 k (k+1) (show Qaz (Quk f) f.l (k+1) from (hH1.step hx2 ⟨by omega,(by unfold Qmw;simp only [q8,q9,q10,Bool.and_false,Bool.false_and,Bool.true_and,Bool.and_true,W01,W0u,Bool.or_true,W02,W0x,W0t]),hH2.full (by omega)⟩)) (show f.l.length-(k+1)<f.l.length-k from (by omega)) [(5,aI ((k:Int)+1))] [] ⟨sR,sR,sO,trivial⟩ bb1) a2 ha2)
 <| fun q8=>have p8:=decF q8;.r 18<|.r 1<|let L2:Lp (Nat):=⟨fun a2=>⟨[(1,.ptr 1 b1 0),(4,.sl 1 false ((Qeu f 1).map intA)),(5,aI (k:Int)),(6,.ptr 6 b2 0),(8,aI (a2:Int))],[(1,.box b1 38 (fsyA f)),(6,.box b2 85 (nodA x2))]⟩,fun a2=>x2.l.length-a2,fun a2=>Qaz (fun _ e=>Qav f e.ino=true) x2.l a2⟩
 .lp L2 0 (show Qaz (fun _ e=>Qav f e.ino=true) x2.l 0 from Qaz.zero _ _) [(8,aI 0)] [] ⟨sR,sR,sR,sR,sO,trivial⟩ bb2 fun a2 ha2=>
 (fun (j:Nat) (hH2:Qaz (fun _ e=>Qav f e.ino=true) x2.l j)=>.u 4 [b2]<|
 .lm 94 x2.l entA<|.r 1<|.br 95 (decide ((j:Int)<(x2.l.length:Int))) (fun q19=>have p19:=decT q19;.pick [0,1,2,3,4,5,6]<|.u 4 [b1,b2]<|
 .idxM x2.l entA j (m:=(j:Int)) rfl (by omega) fun x5 hx5=>
 .r 2<|.fork<|.alt (.call (Qc2 f x5.ino (by omega))<|
 .pick [8,9,10,11,12,13]<|.r 3<|.new fun b7=>.u 2 [b7]<|
 .r 2<|.br 110 (!(Qav f x5.ino)) (fun q20=>have q20:=notT q20;have p20:=booF q20;.r 1<|.f R [] (aB false) (by
  refine sF (fun h=>?_);have g:=(h.2.2.at hx2).2.2.at hx5;simp_all))
 <| fun q20=>have q20:=notF q20;have p20:=booT q20;.run 3 [rng .i64 ((j:Int)+1)] ⟨Qal,trivial⟩<|
 .bk L2 j (j+1) (show Qaz (fun _ e=>Qav f e.ino=true) x2.l (j+1) from (hH2.step hx5 (by assumption))) (show x2.l.length-(j+1)<x2.l.length-j from (by omega)) [(8,aI ((j:Int)+1))] [] ⟨sR,sR,sR,sR,sO,trivial⟩ bb2)
 <| .new fun b8=>.pick [7,8,9,10,12,13]<|.call (Qc2 f x5.ino (by omega))<|
 .u 5 [b8]<|
 .r 2<|.br 110 (!(Qav f x5.ino)) (fun q21=>have q21:=notT q21;have p21:=booF q21;.r 1<|.f R [] (aB false) (by
  refine sF (fun h=>?_);have g:=(h.2.2.at hx2).2.2.at hx5;simp_all))
 <| fun q21=>have q21:=notF q21;have p21:=booT q21;.run 3 [rng .i64 ((j:Int)+1)] ⟨Qal,trivial⟩<|
 .bk L2 j (j+1) (show Qaz (fun _ e=>Qav f e.ino=true) x2.l (j+1) from (hH2.step hx5 (by assumption))) (show x2.l.length-(j+1)<x2.l.length-j from (by omega)) [(8,aI ((j:Int)+1))] [] ⟨sR,sR,sR,sR,sO,trivial⟩ bb2)
 <| fun q19=>have p19:=decF q19;.run 3 [rng .i64 ((k:Int)+1)] ⟨Qal,trivial⟩<|
 .bk L1 k (k+1) (show Qaz (Quk f) f.l (k+1) from (hH1.step hx2 ⟨by omega,(by unfold Qmw;simp only [q8,Bool.and_false,Bool.false_and,Bool.true_and,Bool.and_true,W01,W0u,Bool.or_true,W02,W0x,W0t]),hH2.full (by omega)⟩)) (show f.l.length-(k+1)<f.l.length-k from (by omega)) [(5,aI ((k:Int)+1))] [] ⟨sR,sR,sO,trivial⟩ bb1) a2 ha2)
 <| fun q6=>have p6:=decF q6;.r 1<|.f R [] (aB true) (by exact sT ⟨Qaf.1 (by assumption),⟨x1,hx1,by omega,by omega,by omega⟩,hH1.full (by omega)⟩)) a1 ha1)
theorem Qsk {f:Fsy} {i:Int} (hp:Qat f) (hf:midF f):∀ (n:Nat) {U:List Int} (p:Nat),Dst f U→1000≤n+p→(∀ y∈Qa4 f i,hasB U y=true)→(∀ k z,k<p→U[k]?=some z→∀ y∈Qa4 f z,hasB U y=true) →
  (∀ y∈Qa4 f i,hasB (goU f n U p) y=true)∧∀ z,hasB (goU f n U p) z=true→∀ y∈Qa4 f z,hasB (goU f n U p) y=true
 | 0,U,p,hd,hn,hi,h=>by
  have hl:=hd.leM hf;refine ⟨hi,fun z hz=>?_⟩;obtain ⟨k,hk⟩:=W0w (Qln.1 hz);have hk':U[k]?=some z:=hk;exact h k z (by have:=Qan hk';omega) hk'
 | n+1,U,p,hd,hn,hi,h=>by
  simp only [goU]
  split
  ·rename_i y hy;have mono:∀ z,hasB U z=true→hasB (addE U (Qab f y).l) z=true:=fun z hz=>Qya.2 (.inl hz);refine Qsk hp hf n (p+1) (Qhx hd fun e he=>Qhq he) (by omega) (fun z hz=>mono z (hi z hz)) fun k z hk hz w hw=>?_;by_cases hkp:k<p
   ·have hk2:k<U.length:=by have:=Qan hy;omega
    have e:U[k]?=some z:=by
     have:=Qx8 (l:=(Qab f y).l) (W0d hk2);rw [this] at hz;rw [W0d hk2];exact hz
    exact mono w (h k z hkp e w hw)
   ·have e:k=p:=by omega
    subst e;rw [Qx8 hy] at hz;obtain rfl:=W0c hz;exact Qya.2 (.inr (by rw [Qnb hp];exact hw))
  ·rename_i hnone;refine ⟨hi,fun z hz=>?_⟩;obtain ⟨k,hk⟩:=W0w (Qln.1 hz);have:U.length≤p:=by
    cases Nat.lt_or_ge p U.length with
    | inl hlt=>rw [W0d hlt] at hnone;cases hnone
    | inr hge=>exact hge
   exact h k z (by have:=Qan hk;omega) hk
theorem Qyf {f:Fsy} {i z:Int} (hp:Qat f) (hf:midF f):hasB (Qeu f i) z=true↔Reach f i z:=by
 have h0:∀ y,hasB (addE [] (Qab f i).l) y=true↔y∈Qa4 f i:=fun y=>by
  rw [Qya,Qnb hp];simp [hasB]
 refine ⟨Qsj hp 1300 0 (fun y hy=>.one ((h0 y).1 hy)) z,fun h=>?_⟩;obtain ⟨g1,g2⟩:=Qsk (i:=i) hp hf 1300 0 (Qhx (Dst.nil f) fun e he=>Qhq he) (by omega) (fun y hy=>(h0 y).2 hy) (fun k z hk=>absurd hk (Nat.not_lt_zero k));have main:∀ a b,Reach f a b→(∀ y∈Qa4 f a,hasB (Qeu f i) y=true)→hasB (Qeu f i) b=true:=by
  intro a b hab
  induction hab with
  | one h=>exact fun hk=>hk _ h
  | more h _ ih=>exact fun hk=>ih (g2 _ (hk _ h))
 exact main i z h g1
end Go.Proofs.YtkhodpknpligpaaGreat

namespace Go.Proofs.YtkhodpknpligpaaGreat
open Go Go.RowKit Copyhold Go.Proofs.Tryz
open Copyhold.Name (Srt insE delE getE isAt)
end Go.Proofs.YtkhodpknpligpaaGreat

set_option maxRecDepth 100000
namespace Go.Proofs.YtkhodpknpligpaaGreat
open Go.RowKit Copyhold
theorem Zjg:Elem Tryz.prog 300 5 (.int .u8 0) 1 1:=⟨by kernel_rfl,by kernel_rfl,rfl,by decide⟩
def Qc5 (b:UInt8):Value:=.int .u8 (b.toNat:Int)
def Brow (w:World) (base:Nat) (v:Value) (l:List UInt8):Prop:=
 (v=.slice none 0 0∧l=[])∨∃ g cap,v=.slice (some ⟨g,0,none⟩) l.length cap∧base≤g∧g<w.heap.size∧l.length≤cap∧cap≤maxLen ∧
  (∀ j,j<cap→(w.cell? ⟨g,j,none⟩).isSome=true)∧(∀ j,j<cap→w.frozen? ⟨g,j,none⟩=false)∧∀ j x,l[j]?=some x→w.cell? ⟨g,j,none⟩=some (Qc5 x)
theorem Brow.shape {w:World} {base:Nat} {v:Value} {l:List UInt8} (h:Brow w base v l):∃ A c,v=.slice A l.length c:=by
 rcases h with ⟨rfl,rfl⟩ | ⟨g,cap,rfl,_⟩
 ·exact ⟨none,0,rfl⟩
 ·exact ⟨_,cap,rfl⟩
theorem Brow.alloc {w:World} {base:Nat} {v:Value} {l:List UInt8} (h:Brow w base v l) (o:Obj):Brow (w.alloc o) base v l:=by
 rcases h with h | ⟨g,cap,rfl,hb,hg,hl,hc,h1,h2,h3⟩
 ·exact .inl h
 ·refine .inr ⟨g,cap,rfl,hb,by simp;omega,hl,hc,fun j hj=>?_,fun j hj=>?_,fun j x hx=>?_⟩
  ·rw [World.cell?_alloc_lt _ _ _ hg];exact h1 j hj
  ·rw [World.frozen?_of_block (Below.heap_alloc w o g hg)];exact h2 j hj
  ·rw [World.cell?_alloc_lt _ _ _ hg];exact h3 j x hx
theorem Brow.back {w:World} {base:Nat} {v:Value} {l:List UInt8} (h:Brow w base v l):(convert 300 9 v).run Tryz.prog w=.ok (.string ⟨l.toArray⟩) w:=by
 rcases h with ⟨rfl,rfl⟩ | ⟨g,cap,rfl,hb,hg,hl,hc,h1,h2,h3⟩
 ·exact run_convert_bytes_nil w 300 5 rfl rfl 0 0 9 rfl
 ·exact run_convert_bytes_back w _ _ 5 _ _ l rfl rfl rfl fun j hj=>by
   rw [Qbb,Nat.zero_add];exact h3 j _ (W0d hj)
theorem Brow.store {w:World} {base g cap:Nat} {l:List UInt8} (h:Brow w base (.slice (some ⟨g,0,none⟩) l.length cap) l) (k:Nat) (x:UInt8) (hk:k<l.length) :
  base≤g∧(∃ u,w.cell? ⟨g,k,none⟩=some u)∧w.frozen? ⟨g,k,none⟩=false∧Brow (w.setCell ⟨g,k,none⟩ (Qc5 x)) base (.slice (some ⟨g,0,none⟩) l.length cap) (l.set k x):=by
 rcases h with ⟨h,rfl⟩ | ⟨g',cap',he,hb,hg,hl,hc,h1,h2,h3⟩
 ·simp at hk
 ·simp only [Value.slice.injEq,W0k,Addr.mk.injEq,and_true,true_and] at he;obtain ⟨rfl,rfl⟩:=he;have hc0:=h3 k l[k] (W0d hk);refine ⟨hb,⟨_,hc0⟩,h2 k (by omega),.inr ⟨g,cap,by rw [List.length_set],hb,by simpa using hg,by rw [List.length_set];exact hl,hc,fun j hj=>?_,fun j hj=>?_,fun j y hy=>?_⟩⟩
  ·by_cases hjk:k=j
   ·subst hjk;rw [World.cell?_setCell_same _ _ _ hc0];rfl
   ·rw [World.cell?_setCell_other _ _ _ _ (by intro e;simp at e<;>exact hjk e)];exact h1 j hj
  ·have:=h2 j hj;simpa [go_sem] using this
  ·by_cases hjk:k=j
   ·subst hjk;rw [World.cell?_setCell_same _ _ _ hc0];rw [List.getElem?_set_self hk] at hy;injection hy with hy
    subst hy;rfl
   ·rw [World.cell?_setCell_other _ _ _ _ (by intro e;simp at e<;>exact hjk e)];rw [List.getElem?_set_ne hjk] at hy;exact h3 j y hy
theorem Brow.append {w:World} {base:Nat} {v:Value} {l:List UInt8} (h:Brow w base v l) (x:UInt8) (hl:l.length≤1048576) (hbase:base≤w.heap.size) :
  ∃ v' w',(Builtin.append_ #[300,300] 300 #[v,.slice (some ⟨w.heap.size,0,none⟩) 1 1]).run Tryz.prog (w.alloc (.cells #[Qc5 x] 5))=.ok v' w'∧Brow w' base v' (l++[x])∧Below base w w':=by
 obtain ⟨ht,hinf,hzs,hsz⟩:=Zjg;obtain ⟨i,hi,hz,hsize,hby⟩:=Qgq hinf;have hnews:=cell_one_new w (Qc5 x) 5;have hbW:Below base w (w.alloc (.cells #[Qc5 x] 5)):=(Below.refl _ _).alloc hbase _;have h1c:∀ u∈[Qc5 x],u.oneCell'=true:=fun u hu=>by simp at hu;subst hu;rfl
 have hnew:∀ (W:World) (old:Nat),old<l.length+1→W.heap.size=w.heap.size+1→Below base w W→Brow (W.drew.alloc (.cells ((l.map Qc5).toArray++#[Qc5 x]++Builtin.zeroCells (Value.int .u8 0).cells (grownCap W (l.length+1) old 5-(l.length+1))) 5)) base
   (.slice (some ⟨W.heap.size,0,none⟩) (l.length+1) (grownCap W (l.length+1) old 5)) (l++[x])∧Below base w (W.drew.alloc (.cells ((l.map Qc5).toArray++#[Qc5 x]++Builtin.zeroCells (Value.int .u8 0).cells (grownCap W (l.length+1) old 5-(l.length+1))) 5)):=by
  intro W old ho hs hB;have hge:=grownCap_ge W (l.length+1) old 5;have hcm:=grownCap_le_maxLen W (l.length+1) old 5 (by unfold maxLen;omega);have hcell:=Zjf W.drew ((l.map Qc5).toArray++#[Qc5 x]++Builtin.zeroCells (Value.int .u8 0).cells (grownCap W (l.length+1) old 5-(l.length+1))) 5;have hcsz:((l.map Qc5).toArray++#[Qc5 x]++Builtin.zeroCells (Value.int .u8 0).cells (grownCap W (l.length+1) old 5-(l.length+1))).size=grownCap W (l.length+1) old 5:=by
   simp [size_zeroCells];have:(Value.int .u8 0).cells.size=1:=rfl;rw [this];omega
  refine ⟨.inr ⟨W.heap.size,_,by rw [W0e];rfl,by rw [hs];omega,by simp,by rw [W0e];simpa using hge,hcm,fun j hj=>?_,fun j hj=>?_,fun j y hy=>?_⟩,?_⟩
  ·have:=hcell j;rw [show W.drew.heap.size=W.heap.size from rfl] at this;rw [this,W1p (by rw [hcsz];exact hj)];rfl
  ·have:(W.drew.alloc (.cells ((l.map Qc5).toArray++#[Qc5 x]++Builtin.zeroCells (Value.int .u8 0).cells (grownCap W (l.length+1) old 5-(l.length+1))) 5)).heap[W.heap.size]?=_:=heap_alloc_new W.drew _;simp only [World.frozen?,this];simp
  ·have:=hcell j;rw [show W.drew.heap.size=W.heap.size from rfl] at this;rw [this];have hj:=(W0i.1 hy).1;rw [W0e] at hj;simp at hj;have e:((l.map Qc5).toArray++#[Qc5 x])=((l++[x]).map Qc5).toArray:=by simp
   rw [e,W2b (by simp;omega),List.getElem?_toArray,W0v,hy];rfl
  ·exact (hB.drew).alloc (by show base≤W.heap.size;omega) _
 rcases h with ⟨rfl,rfl⟩ | ⟨g,cap,rfl,hb,hg,hlc,hc,h1,h2,h3⟩
 ·have hr:=run_append_nil (P:=Tryz.prog) (w.alloc (.cells #[Qc5 x] 5)) 300 300 5 i (.int .u8 0) ht hi hz ⟨w.heap.size,0,none⟩ 1 1 [Qc5 x] (by rw [hsize];rfl) hnews (by omega) (by omega) (by rw [hby];omega);have hn:=hnew (w.alloc (.cells #[Qc5 x] 5)) 0 (by omega) (by simp) hbW;simp only [List.map_nil,W0f,Nat.zero_add] at hn;exact ⟨_,_,hr,by simpa using hn.1,by simpa using hn.2⟩
 ·by_cases hroom:l.length+1≤cap
  ·have hA:=(show Brow w base (.slice (some ⟨g,0,none⟩) l.length cap) l from .inr ⟨g,cap,rfl,hb,hg,hlc,hc,h1,h2,h3⟩).alloc (.cells #[Qc5 x] 5);rcases hA with ⟨he,_⟩ | ⟨g',cap',he,hb',hg',hlc',hc',k1,k2,k3⟩
   ·simp at he
   ·simp only [Value.slice.injEq,W0k,Addr.mk.injEq,and_true,true_and] at he;obtain ⟨rfl,rfl⟩:=he;have hr:=run_append_room_cells (P:=Tryz.prog) (w.alloc (.cells #[Qc5 x] 5)) 300 300 5 i ht hi g 0 l.length cap ⟨w.heap.size,0,none⟩ 1 1 [Qc5 x] (by rw [hsize];rfl) hnews h1c hroom
     (fun j hj=>by simp at hj;subst hj;rw [hsize];simpa using k1 l.length (by omega)) (fun j hj=>by simp at hj;subst hj;rw [hsize];simpa using k2 l.length (by omega))
    rw [hsize,Nat.mul_one,Nat.zero_add] at hr;have hset:(w.alloc (.cells #[Qc5 x] 5)).setCells g l.length [Qc5 x]=(w.alloc (.cells #[Qc5 x] 5)).setCell ⟨g,l.length,none⟩ (Qc5 x):=rfl;rw [hset] at hr;obtain ⟨u,hu⟩:=Option.isSome_iff_exists.1 (k1 l.length (by omega));refine ⟨_,_,hr,.inr ⟨g,cap,by rw [W0e];rfl,hb,by simpa using hg',by rw [W0e];exact hroom,hc,fun j hj=>?_,fun j hj=>?_,fun j y hy=>?_⟩,hbW.setCell hb _⟩
    ·by_cases hjk:l.length=j
     ·subst hjk;rw [World.cell?_setCell_same _ _ _ hu];rfl
     ·rw [World.cell?_setCell_other _ _ _ _ (by intro e;simp at e<;>exact hjk e)];exact k1 j hj
    ·have:=k2 j hj;simpa [go_sem] using this
    ·by_cases hjk:l.length=j
     ·subst hjk;rw [World.cell?_setCell_same _ _ _ hu];simp at hy;rw [hy]
     ·rw [World.cell?_setCell_other _ _ _ _ (by intro e;simp at e<;>exact hjk e)];have hj:=(W0i.1 hy).1;rw [W0e] at hj;simp at hj;rw [W0o (by omega)] at hy;exact k3 j y hy
  ·have hr:=run_append_grow (P:=Tryz.prog) (w.alloc (.cells #[Qc5 x] 5)) 300 300 5 i (.int .u8 0) ht hi hz ⟨g,0,none⟩ l.length cap (l.map Qc5) (by rw [hsize];simp)
    (fun j u hu=>by
     rw [Qbb,Nat.zero_add,World.cell?_alloc_lt _ _ _ hg];rw [W0v] at hu;cases hlj:l[j]? with
     | none=>rw [hlj] at hu;cases hu
     | some y=>rw [hlj] at hu;injection hu with hu;rw [← hu];exact h3 j y hlj)
    ⟨w.heap.size,0,none⟩ 1 1 [Qc5 x] (by rw [hsize];rfl) hnews (by omega) (by omega) (growslice_fits (by omega) (by rw [hby];omega))
   have hn:=hnew (w.alloc (.cells #[Qc5 x] 5)) cap (by omega) (by simp) hbW;exact ⟨_,_,hr,hn.1,hn.2⟩
end Go.Proofs.YtkhodpknpligpaaGreat

set_option maxRecDepth 100000
namespace Go.Proofs.YtkhodpknpligpaaGreat
open Go.RowKit Copyhold
attribute [local go_sem] Qza
end Go.Proofs.YtkhodpknpligpaaGreat

set_option maxRecDepth 100000
namespace Go.Proofs.YtkhodpknpligpaaGreat.dataSplit
open Go.RowKit Copyhold
end Go.Proofs.YtkhodpknpligpaaGreat.dataSplit

set_option maxRecDepth 100000
namespace Go.Proofs.YtkhodpknpligpaaGreat
open Go.RowKit Copyhold
attribute [local go_sem] Qza
end Go.Proofs.YtkhodpknpligpaaGreat

set_option maxRecDepth 100000
namespace Go.Proofs.YtkhodpknpligpaaGreat
open Go.RowKit Copyhold
attribute [local go_sem] Qza
end Go.Proofs.YtkhodpknpligpaaGreat

namespace Go.Proofs.YtkhodpknpligpaaGreat
open Go Go.RowKit Copyhold Go.Proofs.Tryz
structure OkC0 (c:Cal):Prop where
 kind:I64 c.kind
 ino:I64 c.ino
 to:I64 c.to
 at_:I64 c.at_
 many:I64 c.many
 name:c.name.length≤140737488351232
 name2:c.name2.length≤140737488351232
 text:c.text.length≤140737488351232
def txC (c:Cal):Nat:=c.name.length+c.name2.length+c.text.length
def smS (l:List Cal) (k:Nat):Nat:=l.length+((l.take k).map txC).sum
def Qgb (l:List Cal):Prop:=smS l l.length≤2000∧l.length≤30
theorem sm_0 (l:List Cal):smS l 0=l.length:=by unfold smS;simp
theorem Zbe {l:List Cal} {k:Nat} {x:Cal} (h:l[k]?=some x):smS l (k+1)=smS l k+txC x:=by
 unfold smS;rw [Qaq h];simp;omega
theorem Zlb (l:List Cal) (k:Nat):smS l k≤smS l l.length:=by
 unfold smS;have:=Qdv txC l k;rw [W12];omega
theorem Zgw {l:List Cal} (h:Qgb l) {c:Cal} (hc:c∈l) (h0:OkC0 c):OkCal c:=by
 have h1:=h.1;have:txC c≤((l.take l.length).map txC).sum:=by rw [W12];exact Qly hc
 unfold smS at h1;have e:txC c=c.name.length+c.name2.length+c.text.length:=rfl;exact ⟨h0.kind,h0.ino,h0.to,h0.at_,h0.many,by omega,by omega,by omega⟩
theorem Qyp (l:List Cal) (hl:l.length≤8796093022207) (ok:∀ c∈l,OkC0 c):Qag prog 26 [.sl 8 false (l.map calA)] (aB (dP (Qgb l))):=by
 exact Qac func26 (
 .r 1<|.r 2<|.lm 6 l calA<|.r 1<|.r 1<|let L1:Lp (Nat):=⟨fun a1=>⟨[(0,.sl 8 false (l.map calA)),(4,aI (a1:Int)),(3,aI (smS l a1:Int))],[]⟩,fun a1=>l.length-a1,fun a1=>a1≤l.length∧smS l a1≤500000000000000⟩
 .lp L1 0 (show 0≤l.length∧smS l 0≤500000000000000 from (by rw [sm_0];omega)) [(4,aI 0),(3,aI (l.length:Int))] [] ⟨sR,sO,W2n (W1y aI (by rw [sm_0])),trivial⟩ trivial fun a1 ha1=>
 (fun (k:Nat) (hH1:k≤l.length∧smS l k≤500000000000000)=>.r 3<|.lm 9 l calA<|.r 2<|.bd 11 ((k:Int)<(l.length:Int)) (fun p1=>.r 3<|.br 14 (decide ((smS l k:Int)≤2000)) (fun q2=>have p2:=decT q2;.ord [0,1,2,3,4,5,6,7,8,9,10,11,12,13,14,15,16,17,18,19,20,21,22]<|.r 3<|.idxM l calA k (m:=(k:Int)) rfl (by omega) fun x1 hx1=>
 have okx1:=ok x1 (W0h hx1);have b1x1:=okx1.name;have b2x1:=okx1.name2;have b3x1:=okx1.text;.run 6 [rng .i64 ((smS l k:Int)+((x1.name).length:Int))] ⟨Qal,trivial⟩<|
 .idx k (m:=(k:Int)) (xs:=l.map calA) (e:=calA x1) rfl (map_some hx1)<|
 .run 6 [rng .i64 (((smS l k:Int)+((x1.name).length:Int))+((x1.name2).length:Int))] ⟨Qal,trivial⟩<|
 .idx k (m:=(k:Int)) (xs:=l.map calA) (e:=calA x1) rfl (map_some hx1)<|
 .run 5 [rng .i64 ((((smS l k:Int)+((x1.name).length:Int))+((x1.name2).length:Int))+((x1.text).length:Int))] ⟨Qal,trivial⟩<|
 .run 3 [rng .i64 ((k:Int)+1)] ⟨Qal,trivial⟩<|
 .bk L1 k (k+1) (show (k+1)≤l.length∧smS l (k+1)≤500000000000000 from (by refine ⟨by omega,?_⟩;rw [Zbe hx1];unfold txC;omega)) (show l.length-(k+1)<l.length-k from (by omega)) [(4,aI ((k:Int)+1)),(3,aI ((((smS l k:Int)+((x1.name).length:Int))+((x1.name2).length:Int))+((x1.text).length:Int)))] [] ⟨sR,sO,W2n (W1y aI (by rw [Zbe hx1];unfold txC;omega)),trivial⟩ trivial)
 <| fun q2=>have p2:=decF q2;.r 3<|.is 41 q2<|.r 5<|.f (aB (dP (Qgb l))) [] (aB false) (by
  have hm:=Zlb l k;by_cases hk:k=l.length
  ·rw [← hk] at hm;refine sE ?_;unfold Qgb;rw [← hk];simp;omega
  ·refine sE ?_;unfold Qgb;simp;omega))
 <| fun p1=>.r 3<|.r 3<|.bd 41 ((smS l k:Int)≤2000) (fun p3=>.r 2<|.lm 43 l calA<|.r 3<|.f (aB (dP (Qgb l))) [] (aB (decide ((l.length:Int)≤30))) (by
  have hm:=Zlb l k;by_cases hk:k=l.length
  ·rw [← hk] at hm;refine sE ?_;unfold Qgb;rw [← hk];simp;omega
  ·refine sE ?_;unfold Qgb;simp;omega))
 <| fun p3=>.r 5<|.f (aB (dP (Qgb l))) [] (aB false) (by
  have hm:=Zlb l k;by_cases hk:k=l.length
  ·rw [← hk] at hm;refine sE ?_;unfold Qgb;rw [← hk];simp;omega
  ·refine sE ?_;unfold Qgb;simp;omega)) a1 ha1)
structure KeptN (f g:Fsy) (k:Nat):Prop where
 ok:OkF g
 tree:TreeP g
 next:f.next≤g.next∧g.next≤f.next+k
 few:wF g≤wF f+2*k
theorem Qxr {f:Fsy} {c:Cal} (hp:Qat f):(doF f c).2.names.length≤256:=by
 have key:(Qch f c).2.names.length≤256:=by
  rcases (show c.kind=1∨c.kind=2∨c.kind=3∨c.kind=4∨c.kind=5∨c.kind=6∨c.kind=7∨c.kind=8∨c.kind=9∨c.kind=10∨c.kind=11∨c.kind=12∨c.kind=13∨c.kind=14∨c.kind=15∨(c.kind<1∨c.kind>15) from by omega) with h | h | h | h | h | h | h | h | h | h | h | h | h | h | h | h
  ·rw [Ze2 h];exact W0j _
  ·rw [Ze1 h];unfold Qk0;split<;>exact W0j _
  ·rw [Ze0 h];unfold Qk1;split<;>exact W0j _
  ·rw [Zez h];unfold Qga;split<;>exact W0j _
  ·rw [Zey h];unfold cutO;split<;>exact W0j _
  ·rw [Qxt h];exact W0j _
  ·rw [Zex h];exact W0j _
  ·rw [Zew h];unfold symO;split<;>exact W0j _
  ·rw [Zev h];unfold Qdj;split
   ·split<;>exact W0j _
   ·exact W0j _
  ·rw [Qve h];unfold Qdj;split
   ·split<;>exact W0j _
   ·exact W0j _
  ·rw [Qvd h];exact W0j _
  ·rw [Qvc h];exact W0j _
  ·rw [Qvb h];exact W0j _
  ·rw [Qva h];show ((dirN f c.ino).l.map Ent.name).length≤256;rw [W0a];exact (Qef hp c.ino).2
  ·rw [Qu9 h];exact W0j _
  ·rw [Qu8 h];exact W0j _
 unfold doF
 split
 ·exact key
 ·exact W0j _
theorem rep_eq {x y:Rep} (h1:x.e=y.e) (h2:x.a=y.a) (h3:x.b=y.b) (h4:x.n=y.n) (h5:x.text=y.text) (h6:x.names=y.names):x=y:=by cases x;cases y;simp_all
theorem Qyy (a b:List Txt) (h1:a.length≤1000000) (h2:b.length≤1000000):Qag prog 91 [.sl 1 false (a.map txA),.sl 1 false (b.map txA)] (aB (dP (a=b))):=by
 exact Qac func91 (let R:AV:=aB (dP (a=b));
 .r 1<|.r 2<|.lm 7 a txA<|.r 2<|.lm 9 b txA<|.r 1<|.bn 10 (a.length:Int) (b.length:Int) (fun p1=>.r 1<|.f (aB (dP (a=b))) [] (aB false) (by exact sF (fun h=>by have:=W1y List.length h;omega)))
 <| fun p1=>.r 1<|let L1:Lp (Nat):=⟨fun a1=>⟨[(0,.sl 1 false (a.map txA)),(1,.sl 1 false (b.map txA)),(5,aI (a1:Int))],[]⟩,fun a1=>a.length-a1,fun a1=>a1≤a.length∧a.take a1=b.take a1⟩
 .lp L1 0 ⟨W0j _,rfl⟩ [(5,aI 0)] [] ⟨sR,sR,sO,trivial⟩ trivial fun a1 ha1=>
 (fun (k:Nat) (hH1:k≤a.length∧a.take k=b.take k)=>.r 3<|.lm 13 a txA<|.r 1<|.bd 14 ((k:Int)<(a.length:Int)) (fun p2=>.ord [0,1,2,3,4,5,6,7,8]<|.r 2<|.idxM a txA k (m:=(k:Int)) rfl (by omega) fun x1 hx1=>
 .r 3<|.idxM b txA k (m:=(k:Int)) rfl (by omega) fun x2 hx2=>
 .r 2<|.nbe 25 x1 x2 (fun p3=>.r 1<|.f R [] (aB false) (by
  refine sF (fun h=>?_);rw [h,hx2] at hx1;obtain rfl:=W0c hx1;simp_all [Qaf,Qaa]))
 <| fun p3=>.run 3 [rng .i64 ((k:Int)+1)] ⟨Qal,trivial⟩<|
 .bk L1 k (k+1) ⟨by omega,by rw [Qaq hx1,Qaq hx2,hH1.2];first | (congr 2;done) | (congr 2;exact (by simp_all))⟩ (show a.length-(k+1)<a.length-k from (by omega)) [(5,aI ((k:Int)+1))] [] ⟨sR,sR,sO,trivial⟩ trivial)
 <| fun p2=>.r 1<|.f R [] (aB true) (by
  refine sT ?_;have h:=hH1.2;rw [Qap (by omega),Qap (by omega)] at h;exact h)) a1 ha1)
theorem Qkn (a b:Rep) (h1:a.names.length≤1000000) (h2:b.names.length≤1000000):Qag prog 50 [.agg (repA a),.agg (repA b)] (aB (dP (a=b))):=by
 exact Qac func50 (let R:AV:=aB (dP (a=b));
 .new fun b1=>.new fun b2=>.r 1<|.u 4 [b1,b2]<|
 .call (Qyy a.names b.names h1 h2)<|
 .r 1<|.r 2<|.bb 12 (dP (a.names=b.names)) (fun p1=>.u 7 [b1,b2]<|
 .be 19 a.e b.e (fun p2=>.u 7 [b1,b2]<|
 .be 26 a.a b.a (fun p3=>.u 7 [b1,b2]<|
 .be 33 a.b b.b (fun p4=>.u 7 [b1,b2]<|
 .be 40 a.n b.n (fun p5=>.u 7 [b1,b2]<|
 .f R [] (aB (a.text==b.text)) (by
  refine sE ?_;constructor
  ·intro h;simp only [W0r,beq_iff_eq,Qaf] at *;refine rep_eq ?_ ?_ ?_ ?_ ?_ ?_<;>simp_all
  ·intro h;subst h;simp_all [Qaf]))
 <| fun p5=>.r 7<|.f R [] (aB false) (by
  refine sF (fun h=>?_);subst h;simp_all [Qaa]))
 <| fun p4=>.r 14<|.f R [] (aB false) (by
  refine sF (fun h=>?_);subst h;simp_all [Qaa]))
 <| fun p3=>.r 21<|.f R [] (aB false) (by
  refine sF (fun h=>?_);subst h;simp_all [Qaa]))
 <| fun p2=>.r 28<|.f R [] (aB false) (by
  refine sF (fun h=>?_);subst h;simp_all [Qaa]))
 <| fun p1=>.r 35<|.f R [] (aB false) (by
  refine sF (fun h=>?_);subst h;simp_all [Qaa]))
def pN (l:List Int) (n:Int):Nat:=(l.takeWhile fun x=>decide (x<n)).length
theorem pN_le (l:List Int) (n:Int):pN l n≤l.length:=(List.takeWhile_sublist _).length_le
theorem Zb6 {n:Int}:∀ {l:List Int} {k:Nat} {x:Int},k≤pN l n→l[k]?=some x→(x<n↔k<pN l n)
 | [],k,x,_,hx=>(by simp at hx)
 | a :: r,k,x,hk,hx=>by
  by_cases ha:a<n
  ·have e:pN (a :: r) n=pN r n+1:=by unfold pN;rw [List.takeWhile_cons,W1x (by simpa using ha)];rfl
   rw [e] at hk ⊢;cases k with
   | zero=>
    simp at hx;subst hx;exact ⟨fun _=>by omega,fun _=>ha⟩
   | succ k=>
    have:=Zb6 (n:=n) (l:=r) (k:=k) (x:=x) (by omega) (by simpa using hx);rw [this];omega
  ·have e:pN (a :: r) n=0:=by unfold pN;rw [List.takeWhile_cons,W1w (by simpa using ha)];rfl
   rw [e] at hk ⊢;obtain rfl:k=0:=by omega
   simp at hx;subst hx;exact ⟨fun h=>absurd h ha,fun h=>by omega⟩
def wiK (l:List Int) (n:Int) (k j:Nat):List Int:=l.take k++n :: ((l.drop k).take (j-k)).filter fun x=>x != n
theorem wiK_le (l:List Int) (n:Int) (k j:Nat) (hk:k≤l.length):(wiK l n k j).length≤l.length+1:=by
 unfold wiK;have:=W2g (fun x=>x != n) ((l.drop k).take (j-k));simp only [W0e,W0b,W0g,W0p] at this ⊢;omega
def Qpg (l:List Int) (n:Int):List Int:=wiK l n (pN l n) l.length
theorem Zgd (l:List Int) (n:Int):(Qpg l n).length≤l.length+1:=wiK_le l n _ _ (pN_le l n)
end Go.Proofs.YtkhodpknpligpaaGreat
