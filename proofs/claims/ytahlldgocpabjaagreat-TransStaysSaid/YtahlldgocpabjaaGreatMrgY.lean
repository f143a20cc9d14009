import Derived.Test.YtahlldgocpabjaaGreatMrgX
import Derived.Test.YtahlldgocpabjaaGreatMrgR
set_option maxRecDepth 100000
set_option maxHeartbeats 8000000
set_option linter.unusedVariables false
set_option linter.unusedSimpArgs false
namespace Go.Proofs.YtahlldgocpabjaaGreat
open Go Go.RowKit Copyhold
theorem Qkx (f:Fsy) (i:Int) (okf:OkF f) (hf:midF f):Qaj Tryz.prog 85 [.agg (fsyA f),aI i] (.sl 1 false ((Qbx f i).map intA)):=by
 have hfl:=okf.2.1
 have hfb:=fun i=>(Qf0 okf i).2.2.2.2.1
 exact Qac (F:=Tryz.f85) 400 (
 .new fun b1=>.r 1<|.r 1<|.rowNil 5 5 3 1<|.run 2 [b1=b1] rt1<|
 .call (Qbd f i (by omega))<|
 .r 3<|.new fun b2=>.run 2 [b2=b2] rt1<|
 .r 1<|let L1:Lp (Nat × Value):=⟨fun a1=>⟨[(2,.ptr 2 b1 0),(6,.ptr 6 b2 0),(8,aI (a1.1:Int)),(5,.rw 5 a1.2 ((addE [] ((Qaa f i).l.take a1.1)).length))],[(2,.box b1 28 (fsyA f)),(5,.row a1.2 3 1 ((addE [] ((Qaa f i).l.take a1.1)).map intA)),(6,.box b2 84 [aI ((Qaa f i).ino),aI ((Qaa f i).kind),aI ((Qaa f i).links),aS ((Qaa f i).text),.sl 2 false ((Qaa f i).l.map entA)])]⟩,fun a1=>(Qaa f i).l.length-a1.1,fun a1=>a1.1≤(Qaa f i).l.length⟩
 .loop L1 (0,(.slice none 0 0)) (show 0≤(Qaa f i).l.length from Nat.zero_le _) ⟨[(2,.ptr 2 b1 0),(6,.ptr 6 b2 0),(8,aI 0),(5,.rw 5 (.slice none 0 0) 0)],[(2,.box b1 28 (fsyA f)),(5,.row (.slice none 0 0) 3 1 ([])),(6,.box b2 84 [aI ((Qaa f i).ino),aI ((Qaa f i).kind),aI ((Qaa f i).links),aS ((Qaa f i).text),.sl 2 false ((Qaa f i).l.map entA)])]⟩ ⟨sR,sR,Sub.of_eq (congrArg aI (by first | omega | rfl)),Sub.of_eq (congrArg (AV.rw 5 (.slice none 0 0)) (by simp [addE])),trivial⟩ ⟨⟨_,rfl,SubB.refl _⟩,⟨_,rfl,SubB.of_eq (by simp [addE])⟩,⟨_,rfl,SubB.refl _⟩,trivial⟩ fun a1 ha1=>
 (fun (j:Nat) (V:Value) (hH1:j≤(Qaa f i).l.length)=>have hd1:=(Qde (Dst.nil f) i j).leM hf;have hb1:=hfb i;.run 4 [b2=b2] rt1<|
 .val 24 (show (aI (((Qaa f i).l.map entA).length:Int):AV)=aI (((Qaa f i).l).length:Int) from by rw [List.length_map])<|.r 1<|.br 25 (decide ((j:Int)<(((Qaa f i).l).length:Int))) (fun q1=>have p1:=decT q1;.run 4 [b2=b2] rt1<|
 .idxM ((Qaa f i).l) entA j (m:=(j:Int)) rfl (by omega) fun x1 hx1=>
 .r 2<|.op (cbR Tryz.prog 5) ((87,[.rw 5 V ((addE [] ((Qaa f i).l.take j)).length),aI x1.ino],some 35),(V,3,1,(addE [] ((Qaa f i).l.take j)).map intA)) (fun (_:Unit) σ=>σ.put (some 35) (aB (hasB (addE [] ((Qaa f i).l.take j)) x1.ino))) (Qoc (args':=[.sl 1 false ((addE [] ((Qaa f i).l.take j)).map intA),aI x1.ino]) ⟨Fz.row _ _ _ _ _ _ (by first | rfl | (simp;done) | (simp;omega)),Fz.refl _ _,trivial⟩ (Qis (addE [] ((Qaa f i).l.take j)) x1.ino (by omega)) rfl) fun _=>
 .r 1<|.r 2<|.br 37 (!(hasB (addE [] ((Qaa f i).l.take j)) x1.ino)) (fun q2=>have q2:=notT q2;have p2:=booF q2;.run 4 [b2=b2] rt1<|
 .idx j (m:=(j:Int)) (xs:=(Qaa f i).l.map entA) (e:=entA x1) rfl (map_some hx1)<|
 .r 3<|.app 8 V ((addE [] ((Qaa f i).l.take j)).map intA) ([[aI x1.ino]]) (by simp only [List.length_map,List.length_cons,List.length_nil];omega) (by simp only [List.length_map,List.length_cons,List.length_nil];omega) fun V1=>
 .r 1<|.run 3 [rng .i64 ((j:Int)+1)] ⟨Qas (by omega) (by omega),trivial⟩<|
 .back L1 (j,V) ((j+1),V1) (show (j+1)≤(Qaa f i).l.length from (by show _≤_;omega)) (show (Qaa f i).l.length-(j+1)<(Qaa f i).l.length-j from (by omega)) ⟨[(2,.ptr 2 b1 0),(6,.ptr 6 b2 0),(8,aI ((j:Int)+1)),(5,.rw 5 V1 (((addE [] ((Qaa f i).l.take j)).map intA).length+([[aI x1.ino]]:List (List AV)).length))],[(2,.box b1 28 (fsyA f)),(5,.row V1 3 1 (((addE [] ((Qaa f i).l.take j)).map intA)++([[aI x1.ino]]))),(6,.box b2 84 [aI ((Qaa f i).ino),aI ((Qaa f i).kind),aI ((Qaa f i).links),aS ((Qaa f i).text),.sl 2 false ((Qaa f i).l.map entA)])]⟩ ⟨sR,sR,Sub.of_eq (congrArg aI (by first | omega | rfl)),Sub.of_eq (congrArg (AV.rw 5 V1) (by rw [Qjr hx1 q2];simp)),trivial⟩ ⟨⟨_,rfl,SubB.refl _⟩,⟨_,rfl,SubB.of_eq (by rw [Qjr hx1 q2];simp [intA])⟩,⟨_,rfl,SubB.refl _⟩,trivial⟩)
 <| fun q2=>have q2:=notF q2;have p2:=booT q2;.run 3 [rng .i64 ((j:Int)+1)] ⟨Qas (by omega) (by omega),trivial⟩<|
 .back L1 (j,V) ((j+1),V) (show (j+1)≤(Qaa f i).l.length from (by show _≤_;omega)) (show (Qaa f i).l.length-(j+1)<(Qaa f i).l.length-j from (by omega)) ⟨[(2,.ptr 2 b1 0),(6,.ptr 6 b2 0),(8,aI ((j:Int)+1)),(5,.rw 5 V ((addE [] ((Qaa f i).l.take j)).length))],[(2,.box b1 28 (fsyA f)),(5,.row V 3 1 ((addE [] ((Qaa f i).l.take j)).map intA)),(6,.box b2 84 [aI ((Qaa f i).ino),aI ((Qaa f i).kind),aI ((Qaa f i).links),aS ((Qaa f i).text),.sl 2 false ((Qaa f i).l.map entA)])]⟩ ⟨sR,sR,Sub.of_eq (congrArg aI (by first | omega | rfl)),Sub.of_eq (congrArg (AV.rw 5 V) (by rw [Qhf hx1 q2])),trivial⟩ ⟨⟨_,rfl,SubB.refl _⟩,⟨_,rfl,SubB.of_eq (by rw [Qhf hx1 q2])⟩,⟨_,rfl,SubB.refl _⟩,trivial⟩)
 <| fun q1=>have p1:=decF q1;.r 1<|let L2:Lp (Nat × List Int × Value):=⟨fun a2=>⟨[(2,.ptr 2 b1 0),(10,aI (a2.1:Int)),(5,.rw 5 a2.2.2 a2.2.1.length)],[(2,.box b1 28 (fsyA f)),(5,.row a2.2.2 3 1 (a2.2.1.map intA))]⟩,fun a2=>300-a2.1,fun a2=>UH f i a2.2.1 a2.1⟩
 .loop L2 (0,(addE [] ((Qaa f i).l.take j)),V) (show UH f i (addE [] ((Qaa f i).l.take j)) 0 from (UH.zero f i (by omega))) ⟨[(2,.ptr 2 b1 0),(10,aI 0),(5,.rw 5 V ((addE [] ((Qaa f i).l.take j)).length))],[(2,.box b1 28 (fsyA f)),(5,.row V 3 1 ((addE [] ((Qaa f i).l.take j)).map intA))]⟩ ⟨sR,Sub.of_eq (congrArg aI (by first | omega | rfl)),sR,trivial⟩ ⟨⟨_,rfl,SubB.refl _⟩,⟨_,rfl,SubB.refl _⟩,trivial⟩ fun a2 ha2=>
 (fun (p:Nat) (U:List Int) (V:Value) (hH2:UH f i U p)=>have hu2:=hH2.1.leM hf;have hp2:=hH2.2.1;.r 4<|.br 50 (decide ((p:Int)<(U.length:Int))) (fun q3=>have p3:=decT q3;.st (rowR 5) (V,3,1,U.map intA) (fun _ σ=>σ) (Qbz 5 (by first | omega | (rw [List.length_map];omega) | (simp<;>omega))) fun a3r=>
 .pick [0,1,2,3,4]<|.run 3 [b1=b1] rt1<|
 .op (ixR Tryz.prog) (5,V,U.length,1,(p:Int),some 57) (fun (_:Unit) σ=>σ.put (some 57) (.ep 5 V 1 p 0)) (Qer p a3r.2.1 (by omega) (by first | omega | (rw [List.length_map];omega) | (simp<;>omega))) fun _=>
 .ex (Qfs (l:=U) (k:=p) (by first | omega | (rw [List.length_map];omega) | (simp<;>omega))) fun x2 hx2=>
 .op (ldR Tryz.prog) (V,1,p,0,V,1,U.map intA,3,some 58) (fun (_:Unit) σ=>σ.put (some 58) (aI x2)) (Qob (intA x2) (map_some hx2) (by kernel_rfl)) fun _=>
 .fork<|.alt (.call (Qbd f x2 (by omega))<|
 .pick [6,7,8,9,10,11]<|.r 3<|.new fun b4=>.run 2 [b4=b4] rt1<|
 .r 1<|let L3:Lp (Nat × Value):=⟨fun a3=>⟨[(2,.ptr 2 b1 0),(10,aI (p:Int)),(11,.ptr 11 b4 0),(13,aI (a3.1:Int)),(5,.rw 5 a3.2 ((addE U ((Qaa f x2).l.take a3.1)).length))],[(2,.box b1 28 (fsyA f)),(5,.row a3.2 3 1 ((addE U ((Qaa f x2).l.take a3.1)).map intA)),(11,.box b4 84 [aI ((Qaa f x2).ino),aI ((Qaa f x2).kind),aI ((Qaa f x2).links),aS ((Qaa f x2).text),.sl 2 false ((Qaa f x2).l.map entA)])]⟩,fun a3=>(Qaa f x2).l.length-a3.1,fun a3=>a3.1≤(Qaa f x2).l.length⟩
 .loop L3 (0,V) (show 0≤(Qaa f x2).l.length from Nat.zero_le _) ⟨[(2,.ptr 2 b1 0),(10,aI (p:Int)),(11,.ptr 11 b4 0),(13,aI 0),(5,.rw 5 V U.length)],[(2,.box b1 28 (fsyA f)),(5,.row V 3 1 (U.map intA)),(11,.box b4 84 [aI ((Qaa f x2).ino),aI ((Qaa f x2).kind),aI ((Qaa f x2).links),aS ((Qaa f x2).text),.sl 2 false ((Qaa f x2).l.map entA)])]⟩ ⟨sR,sR,sR,Sub.of_eq (congrArg aI (by first | omega | rfl)),Sub.of_eq (congrArg (AV.rw 5 V) (by simp [addE])),trivial⟩ ⟨⟨_,rfl,SubB.refl _⟩,⟨_,rfl,SubB.of_eq (by simp [addE])⟩,⟨_,rfl,SubB.refl _⟩,trivial⟩ fun a3 ha3=>
 (fun (j:Nat) (Y:Value) (hH3:j≤(Qaa f x2).l.length)=>have hd3:=(Qde hH2.1 x2 j).leM hf;have hb3:=hfb x2;.run 4 [b4=b4] rt1<|
 .val 65 (show (aI (((Qaa f x2).l.map entA).length:Int):AV)=aI (((Qaa f x2).l).length:Int) from by rw [List.length_map])<|.r 1<|.br 66 (decide ((j:Int)<(((Qaa f x2).l).length:Int))) (fun q4=>have p4:=decT q4;.run 4 [b4=b4] rt1<|
 .idxM ((Qaa f x2).l) entA j (m:=(j:Int)) rfl (by omega) fun x3 hx3=>
 .r 2<|.op (cbR Tryz.prog 5) ((87,[.rw 5 Y ((addE U ((Qaa f x2).l.take j)).length),aI x3.ino],some 76),(Y,3,1,(addE U ((Qaa f x2).l.take j)).map intA)) (fun (_:Unit) σ=>σ.put (some 76) (aB (hasB (addE U ((Qaa f x2).l.take j)) x3.ino))) (Qoc (args':=[.sl 1 false ((addE U ((Qaa f x2).l.take j)).map intA),aI x3.ino]) ⟨Fz.row _ _ _ _ _ _ (by first | rfl | (simp;done) | (simp;omega)),Fz.refl _ _,trivial⟩ (Qis (addE U ((Qaa f x2).l.take j)) x3.ino (by omega)) rfl) fun _=>
 .r 1<|.r 2<|.br 78 (!(hasB (addE U ((Qaa f x2).l.take j)) x3.ino)) (fun q5=>have q5:=notT q5;have p5:=booF q5;.run 4 [b4=b4] rt1<|
 .idx j (m:=(j:Int)) (xs:=(Qaa f x2).l.map entA) (e:=entA x3) rfl (map_some hx3)<|
 .r 3<|.app 8 Y ((addE U ((Qaa f x2).l.take j)).map intA) ([[aI x3.ino]]) (by simp only [List.length_map,List.length_cons,List.length_nil];omega) (by simp only [List.length_map,List.length_cons,List.length_nil];omega) fun V2=>
 .r 1<|.run 3 [rng .i64 ((j:Int)+1)] ⟨Qas (by omega) (by omega),trivial⟩<|
 .back L3 (j,Y) ((j+1),V2) (show (j+1)≤(Qaa f x2).l.length from (by show _≤_;omega)) (show (Qaa f x2).l.length-(j+1)<(Qaa f x2).l.length-j from (by omega)) ⟨[(2,.ptr 2 b1 0),(10,aI (p:Int)),(11,.ptr 11 b4 0),(13,aI ((j:Int)+1)),(5,.rw 5 V2 (((addE U ((Qaa f x2).l.take j)).map intA).length+([[aI x3.ino]]:List (List AV)).length))],[(2,.box b1 28 (fsyA f)),(5,.row V2 3 1 (((addE U ((Qaa f x2).l.take j)).map intA)++([[aI x3.ino]]))),(11,.box b4 84 [aI ((Qaa f x2).ino),aI ((Qaa f x2).kind),aI ((Qaa f x2).links),aS ((Qaa f x2).text),.sl 2 false ((Qaa f x2).l.map entA)])]⟩ ⟨sR,sR,sR,Sub.of_eq (congrArg aI (by first | omega | rfl)),Sub.of_eq (congrArg (AV.rw 5 V2) (by rw [Qjr hx3 q5];simp)),trivial⟩ ⟨⟨_,rfl,SubB.refl _⟩,⟨_,rfl,SubB.of_eq (by rw [Qjr hx3 q5];simp [intA])⟩,⟨_,rfl,SubB.refl _⟩,trivial⟩)
 <| fun q5=>have q5:=notF q5;have p5:=booT q5;.run 3 [rng .i64 ((j:Int)+1)] ⟨Qas (by omega) (by omega),trivial⟩<|
 .back L3 (j,Y) ((j+1),Y) (show (j+1)≤(Qaa f x2).l.length from (by show _≤_;omega)) (show (Qaa f x2).l.length-(j+1)<(Qaa f x2).l.length-j from (by omega)) ⟨[(2,.ptr 2 b1 0),(10,aI (p:Int)),(11,.ptr 11 b4 0),(13,aI ((j:Int)+1)),(5,.rw 5 Y ((addE U ((Qaa f x2).l.take j)).length))],[(2,.box b1 28 (fsyA f)),(5,.row Y 3 1 ((addE U ((Qaa f x2).l.take j)).map intA)),(11,.box b4 84 [aI ((Qaa f x2).ino),aI ((Qaa f x2).kind),aI ((Qaa f x2).links),aS ((Qaa f x2).text),.sl 2 false ((Qaa f x2).l.map entA)])]⟩ ⟨sR,sR,sR,Sub.of_eq (congrArg aI (by first | omega | rfl)),Sub.of_eq (congrArg (AV.rw 5 Y) (by rw [Qhf hx3 q5])),trivial⟩ ⟨⟨_,rfl,SubB.refl _⟩,⟨_,rfl,SubB.of_eq (by rw [Qhf hx3 q5])⟩,⟨_,rfl,SubB.refl _⟩,trivial⟩)
 <| fun q4=>have p4:=decF q4;.run 3 [rng .i64 ((p:Int)+1)] ⟨Qas (by omega) (by omega),trivial⟩<|
 .back L2 (p,U,V) ((p+1),(addE U ((Qaa f x2).l.take j)),Y) (show UH f i (addE U ((Qaa f x2).l.take j)) (p+1) from (UH.stepM hf hH2 hx2 (by omega))) (show 300-(p+1)<300-p from (by omega)) ⟨[(2,.ptr 2 b1 0),(10,aI ((p:Int)+1)),(5,.rw 5 Y ((addE U ((Qaa f x2).l.take j)).length))],[(2,.box b1 28 (fsyA f)),(5,.row Y 3 1 ((addE U ((Qaa f x2).l.take j)).map intA))]⟩ ⟨sR,Sub.of_eq (congrArg aI (by first | omega | rfl)),sR,trivial⟩ ⟨⟨_,rfl,SubB.refl _⟩,⟨_,rfl,SubB.refl _⟩,trivial⟩) a3.1 a3.2 ha3)
 <| .new fun b5=>.pick [5,6,7,8,10,11]<|.call (Qbd f x2 (by omega))<|
 .run 5 [b5=b5] rt1<|
 .r 1<|let L3:Lp (Nat × Value):=⟨fun a3=>⟨[(2,.ptr 2 b1 0),(10,aI (p:Int)),(11,.ptr 11 b5 0),(13,aI (a3.1:Int)),(5,.rw 5 a3.2 ((addE U ((Qaa f x2).l.take a3.1)).length))],[(2,.box b1 28 (fsyA f)),(5,.row a3.2 3 1 ((addE U ((Qaa f x2).l.take a3.1)).map intA)),(11,.box b5 84 [aI ((Qaa f x2).ino),aI ((Qaa f x2).kind),aI ((Qaa f x2).links),aS ((Qaa f x2).text),.sl 2 false ((Qaa f x2).l.map entA)])]⟩,fun a3=>(Qaa f x2).l.length-a3.1,fun a3=>a3.1≤(Qaa f x2).l.length⟩
 .loop L3 (0,V) (show 0≤(Qaa f x2).l.length from Nat.zero_le _) ⟨[(2,.ptr 2 b1 0),(10,aI (p:Int)),(11,.ptr 11 b5 0),(13,aI 0),(5,.rw 5 V U.length)],[(2,.box b1 28 (fsyA f)),(5,.row V 3 1 (U.map intA)),(11,.box b5 84 [aI ((Qaa f x2).ino),aI ((Qaa f x2).kind),aI ((Qaa f x2).links),aS ((Qaa f x2).text),.sl 2 false ((Qaa f x2).l.map entA)])]⟩ ⟨sR,sR,sR,Sub.of_eq (congrArg aI (by first | omega | rfl)),Sub.of_eq (congrArg (AV.rw 5 V) (by simp [addE])),trivial⟩ ⟨⟨_,rfl,SubB.refl _⟩,⟨_,rfl,SubB.of_eq (by simp [addE])⟩,⟨_,rfl,SubB.refl _⟩,trivial⟩ fun a3 ha3=>
 (fun (j:Nat) (Y:Value) (hH3:j≤(Qaa f x2).l.length)=>have hd3:=(Qde hH2.1 x2 j).leM hf;have hb3:=hfb x2;.run 4 [b5=b5] rt1<|
 .val 65 (show (aI (((Qaa f x2).l.map entA).length:Int):AV)=aI (((Qaa f x2).l).length:Int) from by rw [List.length_map])<|.r 1<|.br 66 (decide ((j:Int)<(((Qaa f x2).l).length:Int))) (fun q6=>have p6:=decT q6;.run 4 [b5=b5] rt1<|
 .idxM ((Qaa f x2).l) entA j (m:=(j:Int)) rfl (by omega) fun x4 hx4=>
 .r 2<|.op (cbR Tryz.prog 5) ((87,[.rw 5 Y ((addE U ((Qaa f x2).l.take j)).length),aI x4.ino],some 76),(Y,3,1,(addE U ((Qaa f x2).l.take j)).map intA)) (fun (_:Unit) σ=>σ.put (some 76) (aB (hasB (addE U ((Qaa f x2).l.take j)) x4.ino))) (Qoc (args':=[.sl 1 false ((addE U ((Qaa f x2).l.take j)).map intA),aI x4.ino]) ⟨Fz.row _ _ _ _ _ _ (by first | rfl | (simp;done) | (simp;omega)),Fz.refl _ _,trivial⟩ (Qis (addE U ((Qaa f x2).l.take j)) x4.ino (by omega)) rfl) fun _=>
 .r 1<|.r 2<|.br 78 (!(hasB (addE U ((Qaa f x2).l.take j)) x4.ino)) (fun q7=>have q7:=notT q7;have p7:=booF q7;.run 4 [b5=b5] rt1<|
 .idx j (m:=(j:Int)) (xs:=(Qaa f x2).l.map entA) (e:=entA x4) rfl (map_some hx4)<|
 .r 3<|.app 8 Y ((addE U ((Qaa f x2).l.take j)).map intA) ([[aI x4.ino]]) (by simp only [List.length_map,List.length_cons,List.length_nil];omega) (by simp only [List.length_map,List.length_cons,List.length_nil];omega) fun V3=>
 .r 1<|.run 3 [rng .i64 ((j:Int)+1)] ⟨Qas (by omega) (by omega),trivial⟩<|
 .back L3 (j,Y) ((j+1),V3) (show (j+1)≤(Qaa f x2).l.length from (by show _≤_;omega)) (show (Qaa f x2).l.length-(j+1)<(Qaa f x2).l.length-j from (by omega)) ⟨[(2,.ptr 2 b1 0),(10,aI (p:Int)),(11,.ptr 11 b5 0),(13,aI ((j:Int)+1)),(5,.rw 5 V3 (((addE U ((Qaa f x2).l.take j)).map intA).length+([[aI x4.ino]]:List (List AV)).length))],[(2,.box b1 28 (fsyA f)),(5,.row V3 3 1 (((addE U ((Qaa f x2).l.take j)).map intA)++([[aI x4.ino]]))),(11,.box b5 84 [aI ((Qaa f x2).ino),aI ((Qaa f x2).kind),aI ((Qaa f x2).links),aS ((Qaa f x2).text),.sl 2 false ((Qaa f x2).l.map entA)])]⟩ ⟨sR,sR,sR,Sub.of_eq (congrArg aI (by first | omega | rfl)),Sub.of_eq (congrArg (AV.rw 5 V3) (by rw [Qjr hx4 q7];simp)),trivial⟩ ⟨⟨_,rfl,SubB.refl _⟩,⟨_,rfl,SubB.of_eq (by rw [Qjr hx4 q7];simp [intA])⟩,⟨_,rfl,SubB.refl _⟩,trivial⟩)
 <| fun q7=>have q7:=notF q7;have p7:=booT q7;.run 3 [rng .i64 ((j:Int)+1)] ⟨Qas (by omega) (by omega),trivial⟩<|
 .back L3 (j,Y) ((j+1),Y) (show (j+1)≤(Qaa f x2).l.length from (by show _≤_;omega)) (show (Qaa f x2).l.length-(j+1)<(Qaa f x2).l.length-j from (by omega)) ⟨[(2,.ptr 2 b1 0),(10,aI (p:Int)),(11,.ptr 11 b5 0),(13,aI ((j:Int)+1)),(5,.rw 5 Y ((addE U ((Qaa f x2).l.take j)).length))],[(2,.box b1 28 (fsyA f)),(5,.row Y 3 1 ((addE U ((Qaa f x2).l.take j)).map intA)),(11,.box b5 84 [aI ((Qaa f x2).ino),aI ((Qaa f x2).kind),aI ((Qaa f x2).links),aS ((Qaa f x2).text),.sl 2 false ((Qaa f x2).l.map entA)])]⟩ ⟨sR,sR,sR,Sub.of_eq (congrArg aI (by first | omega | rfl)),Sub.of_eq (congrArg (AV.rw 5 Y) (by rw [Qhf hx4 q7])),trivial⟩ ⟨⟨_,rfl,SubB.refl _⟩,⟨_,rfl,SubB.of_eq (by rw [Qhf hx4 q7])⟩,⟨_,rfl,SubB.refl _⟩,trivial⟩)
 <| fun q6=>have p6:=decF q6;.run 3 [rng .i64 ((p:Int)+1)] ⟨Qas (by omega) (by omega),trivial⟩<|
 .back L2 (p,U,V) ((p+1),(addE U ((Qaa f x2).l.take j)),Y) (show UH f i (addE U ((Qaa f x2).l.take j)) (p+1) from (UH.stepM hf hH2 hx2 (by omega))) (show 300-(p+1)<300-p from (by omega)) ⟨[(2,.ptr 2 b1 0),(10,aI ((p:Int)+1)),(5,.rw 5 Y ((addE U ((Qaa f x2).l.take j)).length))],[(2,.box b1 28 (fsyA f)),(5,.row Y 3 1 ((addE U ((Qaa f x2).l.take j)).map intA))]⟩ ⟨sR,Sub.of_eq (congrArg aI (by first | omega | rfl)),sR,trivial⟩ ⟨⟨_,rfl,SubB.refl _⟩,⟨_,rfl,SubB.refl _⟩,trivial⟩) a3.1 a3.2 ha3)
 <| fun q3=>have p3:=decF q3;.r 2<|.frz 5 [4] [] [V=V,U.length=(U.map intA).length] ⟨rfl,(by first | rfl | (simp;done) | (simp;omega)),trivial⟩<|
 .fin (x:=.sl 1 false (U.map intA)) (r:=.sl 1 false ((Qbx f i).map intA)) [] trivial (by exact (Sub.of_eq (by rw [UH.done hH2 (by omega)])).trans (Sub.loose _ _ _))) a2.1 a2.2.1 a2.2.2 ha2) a1.1 a1.2 ha1) Tryz.func85 rfl (by kernel_rfl) (by kernel_rfl)
theorem Qlb (f:Fsy) (okf:OkF f) (hf:midF f):Qaj Tryz.prog 46 [.agg (fsyA f)] (aB (dP (Qct f))):=by
 have hfl:=okf.2.1
 have hul:=Qpv hf 1
 exact Qac (F:=Tryz.f46) 400 (
 .new fun b1=>.r 1<|.run 1 [b1=b1] rt1<|
 .call (Qv9 f okf)<|
 .r 1<|.r 3<|.br 15 (!(dP (Qal f))) (fun q1=>have q1:=notT q1;have p1:=booF q1;.r 29<|.r 1<|.fin (x:=aB false) (r:=aB (dP (Qct f))) [] trivial (by
  refine sF (fun h=>?_)
  obtain ⟨g,⟨n,hn,a,b,c⟩,_⟩:=h
  first | exact Qag.1 (by assumption) g | (have:=Qan hn;omega)))
 <| fun q1=>have q1:=notF q1;have p1:=booT q1;.run 3 [b1=b1] rt1<|
 .val 18 (show (aI ((f.l.map nodA).length:Int):AV)=aI (f.l.length:Int) from by rw [List.length_map])<|.r 3<|.br 21 (decide ((f.l.length:Int)<1)) (fun q2=>have p2:=decT q2;.r 23<|.r 1<|.fin (x:=aB false) (r:=aB (dP (Qct f))) [] trivial (by
  refine sF (fun h=>?_)
  obtain ⟨g,⟨n,hn,a,b,c⟩,_⟩:=h
  first | exact Qag.1 (by assumption) g | (have:=Qan hn;omega)))
 <| fun q2=>have p2:=decF q2;.run 2 [b1=b1] rt1<|
 .idxM f.l nodA 0 (m:=0) rfl (by omega) fun x1 hx1=>
 have okx1:=okf.2.2 x1 (List.mem_of_getElem? hx1);have blx1:=okx1.2.2.2.2.1;.r 5<|.br 29 (x1.ino != 1) (fun q3=>have p3:=bneT q3;.r 15<|.r 1<|.fin (x:=aB false) (r:=aB (dP (Qct f))) [] trivial (by
  refine sF (fun h=>?_)
  obtain ⟨g,⟨n,hn,a,b,c⟩,_⟩:=h
  first | exact Qag.1 (by assumption) g | (have:=Qan hn;omega)| (rw [hx1] at hn;obtain rfl:=Option.some.inj hn;omega)))
 <| fun q3=>have p3:=bneF q3;.run 2 [b1=b1] rt1<|
 .idx 0 (m:=0) (xs:=f.l.map nodA) (e:=nodA x1) rfl (map_some hx1)<|
 .r 5<|.br 37 (x1.kind != 2) (fun q4=>have p4:=bneT q4;.r 7<|.r 1<|.fin (x:=aB false) (r:=aB (dP (Qct f))) [] trivial (by
  refine sF (fun h=>?_)
  obtain ⟨g,⟨n,hn,a,b,c⟩,_⟩:=h
  first | exact Qag.1 (by assumption) g | (have:=Qan hn;omega)| (rw [hx1] at hn;obtain rfl:=Option.some.inj hn;omega)))
 <| fun q4=>have p4:=bneF q4;.run 2 [b1=b1] rt1<|
 .idx 0 (m:=0) (xs:=f.l.map nodA) (e:=nodA x1) rfl (map_some hx1)<|
 .r 4<|.br 44 (x1.links != 0) (fun q5=>have p5:=bneT q5;.r 1<|.fin (x:=aB false) (r:=aB (dP (Qct f))) [] trivial (by
  refine sF (fun h=>?_)
  obtain ⟨g,⟨n,hn,a,b,c⟩,_⟩:=h
  first | exact Qag.1 (by assumption) g | (have:=Qan hn;omega)| (rw [hx1] at hn;obtain rfl:=Option.some.inj hn;omega)))
 <| fun q5=>have p5:=bneF q5;.run 1 [b1=b1] rt1<|
 .call (Qkx f 1 okf hf)<|
 .r 1<|.r 1<|let L1:Lp (Nat):=⟨fun a1=>⟨[(1,.ptr 1 b1 0),(4,.sl 1 false ((Qbx f 1).map intA)),(5,aI (a1:Int))],[(1,.box b1 28 (fsyA f))]⟩,fun a1=>f.l.length-a1,fun a1=>Qa1 (Qsu f) f.l a1⟩
 .loop L1 0 (show Qa1 (Qsu f) f.l 0 from (Qa1.zero _ _)) ⟨[(1,.ptr 1 b1 0),(4,.sl 1 false ((Qbx f 1).map intA)),(5,aI 0)],[(1,.box b1 28 (fsyA f))]⟩ ⟨sR,sR,Sub.of_eq (congrArg aI (by first | omega | rfl)),trivial⟩ ⟨⟨_,rfl,SubB.refl _⟩,trivial⟩ fun a1 ha1=>
 (fun (k:Nat) (hH1:Qa1 (Qsu f) f.l k)=>.run 4 [b1=b1] rt1<|
 .val 50 (show (aI ((f.l.map nodA).length:Int):AV)=aI (f.l.length:Int) from by rw [List.length_map])<|.r 1<|.br 51 (decide ((k:Int)<(f.l.length:Int))) (fun q6=>have p6:=decT q6;.run 3 [b1=b1] rt1<|
 .idxM f.l nodA k (m:=(k:Int)) rfl (by omega) fun x2 hx2=>
 have okx2:=okf.2.2 x2 (List.mem_of_getElem? hx2);have blx2:=okx2.2.2.2.2.1;.r 1<|.new fun b2=>.run 1 [b2=b2] rt1<|
 .ord [0,1,2,3,4,5,6]<|.run 5 [b2=b2,b1=b1,b2=b2] rt3<|
 .call (Qsw f x2.ino okf hf)<|
 .r 1<|.br 65 (x2.links != (Qnm f x2.ino:Int)) (fun q7=>have p7:=bneT q7;.r 1<|.fin (x:=aB false) (r:=aB (dP (Qct f))) [] trivial (by
  refine sF (fun h=>?_)
  have g:=(h.2.2.at hx2).1
  omega))
 <| fun q7=>have p7:=bneF q7;.run 3 [b2=b2] rt1<|
 .call (Qis (Qbx f 1) x2.ino (by omega))<|
 .r 1<|.r 3<|.br 72 (decide ((k:Int)>0)) (fun q8=>have p8:=decT q8;.run 4 [b2=b2] rt1<|
 .br 76 (decide (x2.links<1)) (fun q9=>have p9:=decT q9;.r 14<|.r 1<|.fin (x:=aB false) (r:=aB (dP (Qct f))) [] trivial (by
  refine sF (fun h=>?_)
  have g:=(h.2.2.at hx2).2.1
  rw [show Qkc f k x2=false from by unfold Qkc;simp only [q8,q9,Bool.and_false,Bool.false_and,Bool.true_and,Bool.and_true,Bool.or_false,Bool.false_or,Bool.or_true,Bool.true_or,Bool.not_true,Bool.not_false]] at g
  cases g))
 <| fun q9=>have p9:=decF q9;.run 4 [b2=b2] rt1<|
 .br 80 (x2.kind==2) (fun q10=>have p10:=beqT q10;.run 4 [b2=b2] rt1<|
 .br 84 (decide (x2.links>1)) (fun q11=>have p11:=decT q11;.r 6<|.r 1<|.fin (x:=aB false) (r:=aB (dP (Qct f))) [] trivial (by
  refine sF (fun h=>?_)
  have g:=(h.2.2.at hx2).2.1
  rw [show Qkc f k x2=false from by unfold Qkc;simp only [q8,q9,q10,q11,Bool.and_false,Bool.false_and,Bool.true_and,Bool.and_true,Bool.or_false,Bool.false_or,Bool.or_true,Bool.true_or,Bool.not_true,Bool.not_false]] at g
  cases g))
 <| fun q11=>have p11:=decF q11;.r 6<|.br 90 (!(hasB (Qbx f 1) x2.ino)) (fun q12=>have q12:=notT q12;have p12:=booF q12;.r 1<|.fin (x:=aB false) (r:=aB (dP (Qct f))) [] trivial (by
  refine sF (fun h=>?_)
  have g:=(h.2.2.at hx2).2.1
  rw [show Qkc f k x2=false from by unfold Qkc;simp only [q8,q9,q10,q11,q12,Bool.and_false,Bool.false_and,Bool.true_and,Bool.and_true,Bool.or_false,Bool.false_or,Bool.or_true,Bool.true_or,Bool.not_true,Bool.not_false]] at g
  cases g))
 <| fun q12=>have q12:=notF q12;have p12:=booT q12;.r 1<|let L2:Lp (Nat):=⟨fun a2=>⟨[(1,.ptr 1 b1 0),(4,.sl 1 false ((Qbx f 1).map intA)),(5,aI (k:Int)),(6,.ptr 6 b2 0),(8,aI (a2:Int))],[(1,.box b1 28 (fsyA f)),(6,.box b2 84 (nodA x2))]⟩,fun a2=>x2.l.length-a2,fun a2=>Qa1 (fun _ e=>Qar f e.ino=true) x2.l a2⟩
 .loop L2 0 (show Qa1 (fun _ e=>Qar f e.ino=true) x2.l 0 from Qa1.zero _ _) ⟨[(1,.ptr 1 b1 0),(4,.sl 1 false ((Qbx f 1).map intA)),(5,aI (k:Int)),(6,.ptr 6 b2 0),(8,aI 0)],[(1,.box b1 28 (fsyA f)),(6,.box b2 84 (nodA x2))]⟩ ⟨sR,sR,sR,sR,Sub.of_eq (congrArg aI (by first | omega | rfl)),trivial⟩ ⟨⟨_,rfl,SubB.refl _⟩,⟨_,rfl,SubB.refl _⟩,trivial⟩ fun a2 ha2=>
 (fun (j:Nat) (hH2:Qa1 (fun _ e=>Qar f e.ino=true) x2.l j)=>.run 4 [b2=b2] rt1<|
 .val 94 (show (aI ((x2.l.map entA).length:Int):AV)=aI (x2.l.length:Int) from by rw [List.length_map])<|.r 1<|.br 95 (decide ((j:Int)<(x2.l.length:Int))) (fun q13=>have p13:=decT q13;.pick [0,1,2,3,4,5,6]<|.run 4 [b1=b1,b2=b2] rt2<|
 .idxM x2.l entA j (m:=(j:Int)) rfl (by omega) fun x3 hx3=>
 .r 2<|.fork<|.alt (.call (Qbd f x3.ino (by omega))<|
 .pick [8,9,10,11,12,13]<|.r 3<|.new fun b3=>.run 2 [b3=b3] rt1<|
 .r 2<|.br 110 (!(Qar f x3.ino)) (fun q14=>have q14:=notT q14;have p14:=booF q14;.r 1<|.fin (x:=aB false) (r:=aB (dP (Qct f))) [] trivial (by
  refine sF (fun h=>?_)
  have g:=(h.2.2.at hx2).2.2.at hx3
  simp_all))
 <| fun q14=>have q14:=notF q14;have p14:=booT q14;.run 3 [rng .i64 ((j:Int)+1)] ⟨Qas (by omega) (by omega),trivial⟩<|
 .back L2 j (j+1) (show Qa1 (fun _ e=>Qar f e.ino=true) x2.l (j+1) from (hH2.step hx3 (by assumption))) (show x2.l.length-(j+1)<x2.l.length-j from (by omega)) ⟨[(1,.ptr 1 b1 0),(4,.sl 1 false ((Qbx f 1).map intA)),(5,aI (k:Int)),(6,.ptr 6 b2 0),(8,aI ((j:Int)+1))],[(1,.box b1 28 (fsyA f)),(6,.box b2 84 (nodA x2))]⟩ ⟨sR,sR,sR,sR,Sub.of_eq (congrArg aI (by first | omega | rfl)),trivial⟩ ⟨⟨_,rfl,SubB.refl _⟩,⟨_,rfl,SubB.refl _⟩,trivial⟩)
 <| .new fun b4=>.pick [7,8,9,10,12,13]<|.call (Qbd f x3.ino (by omega))<|
 .run 5 [b4=b4] rt1<|
 .r 2<|.br 110 (!(Qar f x3.ino)) (fun q15=>have q15:=notT q15;have p15:=booF q15;.r 1<|.fin (x:=aB false) (r:=aB (dP (Qct f))) [] trivial (by
  refine sF (fun h=>?_)
  have g:=(h.2.2.at hx2).2.2.at hx3
  simp_all))
 <| fun q15=>have q15:=notF q15;have p15:=booT q15;.run 3 [rng .i64 ((j:Int)+1)] ⟨Qas (by omega) (by omega),trivial⟩<|
 .back L2 j (j+1) (show Qa1 (fun _ e=>Qar f e.ino=true) x2.l (j+1) from (hH2.step hx3 (by assumption))) (show x2.l.length-(j+1)<x2.l.length-j from (by omega)) ⟨[(1,.ptr 1 b1 0),(4,.sl 1 false ((Qbx f 1).map intA)),(5,aI (k:Int)),(6,.ptr 6 b2 0),(8,aI ((j:Int)+1))],[(1,.box b1 28 (fsyA f)),(6,.box b2 84 (nodA x2))]⟩ ⟨sR,sR,sR,sR,Sub.of_eq (congrArg aI (by first | omega | rfl)),trivial⟩ ⟨⟨_,rfl,SubB.refl _⟩,⟨_,rfl,SubB.refl _⟩,trivial⟩)
 <| fun q13=>have p13:=decF q13;.run 3 [rng .i64 ((k:Int)+1)] ⟨Qas (by omega) (by omega),trivial⟩<|
 .back L1 k (k+1) (show Qa1 (Qsu f) f.l (k+1) from (hH1.step hx2 ⟨by omega,(by unfold Qkc;simp only [q8,q9,q10,q11,q12,Bool.and_false,Bool.false_and,Bool.true_and,Bool.and_true,Bool.or_false,Bool.false_or,Bool.or_true,Bool.true_or,Bool.not_true,Bool.not_false]),hH2.full (by omega)⟩)) (show f.l.length-(k+1)<f.l.length-k from (by omega)) ⟨[(1,.ptr 1 b1 0),(4,.sl 1 false ((Qbx f 1).map intA)),(5,aI ((k:Int)+1))],[(1,.box b1 28 (fsyA f))]⟩ ⟨sR,sR,Sub.of_eq (congrArg aI (by first | omega | rfl)),trivial⟩ ⟨⟨_,rfl,SubB.refl _⟩,trivial⟩) a2 ha2)
 <| fun q10=>have p10:=beqF q10;.r 10<|.r 1<|let L2:Lp (Nat):=⟨fun a2=>⟨[(1,.ptr 1 b1 0),(4,.sl 1 false ((Qbx f 1).map intA)),(5,aI (k:Int)),(6,.ptr 6 b2 0),(8,aI (a2:Int))],[(1,.box b1 28 (fsyA f)),(6,.box b2 84 (nodA x2))]⟩,fun a2=>x2.l.length-a2,fun a2=>Qa1 (fun _ e=>Qar f e.ino=true) x2.l a2⟩
 .loop L2 0 (show Qa1 (fun _ e=>Qar f e.ino=true) x2.l 0 from Qa1.zero _ _) ⟨[(1,.ptr 1 b1 0),(4,.sl 1 false ((Qbx f 1).map intA)),(5,aI (k:Int)),(6,.ptr 6 b2 0),(8,aI 0)],[(1,.box b1 28 (fsyA f)),(6,.box b2 84 (nodA x2))]⟩ ⟨sR,sR,sR,sR,Sub.of_eq (congrArg aI (by first | omega | rfl)),trivial⟩ ⟨⟨_,rfl,SubB.refl _⟩,⟨_,rfl,SubB.refl _⟩,trivial⟩ fun a2 ha2=>
 (fun (j:Nat) (hH2:Qa1 (fun _ e=>Qar f e.ino=true) x2.l j)=>.run 4 [b2=b2] rt1<|
 .val 94 (show (aI ((x2.l.map entA).length:Int):AV)=aI (x2.l.length:Int) from by rw [List.length_map])<|.r 1<|.br 95 (decide ((j:Int)<(x2.l.length:Int))) (fun q16=>have p16:=decT q16;.pick [0,1,2,3,4,5,6]<|.run 4 [b1=b1,b2=b2] rt2<|
 .idxM x2.l entA j (m:=(j:Int)) rfl (by omega) fun x4 hx4=>
 .r 2<|.fork<|.alt (.call (Qbd f x4.ino (by omega))<|
 .pick [8,9,10,11,12,13]<|.r 3<|.new fun b5=>.run 2 [b5=b5] rt1<|
 .r 2<|.br 110 (!(Qar f x4.ino)) (fun q17=>have q17:=notT q17;have p17:=booF q17;.r 1<|.fin (x:=aB false) (r:=aB (dP (Qct f))) [] trivial (by
  refine sF (fun h=>?_)
  have g:=(h.2.2.at hx2).2.2.at hx4
  simp_all))
 <| fun q17=>have q17:=notF q17;have p17:=booT q17;.run 3 [rng .i64 ((j:Int)+1)] ⟨Qas (by omega) (by omega),trivial⟩<|
 .back L2 j (j+1) (show Qa1 (fun _ e=>Qar f e.ino=true) x2.l (j+1) from (hH2.step hx4 (by assumption))) (show x2.l.length-(j+1)<x2.l.length-j from (by omega)) ⟨[(1,.ptr 1 b1 0),(4,.sl 1 false ((Qbx f 1).map intA)),(5,aI (k:Int)),(6,.ptr 6 b2 0),(8,aI ((j:Int)+1))],[(1,.box b1 28 (fsyA f)),(6,.box b2 84 (nodA x2))]⟩ ⟨sR,sR,sR,sR,Sub.of_eq (congrArg aI (by first | omega | rfl)),trivial⟩ ⟨⟨_,rfl,SubB.refl _⟩,⟨_,rfl,SubB.refl _⟩,trivial⟩)
 <| .new fun b6=>.pick [7,8,9,10,12,13]<|.call (Qbd f x4.ino (by omega))<|
 .run 5 [b6=b6] rt1<|
 .r 2<|.br 110 (!(Qar f x4.ino)) (fun q18=>have q18:=notT q18;have p18:=booF q18;.r 1<|.fin (x:=aB false) (r:=aB (dP (Qct f))) [] trivial (by
  refine sF (fun h=>?_)
  have g:=(h.2.2.at hx2).2.2.at hx4
  simp_all))
 <| fun q18=>have q18:=notF q18;have p18:=booT q18;.run 3 [rng .i64 ((j:Int)+1)] ⟨Qas (by omega) (by omega),trivial⟩<|
 .back L2 j (j+1) (show Qa1 (fun _ e=>Qar f e.ino=true) x2.l (j+1) from (hH2.step hx4 (by assumption))) (show x2.l.length-(j+1)<x2.l.length-j from (by omega)) ⟨[(1,.ptr 1 b1 0),(4,.sl 1 false ((Qbx f 1).map intA)),(5,aI (k:Int)),(6,.ptr 6 b2 0),(8,aI ((j:Int)+1))],[(1,.box b1 28 (fsyA f)),(6,.box b2 84 (nodA x2))]⟩ ⟨sR,sR,sR,sR,Sub.of_eq (congrArg aI (by first | omega | rfl)),trivial⟩ ⟨⟨_,rfl,SubB.refl _⟩,⟨_,rfl,SubB.refl _⟩,trivial⟩)
 <| fun q16=>have p16:=decF q16;.run 3 [rng .i64 ((k:Int)+1)] ⟨Qas (by omega) (by omega),trivial⟩<|
 .back L1 k (k+1) (show Qa1 (Qsu f) f.l (k+1) from (hH1.step hx2 ⟨by omega,(by unfold Qkc;simp only [q8,q9,q10,Bool.and_false,Bool.false_and,Bool.true_and,Bool.and_true,Bool.or_false,Bool.false_or,Bool.or_true,Bool.true_or,Bool.not_true,Bool.not_false]),hH2.full (by omega)⟩)) (show f.l.length-(k+1)<f.l.length-k from (by omega)) ⟨[(1,.ptr 1 b1 0),(4,.sl 1 false ((Qbx f 1).map intA)),(5,aI ((k:Int)+1))],[(1,.box b1 28 (fsyA f))]⟩ ⟨sR,sR,Sub.of_eq (congrArg aI (by first | omega | rfl)),trivial⟩ ⟨⟨_,rfl,SubB.refl _⟩,trivial⟩) a2 ha2)
 <| fun q8=>have p8:=decF q8;.r 18<|.r 1<|let L2:Lp (Nat):=⟨fun a2=>⟨[(1,.ptr 1 b1 0),(4,.sl 1 false ((Qbx f 1).map intA)),(5,aI (k:Int)),(6,.ptr 6 b2 0),(8,aI (a2:Int))],[(1,.box b1 28 (fsyA f)),(6,.box b2 84 (nodA x2))]⟩,fun a2=>x2.l.length-a2,fun a2=>Qa1 (fun _ e=>Qar f e.ino=true) x2.l a2⟩
 .loop L2 0 (show Qa1 (fun _ e=>Qar f e.ino=true) x2.l 0 from Qa1.zero _ _) ⟨[(1,.ptr 1 b1 0),(4,.sl 1 false ((Qbx f 1).map intA)),(5,aI (k:Int)),(6,.ptr 6 b2 0),(8,aI 0)],[(1,.box b1 28 (fsyA f)),(6,.box b2 84 (nodA x2))]⟩ ⟨sR,sR,sR,sR,Sub.of_eq (congrArg aI (by first | omega | rfl)),trivial⟩ ⟨⟨_,rfl,SubB.refl _⟩,⟨_,rfl,SubB.refl _⟩,trivial⟩ fun a2 ha2=>
 (fun (j:Nat) (hH2:Qa1 (fun _ e=>Qar f e.ino=true) x2.l j)=>.run 4 [b2=b2] rt1<|
 .val 94 (show (aI ((x2.l.map entA).length:Int):AV)=aI (x2.l.length:Int) from by rw [List.length_map])<|.r 1<|.br 95 (decide ((j:Int)<(x2.l.length:Int))) (fun q19=>have p19:=decT q19;.pick [0,1,2,3,4,5,6]<|.run 4 [b1=b1,b2=b2] rt2<|
 .idxM x2.l entA j (m:=(j:Int)) rfl (by omega) fun x5 hx5=>
 .r 2<|.fork<|.alt (.call (Qbd f x5.ino (by omega))<|
 .pick [8,9,10,11,12,13]<|.r 3<|.new fun b7=>.run 2 [b7=b7] rt1<|
 .r 2<|.br 110 (!(Qar f x5.ino)) (fun q20=>have q20:=notT q20;have p20:=booF q20;.r 1<|.fin (x:=aB false) (r:=aB (dP (Qct f))) [] trivial (by
  refine sF (fun h=>?_)
  have g:=(h.2.2.at hx2).2.2.at hx5
  simp_all))
 <| fun q20=>have q20:=notF q20;have p20:=booT q20;.run 3 [rng .i64 ((j:Int)+1)] ⟨Qas (by omega) (by omega),trivial⟩<|
 .back L2 j (j+1) (show Qa1 (fun _ e=>Qar f e.ino=true) x2.l (j+1) from (hH2.step hx5 (by assumption))) (show x2.l.length-(j+1)<x2.l.length-j from (by omega)) ⟨[(1,.ptr 1 b1 0),(4,.sl 1 false ((Qbx f 1).map intA)),(5,aI (k:Int)),(6,.ptr 6 b2 0),(8,aI ((j:Int)+1))],[(1,.box b1 28 (fsyA f)),(6,.box b2 84 (nodA x2))]⟩ ⟨sR,sR,sR,sR,Sub.of_eq (congrArg aI (by first | omega | rfl)),trivial⟩ ⟨⟨_,rfl,SubB.refl _⟩,⟨_,rfl,SubB.refl _⟩,trivial⟩)
 <| .new fun b8=>.pick [7,8,9,10,12,13]<|.call (Qbd f x5.ino (by omega))<|
 .run 5 [b8=b8] rt1<|
 .r 2<|.br 110 (!(Qar f x5.ino)) (fun q21=>have q21:=notT q21;have p21:=booF q21;.r 1<|.fin (x:=aB false) (r:=aB (dP (Qct f))) [] trivial (by
  refine sF (fun h=>?_)
  have g:=(h.2.2.at hx2).2.2.at hx5
  simp_all))
 <| fun q21=>have q21:=notF q21;have p21:=booT q21;.run 3 [rng .i64 ((j:Int)+1)] ⟨Qas (by omega) (by omega),trivial⟩<|
 .back L2 j (j+1) (show Qa1 (fun _ e=>Qar f e.ino=true) x2.l (j+1) from (hH2.step hx5 (by assumption))) (show x2.l.length-(j+1)<x2.l.length-j from (by omega)) ⟨[(1,.ptr 1 b1 0),(4,.sl 1 false ((Qbx f 1).map intA)),(5,aI (k:Int)),(6,.ptr 6 b2 0),(8,aI ((j:Int)+1))],[(1,.box b1 28 (fsyA f)),(6,.box b2 84 (nodA x2))]⟩ ⟨sR,sR,sR,sR,Sub.of_eq (congrArg aI (by first | omega | rfl)),trivial⟩ ⟨⟨_,rfl,SubB.refl _⟩,⟨_,rfl,SubB.refl _⟩,trivial⟩)
 <| fun q19=>have p19:=decF q19;.run 3 [rng .i64 ((k:Int)+1)] ⟨Qas (by omega) (by omega),trivial⟩<|
 .back L1 k (k+1) (show Qa1 (Qsu f) f.l (k+1) from (hH1.step hx2 ⟨by omega,(by unfold Qkc;simp only [q8,Bool.and_false,Bool.false_and,Bool.true_and,Bool.and_true,Bool.or_false,Bool.false_or,Bool.or_true,Bool.true_or,Bool.not_true,Bool.not_false]),hH2.full (by omega)⟩)) (show f.l.length-(k+1)<f.l.length-k from (by omega)) ⟨[(1,.ptr 1 b1 0),(4,.sl 1 false ((Qbx f 1).map intA)),(5,aI ((k:Int)+1))],[(1,.box b1 28 (fsyA f))]⟩ ⟨sR,sR,Sub.of_eq (congrArg aI (by first | omega | rfl)),trivial⟩ ⟨⟨_,rfl,SubB.refl _⟩,trivial⟩) a2 ha2)
 <| fun q6=>have p6:=decF q6;.r 1<|.fin (x:=aB true) (r:=aB (dP (Qct f))) [] trivial (by exact sT ⟨Qbb.1 (by assumption),⟨x1,hx1,by omega,by omega,by omega⟩,hH1.full (by omega)⟩)) a1 ha1) Tryz.func46 rfl (by kernel_rfl) (by kernel_rfl)
theorem Qqz {f:Fsy} {i:Int} (hp:Qal f) (hf:midF f):∀ (n:Nat) {U:List Int} (p:Nat),Dst f U→260≤n+p→(∀ y∈Qa3 f i,hasB U y=true)→(∀ k z,k<p→U[k]?=some z→∀ y∈Qa3 f z,hasB U y=true) →
  (∀ y∈Qa3 f i,hasB (goU f n U p) y=true)∧∀ z,hasB (goU f n U p) z=true→∀ y∈Qa3 f z,hasB (goU f n U p) y=true
 | 0,U,p,hd,hn,hi,h=>by
  have hl:=hd.leM hf
  refine ⟨hi,fun z hz=>?_⟩
  obtain ⟨k,hk⟩:=List.getElem?_of_mem (Qg4.1 hz)
  have hk':U[k]?=some z:=hk
  exact h k z (by have:=Qan hk';omega) hk'
 | n+1,U,p,hd,hn,hi,h=>by
  simp only [goU]
  split
  ·rename_i y hy
   have mono:∀ z,hasB U z=true→hasB (addE U (Qaa f y).l) z=true:=fun z hz=>Qmn.2 (.inl hz)
   refine Qqz hp hf n (p+1) (Qe0 hd fun e he=>Qez he) (by omega) (fun z hz=>mono z (hi z hz)) fun k z hk hz w hw=>?_
   by_cases hkp:k<p
   ·have hk2:k<U.length:=by have:=Qan hy;omega
    have e:U[k]?=some z:=by
     have:=Qku (l:=(Qaa f y).l) (List.getElem?_eq_getElem hk2)
     rw [this] at hz
     rw [List.getElem?_eq_getElem hk2];exact hz
    exact mono w (h k z hkp e w hw)
   ·have e:k=p:=by omega
    subst e
    rw [Qku hy] at hz
    obtain rfl:=Option.some.inj hz
    exact Qmn.2 (.inr (by rw [Qgl hp];exact hw))
  ·rename_i hnone
   refine ⟨hi,fun z hz=>?_⟩
   obtain ⟨k,hk⟩:=List.getElem?_of_mem (Qg4.1 hz)
   have:U.length≤p:=by
    cases Nat.lt_or_ge p U.length with
    | inl hlt=>rw [List.getElem?_eq_getElem hlt] at hnone;cases hnone
    | inr hge=>exact hge
   exact h k z (by have:=Qan hk;omega) hk
theorem Qm0 {f:Fsy} {i z:Int} (hp:Qal f) (hf:midF f):hasB (Qbx f i) z=true↔Reach f i z:=by
 have h0:∀ y,hasB (addE [] (Qaa f i).l) y=true↔y∈Qa3 f i:=fun y=>by
  rw [Qmn,Qgl hp]
  simp [hasB]
 refine ⟨Ql2 hp 300 0 (fun y hy=>.one ((h0 y).1 hy)) z,fun h=>?_⟩
 obtain ⟨g1,g2⟩:=Qqz (i:=i) hp hf 300 0 (Qe0 (Dst.nil f) fun e he=>Qez he) (by omega) (fun y hy=>(h0 y).2 hy) (fun k z hk=>absurd hk (Nat.not_lt_zero k))
 have main:∀ a b,Reach f a b→(∀ y∈Qa3 f a,hasB (Qbx f i) y=true)→hasB (Qbx f i) b=true:=by
  intro a b hab
  induction hab with
  | one h=>exact fun hk=>hk _ h
  | more h _ ih=>exact fun hk=>ih (g2 _ (hk _ h))
 exact main i z h g1
theorem Qvt {f:Fsy} (hf:midF f) (T:TreeP f):Qct f:=by
 have hp:=T.rows
 have hr:=Qad hp
 obtain ⟨_,⟨n0,h2,h3,h4,h5⟩,_⟩:=Qnc.2 T
 refine ⟨hp,⟨n0,h2,h3,h4,h5⟩,fun j n hj=>?_⟩
 have hn:=Qtp hr (List.mem_of_getElem? hj)
 have hn1:=((Qbj.1 hp).2.2.1 n (List.mem_of_getElem? hj)).1
 refine ⟨by rw [Qqi hp];exact T.cnt _ n hn,?_,fun k e he=>?_⟩
 ·unfold Qkc
  by_cases hj0:j=0
  ·rw [hj0];rfl
  ·have hi:¬ n.ino=1:=(Zco (i:=0) hr h2 h3 (List.mem_of_getElem? (i:=j-1) (by rw [List.getElem?_drop,show 1+(j-1)=j from by omega];exact hj))).2
   have hp1:=T.pos _ n hn hi
   rw [decide_eq_true (show (j:Int)>0 from by omega),decide_eq_false (show ¬ n.links<1 from by omega)]
   by_cases hk:n.kind=2
   ·obtain ⟨g1,g2⟩:=T.dir _ n hn hk hi
    rw [(Qm0 hp hf).2 g2,decide_eq_false (show ¬ n.links>1 from by omega)]
    simp
   ·have:(n.kind==2)=false:=by simpa using hk
    rw [this];simp
 ·by_cases hk:n.kind=2
  ·obtain ⟨⟨m,hm⟩,_⟩:=T.kid _ _ (Qfy hn hk (List.mem_of_getElem? he) rfl)
   exact (Qfo hm).1
  ·rw [Qfn hn1 hk] at he
   cases he
theorem Qz6 {f g:Fsy} (hf:fewF f) (K:Kept f g):midF g:=by
 have h:=K.few
 rw [wF_eq,wF_eq] at h
 have:=hf.1
 unfold midF
 omega
end Go.Proofs.YtahlldgocpabjaaGreat
