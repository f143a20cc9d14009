import Derived.Test.YtahlldgocpabjaaGreatAl
import Derived.Test.YtahlldgocpabjaaGreatMrgY
import Derived.Test.YtahlldgocpabjaaGreatMrgI
import Derived.Test.YtahlldgocpabjaaGreatMrgH
import Derived.Test.YtahlldgocpabjaaGreatMrgT
import Derived.Test.YtahlldgocpabjaaGreatMrgW
import Derived.Test.YtahlldgocpabjaaGreatMrgS
import Derived.Test.YtahlldgocpabjaaGreatMrgX
set_option maxRecDepth 100000
set_option maxHeartbeats 8000000
set_option linter.unusedVariables false
set_option linter.unusedSimpArgs false
namespace Go.Proofs.YtahlldgocpabjaaGreat
open Go Go.RowKit Copyhold Go.Proofs.Tryz
theorem Qvb (a b:List Nod) (h:a.length+b.length≤100000):Qai prog 108 [.sl 1 false ([a.map nodA,b.map nodA].map pc5)] (.sl 5 false ((a++b).map nodA)):=by
 have:=Qhm [a.map nodA,b.map nodA] (by simp) (by simp;omega);rw [W1t];simpa using this
theorem Quv (f g:Fsy) (h:f.l.length+g.l.length≤100000):Qai prog 97 [.sl 1 false (((f.l++g.l).map Nod.ino).map intA)] (.sl 1 false ((Qbe f g).map intA)):=by
 rw [← Zlr];exact Quw _ (by simp;omega)
theorem Qrp (f g:Fsy) (okf:OkF f) (okg:OkF g) (hf:f.l.length≤1000) (hg:g.l.length≤1000) (hr:Qb1 f.l) (hrg:Qb1 g.l):Qai prog 59 [.agg (fsyA f),.agg (fsyA g)] (.sl 7 false ((Qbl f g).map chgA)):=by
 have hal:(Qbe f g).length≤f.l.length+g.l.length:=by have h1:=Qe9 [] f.l;have h2:=Qe9 (Qej [] f.l) g.l;unfold Qbe;simp at h1;omega
 exact Qae func59 (
 .new fun b1=>.new fun b2=>.r 1<|.r 1<|.rowNil 5 5 3 1<|.u 5 [b1,b2]<|
 .cs (args0:=[.sl 1 true ([[.sl 5 false (f.l.map nodA)],[.sl 5 false (g.l.map nodA)]])]) (Qvb f.l g.l (by omega)) ⟨pcs2 _ _,trivial⟩<|
 .r 1<|.lm 21 (f.l++g.l) nodA<|.r 1<|let L1:Lp (Nat × Value):=⟨fun a1=>⟨[(2,.ptr 2 b1 0),(3,.ptr 3 b2 0),(22,aI (a1.1:Int)),(5,.rw 5 a1.2 ((((f.l++g.l).take a1.1).map Nod.ino).length)),(20,.sl 5 false ((f.l++g.l).map nodA)),(21,aI ((f.l++g.l).length:Int))],[(2,.box b1 28 (fsyA f)),(3,.box b2 28 (fsyA g)),(5,.row a1.2 3 1 ((((f.l++g.l).take a1.1).map Nod.ino).map intA))]⟩,fun a1=>(f.l++g.l).length-a1.1,fun a1=>a1.1≤(f.l++g.l).length⟩
 .lp L1 (0,.slice none 0 0) (show 0≤(f.l++g.l).length from W0j _) [(22,aI 0),(5,.rw 5 (.slice none 0 0) 0)] [(5,.row (.slice none 0 0) 3 1 ([]))] ⟨sR,sR,sO,sR,sR,sR,trivial⟩ bb3 fun a1 ha1=>
 (fun (k:Nat) (V:Value) (hH1:k≤(f.l++g.l).length)=>have hfg:(f.l++g.l).length=f.l.length+g.l.length:=W0e;.r 1<|.bd 23 ((k:Int)<((f.l++g.l).length:Int)) (fun p1=>.idxM (f.l++g.l) nodA k (m:=(k:Int)) rfl (by omega) fun x1 hx1=>
 .r 1<|.new fun b3=>.u 1 [b3]<|
 .u 4 [b3]<|
 .app 8 V ((((f.l++g.l).take k).map Nod.ino).map intA) ([[aI x1.ino]]) (by first | (have:=Qcv f g m;simp only [W0a,W0b,W0f];omega) | (simp only [W0a,W0b,W0f,W0g,W0e];omega)) (by first | (have:=Qcv f g m;simp only [W0a,W0b,W0f];omega) | (simp only [W0a,W0b,W0f,W0g,W0e];omega)) fun V1=>
 .r 1<|.run 2 [rng .i64 ((k:Int)+1)] ⟨Qah,trivial⟩<|
 .bk L1 (k,V) ((k+1),V1) (show (k+1)≤(f.l++g.l).length from (by show _≤_;omega)) (show (f.l++g.l).length-(k+1)<(f.l++g.l).length-k from (by omega)) [(22,aI ((k:Int)+1)),(5,.rw 5 V1 (((((f.l++g.l).take k).map Nod.ino).map intA).length+([[aI x1.ino]]:List (List AV)).length))] [(5,.row V1 3 1 (((((f.l++g.l).take k).map Nod.ino).map intA)++([[aI x1.ino]])))] ⟨sR,sR,sO,W2p (W1z (AV.rw 5 V1) (by rw [Qam hx1];simp)),sR,sR,trivial⟩ ⟨sB,sB,⟨_,rfl,W2q (by rw [Qam hx1];simp [intA])⟩,trivial⟩)
 <| fun p1=>.r 1<|.frz 5 [2,3,5,8,23] [2,3] [V=V,(((f.l++g.l).take k).map Nod.ino).length=((((f.l++g.l).take k).map Nod.ino).map intA).length] ⟨rfl,(by first | rfl | (simp;done) | (simp;omega)),trivial⟩<|
 .rowNil 8 8 152 7<|.r 1<|.cs (args0:=[.sl 1 false ((((f.l++g.l).take k).map Nod.ino).map intA)]) (Quv f g (by omega)) ⟨W2p (by rw [Qat (by omega)]),trivial⟩<|
 .r 1<|.lm 34 (Qbe f g) intA<|.r 1<|let L2:Lp (Nat × Value):=⟨fun a2=>⟨[(2,.ptr 2 b1 0),(3,.ptr 3 b2 0),(34,aI ((Qbe f g).length:Int)),(35,aI (a2.1:Int)),(8,.rw 8 a2.2 ((chgL f g a2.1).length)),(33,.sl 1 false ((Qbe f g).map intA))],[(2,.box b1 28 (fsyA f)),(3,.box b2 28 (fsyA g)),(8,.row a2.2 152 7 ((chgL f g a2.1).map chgR))]⟩,fun a2=>(Qbe f g).length-a2.1,fun a2=>a2.1≤(Qbe f g).length⟩
 .lp L2 (0,.slice none 0 0) (show 0≤(Qbe f g).length from W0j _) [(35,aI 0),(8,.rw 8 (.slice none 0 0) 0)] [(8,.row (.slice none 0 0) 152 7 ([]))] ⟨sR,sR,sR,sO,sR,sR,trivial⟩ bb3 fun a2 ha2=>
 (fun (m:Nat) (V:Value) (hH2:m≤(Qbe f g).length)=>.r 1<|.bd 36 ((m:Int)<((Qbe f g).length:Int)) (fun p2=>.idxM (Qbe f g) intA m (m:=(m:Int)) rfl (by omega) fun x2 hx2=>
 .r 2<|.u 2 [b1]<|
 .call (Qcp f x2 (by omega) hr)<|
 .r 3<|.new fun b4=>.u 2 [b4]<|
 .u 2 [b2]<|
 .call (Qcp g x2 (by omega) hrg)<|
 .r 3<|.new fun b5=>.u 2 [b5]<|
 .r 3<|.br 51 (!(Qav g x2)) (fun q3=>have q3:=notT q3;have p3:=booF q3;.r 4<|.app 80 V ((chgL f g m).map chgR) ([[aI x2,aB true,aI 0,aI 0,aI 0,aS ([]),aN]]) (by first | (have:=Qcv f g m;simp only [W0a,W0b,W0f];omega) | (simp only [W0a,W0b,W0f,W0g,W0e];omega)) (by first | (have:=Qcv f g m;simp only [W0a,W0b,W0f];omega) | (simp only [W0a,W0b,W0f,W0g,W0e];omega)) fun V2=>
 .r 1<|.run 2 [rng .i64 ((m:Int)+1)] ⟨Qah,trivial⟩<|
 .bk L2 (m,V) ((m+1),V2) (show (m+1)≤(Qbe f g).length from (by show _≤_;omega)) (show (Qbe f g).length-(m+1)<(Qbe f g).length-m from (by omega)) [(35,aI ((m:Int)+1)),(8,.rw 8 V2 (((chgL f g m).map chgR).length+([[aI x2,aB true,aI 0,aI 0,aI 0,aS ([]),aN]]:List (List AV)).length))] [(8,.row V2 152 7 (((chgL f g m).map chgR)++([[aI x2,aB true,aI 0,aI 0,aI 0,aS ([]),aN]])))] ⟨sR,sR,sR,sO,W2p (W1z (AV.rw 8 V2) (by rw [Qcm hx2 (show chgD f g x2=some ⟨x2,true,nod0⟩ from by unfold chgD;rw [W1y q3])];simp)),sR,trivial⟩ ⟨sB,sB,⟨_,rfl,W2q (by rw [Qcm hx2 (show chgD f g x2=some ⟨x2,true,nod0⟩ from by unfold chgD;rw [W1y q3])];simp [chgR,nod0])⟩,trivial⟩)
 <| fun q3=>have q3:=notF q3;have p3:=booT q3;.r 3<|.br 62 (!(Qav f x2)) (fun q4=>have q4:=notT q4;have p4:=booF q4;.r 6<|.u 5 [b5]<|
 .app 80 V ((chgL f g m).map chgR) ([[aI x2,aB false,aI ((Qaa g x2).ino),aI ((Qaa g x2).kind),aI ((Qaa g x2).links),aS ((Qaa g x2).text),.sl 2 false ((Qaa g x2).l.map entA)]]) (by first | (have:=Qcv f g m;simp only [W0a,W0b,W0f];omega) | (simp only [W0a,W0b,W0f,W0g,W0e];omega)) (by first | (have:=Qcv f g m;simp only [W0a,W0b,W0f];omega) | (simp only [W0a,W0b,W0f,W0g,W0e];omega)) fun V3=>
 .r 1<|.run 2 [rng .i64 ((m:Int)+1)] ⟨Qah,trivial⟩<|
 .bk L2 (m,V) ((m+1),V3) (show (m+1)≤(Qbe f g).length from (by show _≤_;omega)) (show (Qbe f g).length-(m+1)<(Qbe f g).length-m from (by omega)) [(35,aI ((m:Int)+1)),(8,.rw 8 V3 (((chgL f g m).map chgR).length+([[aI x2,aB false,aI ((Qaa g x2).ino),aI ((Qaa g x2).kind),aI ((Qaa g x2).links),aS ((Qaa g x2).text),.sl 2 false ((Qaa g x2).l.map entA)]]:List (List AV)).length))] [(8,.row V3 152 7 (((chgL f g m).map chgR)++([[aI x2,aB false,aI ((Qaa g x2).ino),aI ((Qaa g x2).kind),aI ((Qaa g x2).links),aS ((Qaa g x2).text),.sl 2 false ((Qaa g x2).l.map entA)]])))] ⟨sR,sR,sR,sO,W2p (W1z (AV.rw 8 V3) (by rw [Qcm hx2 (show chgD f g x2=some ⟨x2,false,Qaa g x2⟩ from by unfold chgD;rw [W1x (by simp [q3]),W1y (.inl q4)])];simp)),sR,trivial⟩ ⟨sB,sB,⟨_,rfl,W2q (by rw [Qcm hx2 (show chgD f g x2=some ⟨x2,false,Qaa g x2⟩ from by unfold chgD;rw [W1x (by simp [q3]),W1y (.inl q4)])];simp [chgR])⟩,trivial⟩)
 <| fun q4=>have q4:=notF q4;have p4:=booT q4;.u 2 [b4,b5]<|
 .call (Qp8 (Qaa f x2) (Qaa g x2) (Qed okf _) (Qed okg _))<|
 .r 3<|.br 59 (!(dP ((Qaa f x2)=(Qaa g x2)))) (fun q5=>have q5:=notT q5;have p5:=booF q5;.u 5 [b5]<|
 .app 80 V ((chgL f g m).map chgR) ([[aI x2,aB false,aI ((Qaa g x2).ino),aI ((Qaa g x2).kind),aI ((Qaa g x2).links),aS ((Qaa g x2).text),.sl 2 false ((Qaa g x2).l.map entA)]]) (by first | (have:=Qcv f g m;simp only [W0a,W0b,W0f];omega) | (simp only [W0a,W0b,W0f,W0g,W0e];omega)) (by first | (have:=Qcv f g m;simp only [W0a,W0b,W0f];omega) | (simp only [W0a,W0b,W0f,W0g,W0e];omega)) fun V4=>
 .r 1<|.run 2 [rng .i64 ((m:Int)+1)] ⟨Qah,trivial⟩<|
 .bk L2 (m,V) ((m+1),V4) (show (m+1)≤(Qbe f g).length from (by show _≤_;omega)) (show (Qbe f g).length-(m+1)<(Qbe f g).length-m from (by omega)) [(35,aI ((m:Int)+1)),(8,.rw 8 V4 (((chgL f g m).map chgR).length+([[aI x2,aB false,aI ((Qaa g x2).ino),aI ((Qaa g x2).kind),aI ((Qaa g x2).links),aS ((Qaa g x2).text),.sl 2 false ((Qaa g x2).l.map entA)]]:List (List AV)).length))] [(8,.row V4 152 7 (((chgL f g m).map chgR)++([[aI x2,aB false,aI ((Qaa g x2).ino),aI ((Qaa g x2).kind),aI ((Qaa g x2).links),aS ((Qaa g x2).text),.sl 2 false ((Qaa g x2).l.map entA)]])))] ⟨sR,sR,sR,sO,W2p (W1z (AV.rw 8 V4) (by rw [Qcm hx2 (show chgD f g x2=some ⟨x2,false,Qaa g x2⟩ from by unfold chgD;rw [W1x (by simp [q3]),W1y (.inr (Qad.1 q5))])];simp)),sR,trivial⟩ ⟨sB,sB,⟨_,rfl,W2q (by rw [Qcm hx2 (show chgD f g x2=some ⟨x2,false,Qaa g x2⟩ from by unfold chgD;rw [W1x (by simp [q3]),W1y (.inr (Qad.1 q5))])];simp [chgR])⟩,trivial⟩)
 <| fun q5=>have q5:=notF q5;have p5:=booT q5;.run 2 [rng .i64 ((m:Int)+1)] ⟨Qah,trivial⟩<|
 .bk L2 (m,V) ((m+1),V) (show (m+1)≤(Qbe f g).length from (by show _≤_;omega)) (show (Qbe f g).length-(m+1)<(Qbe f g).length-m from (by omega)) [(35,aI ((m:Int)+1)),(8,.rw 8 V ((chgL f g m).length))] [(8,.row V 152 7 ((chgL f g m).map chgR))] ⟨sR,sR,sR,sO,W2p (W1z (AV.rw 8 V) (by rw [Ql3 hx2 (show chgD f g x2=none from by unfold chgD;rw [W1x (by simp [q3]),W1x (fun h=>h.elim (fun h=>by rw [q4] at h;cases h) (fun h=>h (Qau.1 q5)))])])),sR,trivial⟩ ⟨sB,sB,⟨_,rfl,W2q (by rw [Ql3 hx2 (show chgD f g x2=none from by unfold chgD;rw [W1x (by simp [q3]),W1x (fun h=>h.elim (fun h=>by rw [q4] at h;cases h) (fun h=>h (Qau.1 q5)))])])⟩,trivial⟩)
 <| fun p2=>.r 2<|.frz 8 [4] [] [V=V,(chgL f g m).length=((chgL f g m).map chgR).length] ⟨rfl,(by first | rfl | (simp;done) | (simp;omega)),trivial⟩<|
 .f (.sl 7 false ((Qbl f g).map chgA)) [] (.sl 7 false ((chgL f g m).map chgR)) (by
  rw [Zah (by omega)];exact Zhw Qml)) a2.1 a2.2 ha2) a1.1 a1.2 ha1)
theorem Qrf (f g:Fsy) (okf:OkF f) (okg:OkF g) (hf:f.l.length≤1000) (hg:g.l.length≤1000):Qai prog 61 [.agg (fsyA f),.agg (fsyA g)] (.sl 7 false ((Qbl f g).map chgA)):=by
 have hal:(Qbe f g).length≤f.l.length+g.l.length:=by have h1:=Qe9 [] f.l;have h2:=Qe9 (Qej [] f.l) g.l;unfold Qbe;simp at h1;omega
 exact Qae func61 (
 .new fun b1=>.new fun b2=>.r 1<|.r 1<|.r 1<|let L1:Lp (Nat):=⟨fun a1=>⟨[(2,.ptr 2 b1 0),(3,.ptr 3 b2 0),(6,aI (a1:Int)),(5,.sl 1 false ((Qej [] (f.l.take a1)).map intA))],[(2,.box b1 28 (fsyA f)),(3,.box b2 28 (fsyA g))]⟩,fun a1=>f.l.length-a1,fun a1=>a1≤f.l.length⟩
 .lp L1 0 (show 0≤f.l.length from W0j _) [(6,aI 0),(5,aN)] [] ⟨sR,sR,sO,Sub.nil _ _,trivial⟩ bb2 fun a1 ha1=>
 (fun (k:Nat) (hH1:k≤f.l.length)=>.u 4 [b1]<|
 .lm 18 f.l nodA<|.r 1<|.bd 19 ((k:Int)<(f.l.length:Int)) (fun p1=>.u 4 [b1]<|
 .idxM f.l nodA k (m:=(k:Int)) rfl (by omega) fun x1 hx1=>
 .r 2<|.call (Qc3 (Qej [] (f.l.take k)) x1.ino (by have:=Qe9 [] (f.l.take k);simp at this;omega))<|
 .r 1<|.run 3 [rng .i64 ((k:Int)+1)] ⟨Qah,trivial⟩<|
 .bk L1 k (k+1) (show (k+1)≤f.l.length from (by show _≤_;omega)) (show f.l.length-(k+1)<f.l.length-k from (by omega)) [(6,aI ((k:Int)+1)),(5,.sl 1 false ((Qc0 (Qej [] (f.l.take k)) x1.ino).map intA))] [] ⟨sR,sR,sO,W2p (by rw [Qp9 hx1];rfl),trivial⟩ bb2)
 <| fun p1=>.r 1<|let L2:Lp (Nat):=⟨fun a2=>⟨[(2,.ptr 2 b1 0),(3,.ptr 3 b2 0),(7,aI (a2:Int)),(5,.sl 1 false ((Qej (Qej [] f.l) (g.l.take a2)).map intA))],[(2,.box b1 28 (fsyA f)),(3,.box b2 28 (fsyA g))]⟩,fun a2=>g.l.length-a2,fun a2=>a2≤g.l.length⟩
 .lp L2 0 (show 0≤g.l.length from W0j _) [(7,aI 0),(5,.sl 1 false ((Qej [] (f.l.take k)).map intA))] [] ⟨sR,sR,sO,W2p (by rw [Qat (by omega)];rfl),trivial⟩ bb2 fun a2 ha2=>
 (fun (j:Nat) (hH2:j≤g.l.length)=>.u 4 [b2]<|
 .lm 33 g.l nodA<|.r 1<|.bd 34 ((j:Int)<(g.l.length:Int)) (fun p2=>.u 4 [b2]<|
 .idxM g.l nodA j (m:=(j:Int)) rfl (by omega) fun x2 hx2=>
 .r 2<|.call (Qc3 (Qej (Qej [] f.l) (g.l.take j)) x2.ino (by have h1:=Qe9 [] f.l;have h2:=Qe9 (Qej [] f.l) (g.l.take j);simp at h1 h2;omega))<|
 .r 1<|.run 3 [rng .i64 ((j:Int)+1)] ⟨Qah,trivial⟩<|
 .bk L2 j (j+1) (show (j+1)≤g.l.length from (by show _≤_;omega)) (show g.l.length-(j+1)<g.l.length-j from (by omega)) [(7,aI ((j:Int)+1)),(5,.sl 1 false ((Qc0 (Qej (Qej [] f.l) (g.l.take j)) x2.ino).map intA))] [] ⟨sR,sR,sO,W2p (by rw [Qp9 hx2];rfl),trivial⟩ bb2)
 <| fun p2=>.r 1<|.rowNil 8 8 152 7<|.r 1<|let L3:Lp (Nat × Value):=⟨fun a3=>⟨[(2,.ptr 2 b1 0),(3,.ptr 3 b2 0),(9,aI (a3.1:Int)),(8,.rw 8 a3.2 ((chgL f g a3.1).length)),(5,.sl 1 false ((Qbe f g).map intA))],[(2,.box b1 28 (fsyA f)),(3,.box b2 28 (fsyA g)),(8,.row a3.2 152 7 ((chgL f g a3.1).map chgR))]⟩,fun a3=>(Qbe f g).length-a3.1,fun a3=>a3.1≤(Qbe f g).length⟩
 .lp L3 (0,.slice none 0 0) (show 0≤(Qbe f g).length from W0j _) [(9,aI 0),(8,.rw 8 (.slice none 0 0) 0),(5,.sl 1 false ((Qej (Qej [] f.l) (g.l.take j)).map intA))] [(8,.row (.slice none 0 0) 152 7 ([]))] ⟨sR,sR,sO,sR,W2p (by rw [Qat (by omega)];rfl),trivial⟩ bb3 fun a3 ha3=>
 (fun (m:Nat) (V:Value) (hH3:m≤(Qbe f g).length)=>.r 3<|.lm 47 (Qbe f g) intA<|.r 1<|.bd 48 ((m:Int)<((Qbe f g).length:Int)) (fun p3=>.pick [0,1,2,3,4]<|.u 3 [b1]<|
 .idxM (Qbe f g) intA m (m:=(m:Int)) rfl (by omega) fun x3 hx3=>
 .r 1<|.fork<|.alt (.call (Qa2 f x3 (by omega))<|
 .pick [6,7,8,9,10,11]<|.r 3<|.new fun b3=>.u 2 [b3]<|
 let J1:Jn (Nat):=⟨fun j1=>⟨[(2,.ptr 2 b1 0),(3,.ptr 3 b2 0),(9,aI (m:Int)),(8,.rw 8 V ((chgL f g m).length)),(5,.sl 1 false ((Qbe f g).map intA)),(45,aI (m:Int)),(46,.sl 1 false ((Qbe f g).map intA)),(47,aI ((Qbe f g).length:Int)),(48,aB true),(52,.agg (fsyA f)),(53,.sl 1 false ((Qbe f g).map intA)),(54,aI (m:Int)),(55,.dptr [aI x3]),(56,aI x3),(57,.tup [.agg [aI ((Qaa f x3).ino),aI ((Qaa f x3).kind),aI ((Qaa f x3).links),aS ((Qaa f x3).text),.sl 2 false ((Qaa f x3).l.map entA)],aB (Qav f x3)]),(51,.tup [.agg [aI ((Qaa f x3).ino),aI ((Qaa f x3).kind),aI ((Qaa f x3).links),aS ((Qaa f x3).text),.sl 2 false ((Qaa f x3).l.map entA)],aB (Qav f x3)]),(58,.agg [aI ((Qaa f x3).ino),aI ((Qaa f x3).kind),aI ((Qaa f x3).links),aS ((Qaa f x3).text),.sl 2 false ((Qaa f x3).l.map entA)]),(59,aB (Qav f x3)),(10,.ptr 10 b3 0),(11,aB (Qav f x3)),(61,.agg (fsyA g)),(62,.sl 1 false ((Qbe f g).map intA)),(63,aI (m:Int)),(64,.dptr [aI x3]),(65,aI x3),(66,.tup [.agg [aI ((Qaa g x3).ino),aI ((Qaa g x3).kind),aI ((Qaa g x3).links),aS ((Qaa g x3).text),.sl 2 false ((Qaa g x3).l.map entA)],aB (Qav g x3)]),(60,.tup [.agg [aI ((Qaa g x3).ino),aI ((Qaa g x3).kind),aI ((Qaa g x3).links),aS ((Qaa g x3).text),.sl 2 false ((Qaa g x3).l.map entA)],aB (Qav g x3)]),(67,.agg [aI ((Qaa g x3).ino),aI ((Qaa g x3).kind),aI ((Qaa g x3).links),aS ((Qaa g x3).text),.sl 2 false ((Qaa g x3).l.map entA)]),(68,aB (Qav g x3)),(12,.ptr 12 j1 0),(13,aB (Qav g x3))],[(2,.box b1 28 (fsyA f)),(3,.box b2 28 (fsyA g)),(8,.row V 152 7 ((chgL f g m).map chgR)),(10,.box b3 84 [aI ((Qaa f x3).ino),aI ((Qaa f x3).kind),aI ((Qaa f x3).links),aS ((Qaa f x3).text),.sl 2 false ((Qaa f x3).l.map entA)]),(12,.box j1 84 [aI ((Qaa g x3).ino),aI ((Qaa g x3).kind),aI ((Qaa g x3).links),aS ((Qaa g x3).text),.sl 2 false ((Qaa g x3).l.map entA)])]⟩,fun _=>True⟩
 .cut J1 (.pick [0,1,2,3,4]<|.u 3 [b2]<|
 .idx m (m:=(m:Int)) (xs:=(Qbe f g).map intA) (e:=intA x3) rfl (map_some hx3)<|
 .r 1<|.fork<|.alt (.call (Qa2 g x3 (by omega))<|
 .pick [6,7,8,9,10,11]<|.r 3<|.new fun b4=>.u 2 [b4]<|
 .jo J1 b4 [] [] ⟨sR,sR,sR,sR,sR,sR,sR,sR,sR,sR,sR,sR,sR,sR,sR,sR,sR,sR,sR,sR,sR,sR,sR,sR,sR,sR,sR,sR,sR,sR,sR,trivial⟩ bb5)
 <| .new fun b5=>.pick [5,6,7,8,10,11]<|.call (Qa2 g x3 (by omega))<|
 .u 5 [b5]<|
 .jo J1 b5 [] [] ⟨sR,sR,sR,sR,sR,sR,sR,sR,sR,sR,sR,sR,sR,sR,sR,sR,sR,sR,sR,sR,sR,sR,sR,sR,sR,sR,sR,sR,sR,sR,sR,trivial⟩ bb5)
 <| fun j1 _=>(fun (b6:Nat)=>.u 2 [b3,b6]<|
 .call (Qem (Qaa f x3) (Qaa g x3) (Qed okf _) (Qed okg _))<|
 .r 1<|.r 2<|.br 73 (!(Qav g x3)) (fun q4=>have q4:=notT q4;have p4:=booF q4;.r 3<|.idx m (m:=(m:Int)) (xs:=(Qbe f g).map intA) (e:=intA x3) rfl (map_some hx3)<|
 .r 3<|.app 80 V ((chgL f g m).map chgR) ([[aI x3,aB true,aI 0,aI 0,aI 0,aS ([]),aN]]) (by have:=Qcv f g m;simp only [W0a,W0b,W0f];omega) (by have:=Qcv f g m;simp only [W0a,W0b,W0f];omega) fun V1=>
 .r 1<|.run 3 [rng .i64 ((m:Int)+1)] ⟨Qah,trivial⟩<|
 .bk L3 (m,V) ((m+1),V1) (show (m+1)≤(Qbe f g).length from (by show _≤_;omega)) (show (Qbe f g).length-(m+1)<(Qbe f g).length-m from (by omega)) [(9,aI ((m:Int)+1)),(8,.rw 8 V1 (((chgL f g m).map chgR).length+([[aI x3,aB true,aI 0,aI 0,aI 0,aS ([]),aN]]:List (List AV)).length))] [(8,.row V1 152 7 (((chgL f g m).map chgR)++([[aI x3,aB true,aI 0,aI 0,aI 0,aS ([]),aN]])))] ⟨sR,sR,sO,W2p (W1z (AV.rw 8 V1) (by rw [Qcm hx3 (show chgD f g x3=some ⟨x3,true,nod0⟩ from by unfold chgD;rw [W1y q4])];simp)),sR,trivial⟩ ⟨sB,sB,⟨_,rfl,W2q (by rw [Qcm hx3 (show chgD f g x3=some ⟨x3,true,nod0⟩ from by unfold chgD;rw [W1y q4])];simp [chgR,nod0])⟩,trivial⟩)
 <| fun q4=>have q4:=notF q4;have p4:=booT q4;.r 3<|.br 84 (!(Qav f x3)) (fun q5=>have q5:=notT q5;have p5:=booF q5;.r 3<|.ord [0,1,2,3,4,5,6,7,8,9]<|.r 3<|.idx m (m:=(m:Int)) (xs:=(Qbe f g).map intA) (e:=intA x3) rfl (map_some hx3)<|
 .u 4 [b6]<|
 .app 80 V ((chgL f g m).map chgR) ([[aI x3,aB false,aI ((Qaa g x3).ino),aI ((Qaa g x3).kind),aI ((Qaa g x3).links),aS ((Qaa g x3).text),.sl 2 false ((Qaa g x3).l.map entA)]]) (by have:=Qcv f g m;simp only [W0a,W0b,W0f];omega) (by have:=Qcv f g m;simp only [W0a,W0b,W0f];omega) fun V2=>
 .r 1<|.run 3 [rng .i64 ((m:Int)+1)] ⟨Qah,trivial⟩<|
 .bk L3 (m,V) ((m+1),V2) (show (m+1)≤(Qbe f g).length from (by show _≤_;omega)) (show (Qbe f g).length-(m+1)<(Qbe f g).length-m from (by omega)) [(9,aI ((m:Int)+1)),(8,.rw 8 V2 (((chgL f g m).map chgR).length+([[aI x3,aB false,aI ((Qaa g x3).ino),aI ((Qaa g x3).kind),aI ((Qaa g x3).links),aS ((Qaa g x3).text),.sl 2 false ((Qaa g x3).l.map entA)]]:List (List AV)).length))] [(8,.row V2 152 7 (((chgL f g m).map chgR)++([[aI x3,aB false,aI ((Qaa g x3).ino),aI ((Qaa g x3).kind),aI ((Qaa g x3).links),aS ((Qaa g x3).text),.sl 2 false ((Qaa g x3).l.map entA)]])))] ⟨sR,sR,sO,W2p (W1z (AV.rw 8 V2) (by rw [Qcm hx3 (show chgD f g x3=some ⟨x3,false,Qaa g x3⟩ from by unfold chgD;rw [W1x (by simp [q4]),W1y (.inl q5)])];simp)),sR,trivial⟩ ⟨sB,sB,⟨_,rfl,W2q (by rw [Qcm hx3 (show chgD f g x3=some ⟨x3,false,Qaa g x3⟩ from by unfold chgD;rw [W1x (by simp [q4]),W1y (.inl q5)])];simp [chgR])⟩,trivial⟩)
 <| fun q5=>have q5:=notF q5;have p5:=booT q5;.r 3<|.br 87 (!(dP ((Qaa f x3)=(Qaa g x3)))) (fun q6=>have q6:=notT q6;have p6:=booF q6;.ord [0,1,2,3,4,5,6,7,8,9]<|.r 3<|.idx m (m:=(m:Int)) (xs:=(Qbe f g).map intA) (e:=intA x3) rfl (map_some hx3)<|
 .u 4 [b6]<|
 .app 80 V ((chgL f g m).map chgR) ([[aI x3,aB false,aI ((Qaa g x3).ino),aI ((Qaa g x3).kind),aI ((Qaa g x3).links),aS ((Qaa g x3).text),.sl 2 false ((Qaa g x3).l.map entA)]]) (by have:=Qcv f g m;simp only [W0a,W0b,W0f];omega) (by have:=Qcv f g m;simp only [W0a,W0b,W0f];omega) fun V3=>
 .r 1<|.run 3 [rng .i64 ((m:Int)+1)] ⟨Qah,trivial⟩<|
 .bk L3 (m,V) ((m+1),V3) (show (m+1)≤(Qbe f g).length from (by show _≤_;omega)) (show (Qbe f g).length-(m+1)<(Qbe f g).length-m from (by omega)) [(9,aI ((m:Int)+1)),(8,.rw 8 V3 (((chgL f g m).map chgR).length+([[aI x3,aB false,aI ((Qaa g x3).ino),aI ((Qaa g x3).kind),aI ((Qaa g x3).links),aS ((Qaa g x3).text),.sl 2 false ((Qaa g x3).l.map entA)]]:List (List AV)).length))] [(8,.row V3 152 7 (((chgL f g m).map chgR)++([[aI x3,aB false,aI ((Qaa g x3).ino),aI ((Qaa g x3).kind),aI ((Qaa g x3).links),aS ((Qaa g x3).text),.sl 2 false ((Qaa g x3).l.map entA)]])))] ⟨sR,sR,sO,W2p (W1z (AV.rw 8 V3) (by rw [Qcm hx3 (show chgD f g x3=some ⟨x3,false,Qaa g x3⟩ from by unfold chgD;rw [W1x (by simp [q4]),W1y (.inr (Qad.1 q6))])];simp)),sR,trivial⟩ ⟨sB,sB,⟨_,rfl,W2q (by rw [Qcm hx3 (show chgD f g x3=some ⟨x3,false,Qaa g x3⟩ from by unfold chgD;rw [W1x (by simp [q4]),W1y (.inr (Qad.1 q6))])];simp [chgR])⟩,trivial⟩)
 <| fun q6=>have q6:=notF q6;have p6:=booT q6;.run 3 [rng .i64 ((m:Int)+1)] ⟨Qah,trivial⟩<|
 .bk L3 (m,V) ((m+1),V) (show (m+1)≤(Qbe f g).length from (by show _≤_;omega)) (show (Qbe f g).length-(m+1)<(Qbe f g).length-m from (by omega)) [(9,aI ((m:Int)+1)),(8,.rw 8 V ((chgL f g m).length))] [(8,.row V 152 7 ((chgL f g m).map chgR))] ⟨sR,sR,sO,W2p (W1z (AV.rw 8 V) (by rw [Ql3 hx3 (show chgD f g x3=none from by unfold chgD;rw [W1x (by simp [q4]),W1x (fun h=>h.elim (fun h=>by rw [q5] at h;cases h) (fun h=>h (Qau.1 q6)))])])),sR,trivial⟩ ⟨sB,sB,⟨_,rfl,W2q (by rw [Ql3 hx3 (show chgD f g x3=none from by unfold chgD;rw [W1x (by simp [q4]),W1x (fun h=>h.elim (fun h=>by rw [q5] at h;cases h) (fun h=>h (Qau.1 q6)))])])⟩,trivial⟩) j1)
 <| .new fun b7=>.pick [5,6,7,8,10,11]<|.call (Qa2 f x3 (by omega))<|
 .u 5 [b7]<|
 let J2:Jn (Nat):=⟨fun j2=>⟨[(2,.ptr 2 b1 0),(3,.ptr 3 b2 0),(9,aI (m:Int)),(8,.rw 8 V ((chgL f g m).length)),(5,.sl 1 false ((Qbe f g).map intA)),(45,aI (m:Int)),(46,.sl 1 false ((Qbe f g).map intA)),(47,aI ((Qbe f g).length:Int)),(48,aB true),(52,.agg (fsyA f)),(53,.sl 1 false ((Qbe f g).map intA)),(54,aI (m:Int)),(55,.dptr [aI x3]),(56,aI x3),(10,.ptr 10 b7 0),(57,.tup [.agg [aI ((Qaa f x3).ino),aI ((Qaa f x3).kind),aI ((Qaa f x3).links),aS ((Qaa f x3).text),.sl 2 false ((Qaa f x3).l.map entA)],aB (Qav f x3)]),(51,.tup [.agg [aI ((Qaa f x3).ino),aI ((Qaa f x3).kind),aI ((Qaa f x3).links),aS ((Qaa f x3).text),.sl 2 false ((Qaa f x3).l.map entA)],aB (Qav f x3)]),(58,.agg [aI ((Qaa f x3).ino),aI ((Qaa f x3).kind),aI ((Qaa f x3).links),aS ((Qaa f x3).text),.sl 2 false ((Qaa f x3).l.map entA)]),(59,aB (Qav f x3)),(11,aB (Qav f x3)),(61,.agg (fsyA g)),(62,.sl 1 false ((Qbe f g).map intA)),(63,aI (m:Int)),(64,.dptr [aI x3]),(65,aI x3),(66,.tup [.agg [aI ((Qaa g x3).ino),aI ((Qaa g x3).kind),aI ((Qaa g x3).links),aS ((Qaa g x3).text),.sl 2 false ((Qaa g x3).l.map entA)],aB (Qav g x3)]),(60,.tup [.agg [aI ((Qaa g x3).ino),aI ((Qaa g x3).kind),aI ((Qaa g x3).links),aS ((Qaa g x3).text),.sl 2 false ((Qaa g x3).l.map entA)],aB (Qav g x3)]),(67,.agg [aI ((Qaa g x3).ino),aI ((Qaa g x3).kind),aI ((Qaa g x3).links),aS ((Qaa g x3).text),.sl 2 false ((Qaa g x3).l.map entA)]),(68,aB (Qav g x3)),(12,.ptr 12 j2 0),(13,aB (Qav g x3))],[(2,.box b1 28 (fsyA f)),(3,.box b2 28 (fsyA g)),(8,.row V 152 7 ((chgL f g m).map chgR)),(10,.box b7 84 [aI ((Qaa f x3).ino),aI ((Qaa f x3).kind),aI ((Qaa f x3).links),aS ((Qaa f x3).text),.sl 2 false ((Qaa f x3).l.map entA)]),(12,.box j2 84 [aI ((Qaa g x3).ino),aI ((Qaa g x3).kind),aI ((Qaa g x3).links),aS ((Qaa g x3).text),.sl 2 false ((Qaa g x3).l.map entA)])]⟩,fun _=>True⟩
 .cut J2 (.pick [0,1,2,3,4]<|.u 3 [b2]<|
 .idx m (m:=(m:Int)) (xs:=(Qbe f g).map intA) (e:=intA x3) rfl (map_some hx3)<|
 .r 1<|.fork<|.alt (.call (Qa2 g x3 (by omega))<|
 .pick [6,7,8,9,10,11]<|.r 3<|.new fun b8=>.u 2 [b8]<|
 .jo J2 b8 [] [] ⟨sR,sR,sR,sR,sR,sR,sR,sR,sR,sR,sR,sR,sR,sR,sR,sR,sR,sR,sR,sR,sR,sR,sR,sR,sR,sR,sR,sR,sR,sR,sR,trivial⟩ bb5)
 <| .new fun b9=>.pick [5,6,7,8,10,11]<|.call (Qa2 g x3 (by omega))<|
 .u 5 [b9]<|
 .jo J2 b9 [] [] ⟨sR,sR,sR,sR,sR,sR,sR,sR,sR,sR,sR,sR,sR,sR,sR,sR,sR,sR,sR,sR,sR,sR,sR,sR,sR,sR,sR,sR,sR,sR,sR,trivial⟩ bb5)
 <| fun j2 _=>(fun (b10:Nat)=>.u 2 [b7,b10]<|
 .call (Qem (Qaa f x3) (Qaa g x3) (Qed okf _) (Qed okg _))<|
 .r 1<|.r 2<|.br 73 (!(Qav g x3)) (fun q7=>have q7:=notT q7;have p7:=booF q7;.r 3<|.idx m (m:=(m:Int)) (xs:=(Qbe f g).map intA) (e:=intA x3) rfl (map_some hx3)<|
 .r 3<|.app 80 V ((chgL f g m).map chgR) ([[aI x3,aB true,aI 0,aI 0,aI 0,aS ([]),aN]]) (by have:=Qcv f g m;simp only [W0a,W0b,W0f];omega) (by have:=Qcv f g m;simp only [W0a,W0b,W0f];omega) fun V4=>
 .r 1<|.run 3 [rng .i64 ((m:Int)+1)] ⟨Qah,trivial⟩<|
 .bk L3 (m,V) ((m+1),V4) (show (m+1)≤(Qbe f g).length from (by show _≤_;omega)) (show (Qbe f g).length-(m+1)<(Qbe f g).length-m from (by omega)) [(9,aI ((m:Int)+1)),(8,.rw 8 V4 (((chgL f g m).map chgR).length+([[aI x3,aB true,aI 0,aI 0,aI 0,aS ([]),aN]]:List (List AV)).length))] [(8,.row V4 152 7 (((chgL f g m).map chgR)++([[aI x3,aB true,aI 0,aI 0,aI 0,aS ([]),aN]])))] ⟨sR,sR,sO,W2p (W1z (AV.rw 8 V4) (by rw [Qcm hx3 (show chgD f g x3=some ⟨x3,true,nod0⟩ from by unfold chgD;rw [W1y q7])];simp)),sR,trivial⟩ ⟨sB,sB,⟨_,rfl,W2q (by rw [Qcm hx3 (show chgD f g x3=some ⟨x3,true,nod0⟩ from by unfold chgD;rw [W1y q7])];simp [chgR,nod0])⟩,trivial⟩)
 <| fun q7=>have q7:=notF q7;have p7:=booT q7;.r 3<|.br 84 (!(Qav f x3)) (fun q8=>have q8:=notT q8;have p8:=booF q8;.r 3<|.ord [0,1,2,3,4,5,6,7,8,9]<|.r 3<|.idx m (m:=(m:Int)) (xs:=(Qbe f g).map intA) (e:=intA x3) rfl (map_some hx3)<|
 .u 4 [b10]<|
 .app 80 V ((chgL f g m).map chgR) ([[aI x3,aB false,aI ((Qaa g x3).ino),aI ((Qaa g x3).kind),aI ((Qaa g x3).links),aS ((Qaa g x3).text),.sl 2 false ((Qaa g x3).l.map entA)]]) (by have:=Qcv f g m;simp only [W0a,W0b,W0f];omega) (by have:=Qcv f g m;simp only [W0a,W0b,W0f];omega) fun V5=>
 .r 1<|.run 3 [rng .i64 ((m:Int)+1)] ⟨Qah,trivial⟩<|
 .bk L3 (m,V) ((m+1),V5) (show (m+1)≤(Qbe f g).length from (by show _≤_;omega)) (show (Qbe f g).length-(m+1)<(Qbe f g).length-m from (by omega)) [(9,aI ((m:Int)+1)),(8,.rw 8 V5 (((chgL f g m).map chgR).length+([[aI x3,aB false,aI ((Qaa g x3).ino),aI ((Qaa g x3).kind),aI ((Qaa g x3).links),aS ((Qaa g x3).text),.sl 2 false ((Qaa g x3).l.map entA)]]:List (List AV)).length))] [(8,.row V5 152 7 (((chgL f g m).map chgR)++([[aI x3,aB false,aI ((Qaa g x3).ino),aI ((Qaa g x3).kind),aI ((Qaa g x3).links),aS ((Qaa g x3).text),.sl 2 false ((Qaa g x3).l.map entA)]])))] ⟨sR,sR,sO,W2p (W1z (AV.rw 8 V5) (by rw [Qcm hx3 (show chgD f g x3=some ⟨x3,false,Qaa g x3⟩ from by unfold chgD;rw [W1x (by simp [q7]),W1y (.inl q8)])];simp)),sR,trivial⟩ ⟨sB,sB,⟨_,rfl,W2q (by rw [Qcm hx3 (show chgD f g x3=some ⟨x3,false,Qaa g x3⟩ from by unfold chgD;rw [W1x (by simp [q7]),W1y (.inl q8)])];simp [chgR])⟩,trivial⟩)
 <| fun q8=>have q8:=notF q8;have p8:=booT q8;.r 3<|.br 87 (!(dP ((Qaa f x3)=(Qaa g x3)))) (fun q9=>have q9:=notT q9;have p9:=booF q9;.ord [0,1,2,3,4,5,6,7,8,9]<|.r 3<|.idx m (m:=(m:Int)) (xs:=(Qbe f g).map intA) (e:=intA x3) rfl (map_some hx3)<|
 .u 4 [b10]<|
 .app 80 V ((chgL f g m).map chgR) ([[aI x3,aB false,aI ((Qaa g x3).ino),aI ((Qaa g x3).kind),aI ((Qaa g x3).links),aS ((Qaa g x3).text),.sl 2 false ((Qaa g x3).l.map entA)]]) (by have:=Qcv f g m;simp only [W0a,W0b,W0f];omega) (by have:=Qcv f g m;simp only [W0a,W0b,W0f];omega) fun V6=>
 .r 1<|.run 3 [rng .i64 ((m:Int)+1)] ⟨Qah,trivial⟩<|
 .bk L3 (m,V) ((m+1),V6) (show (m+1)≤(Qbe f g).length from (by show _≤_;omega)) (show (Qbe f g).length-(m+1)<(Qbe f g).length-m from (by omega)) [(9,aI ((m:Int)+1)),(8,.rw 8 V6 (((chgL f g m).map chgR).length+([[aI x3,aB false,aI ((Qaa g x3).ino),aI ((Qaa g x3).kind),aI ((Qaa g x3).links),aS ((Qaa g x3).text),.sl 2 false ((Qaa g x3).l.map entA)]]:List (List AV)).length))] [(8,.row V6 152 7 (((chgL f g m).map chgR)++([[aI x3,aB false,aI ((Qaa g x3).ino),aI ((Qaa g x3).kind),aI ((Qaa g x3).links),aS ((Qaa g x3).text),.sl 2 false ((Qaa g x3).l.map entA)]])))] ⟨sR,sR,sO,W2p (W1z (AV.rw 8 V6) (by rw [Qcm hx3 (show chgD f g x3=some ⟨x3,false,Qaa g x3⟩ from by unfold chgD;rw [W1x (by simp [q7]),W1y (.inr (Qad.1 q9))])];simp)),sR,trivial⟩ ⟨sB,sB,⟨_,rfl,W2q (by rw [Qcm hx3 (show chgD f g x3=some ⟨x3,false,Qaa g x3⟩ from by unfold chgD;rw [W1x (by simp [q7]),W1y (.inr (Qad.1 q9))])];simp [chgR])⟩,trivial⟩)
 <| fun q9=>have q9:=notF q9;have p9:=booT q9;.run 3 [rng .i64 ((m:Int)+1)] ⟨Qah,trivial⟩<|
 .bk L3 (m,V) ((m+1),V) (show (m+1)≤(Qbe f g).length from (by show _≤_;omega)) (show (Qbe f g).length-(m+1)<(Qbe f g).length-m from (by omega)) [(9,aI ((m:Int)+1)),(8,.rw 8 V ((chgL f g m).length))] [(8,.row V 152 7 ((chgL f g m).map chgR))] ⟨sR,sR,sO,W2p (W1z (AV.rw 8 V) (by rw [Ql3 hx3 (show chgD f g x3=none from by unfold chgD;rw [W1x (by simp [q7]),W1x (fun h=>h.elim (fun h=>by rw [q8] at h;cases h) (fun h=>h (Qau.1 q9)))])])),sR,trivial⟩ ⟨sB,sB,⟨_,rfl,W2q (by rw [Ql3 hx3 (show chgD f g x3=none from by unfold chgD;rw [W1x (by simp [q7]),W1x (fun h=>h.elim (fun h=>by rw [q8] at h;cases h) (fun h=>h (Qau.1 q9)))])])⟩,trivial⟩) j2)
 <| fun p3=>.r 2<|.frz 8 [4] [] [V=V,(chgL f g m).length=((chgL f g m).map chgR).length] ⟨rfl,(by first | rfl | (simp;done) | (simp;omega)),trivial⟩<|
 .f (.sl 7 false ((Qbl f g).map chgA)) [] (.sl 7 false ((chgL f g m).map chgR)) (by
  rw [Zah (by omega)];exact Zhw Qml)) a3.1 a3.2 ha3) a2 ha2) a1 ha1)
end Go.Proofs.YtahlldgocpabjaaGreat

namespace Go.Proofs.YtahlldgocpabjaaGreat
open Go Go.RowKit Copyhold Go.Proofs.Tryz
open Copyhold.Name (Srt insE delE getE isAt)
theorem i0:I64 0:=⟨by decide,by decide⟩
theorem Qzp {k:Int} (h:0≤k) (h2:k≤1000000):I64 k:=⟨by omega,by omega⟩
def cA:Cal:=⟨6,1,0,0,0,[97],[],[]⟩
theorem cA_ok:OkCal cA:=⟨Qzp (by decide) (by decide),Qzp (by decide) (by decide),i0,i0,i0,by show 1≤_;omega,W0j _,W0j _⟩
noncomputable def fA:Fsy:=addF newF 1 [97] (addN newF Qmr)
theorem doA1:doF newF cA=(fA,⟨0,2,0,0,[],[]⟩):=by
 refine Qef (x:=(fA,⟨0,2,0,0,[],[]⟩)) ?_ rfl;rw [Qqp rfl];show addO newF cA Qmr=_;unfold addO;show ((if Qaw newF 1 [97] Qmr=0 then _ else _),(⟨Qaw newF 1 [97] Qmr,_,_,_,_,_⟩:Rep))=_;rw [Ql9,W1y rfl];rfl
theorem Qjd:Qan fA∧OkF fA∧fA.next=3∧(∃ d,atF fA 1=some d∧d.kind=2∧d.l=[⟨[97],2⟩])∧(fA.l.length:Int)=2:=by
 have hb:=Qqu Qfl Ql9;have ho:=Zmu (n:=Qmr) (s:=[97]) Qrs Qfl Zkj (by decide) Ql9 (by decide);refine ⟨hb.1,ho,?_,?_,?_⟩
 ·obtain ⟨d,A⟩:=Qsx Ql9;have hr:=Qaf Qfl;have hroot:atF newF 1=some Qjm:=rfl;unfold fA addF;rw [show (addN newF Qmr).ino=2 from rfl,Qee hroot];rw [Qnu]
  ·rw [show (setL newF Qjm (entL Qjm.l [97] 2)).next=2 from Qki (by decide)];rfl
  ·rw [show (setL newF Qjm (entL Qjm.l [97] 2)).next=2 from Qki (by decide)];rfl
 ·have hroot:atF newF 1=some Qjm:=rfl;have he:entE Qjm.l [97] 2=0:=Qd1 Zo0 (by decide) rfl (by decide);have hl:entL Qjm.l [97] 2=[⟨[97],2⟩]:=by unfold entL;rw [W1y he];rfl
  have hk:rowP Qjm.l:=Qck;obtain ⟨s1,s2,s3,s4⟩:=Qfk Qfl hroot rfl (Qsf (n:=2) hk Zo0 (by decide) rfl (by decide));refine ⟨Qbr Qjm (entL Qjm.l [97] 2),?_,rfl,hl⟩;unfold fA addF;rw [show (addN newF Qmr).ino=2 from rfl,Qee hroot,Qmm (Qaf s1),W1x (by decide),s4,W1y rfl]
 ·have:=Zo6;rw [W1y Ql9] at this;exact this
end Go.Proofs.YtahlldgocpabjaaGreat

namespace Go.Proofs.YtahlldgocpabjaaGreat
open Go Go.RowKit Copyhold Go.Proofs.Tryz
theorem Qlv (f:Fsy) (c:Cal):(Qaq f c).length≤6:=by
 unfold Qaq
 split
 ·simp
 ·exact W1a (Qka _) (Qn9 f c).2
theorem Qtl {l:List Cal} (h:Qfw l) {c:Cal} (hc:c∈l):c.name.length≤2000∧c.name2.length≤2000∧c.text.length≤2000:=by
 have h1:=h.1;have:txC c≤((l.take l.length).map txC).sum:=by rw [W13];exact Qlk hc
 unfold smS at h1;have e:txC c=c.name.length+c.name2.length+c.text.length:=rfl;omega
end Go.Proofs.YtahlldgocpabjaaGreat

namespace Go.Proofs.YtahlldgocpabjaaGreat
open Go Go.RowKit Copyhold Go.Proofs.Tryz
section
variable {α:Type}
def cutV (f:α→Int) (st:Int):List α→Nat
 | []=>0
 | x :: r=>if cutV f st r=0 then (if f x≤st then 1 else 0) else cutV f st r+1
theorem Qg0 (f:α→Int) (st:Int):∀ l:List α,cutV f st l≤l.length
 | []=>W0m _
 | x :: r=>by
  have:=Qg0 f st r;simp only [cutV,W0b]
  split
  ·split<;>omega
  ·omega
theorem Qg1 (f:α→Int) (st:Int):∀ (l:List α) (k:Nat),k≤l.length→(∀ j x,k≤j→l[j]?=some x→st<f x)→(k=0∨∃ x,l[k-1]?=some x∧f x≤st)→cutV f st l=k
 | [],k,hk,_,_=>by simp at hk;subst hk;rfl
 | x :: r,0,_,ha,_=>by
  have h1:=Qg1 f st r 0 (W0j _) (fun j y _ hy=>ha (j+1) y (W0j _) (by simpa using hy)) (.inl rfl);have h2:=ha 0 x (W0j _) rfl;simp only [cutV,h1,if_true];rw [W1x (by omega)]
 | x :: r,k+1,hk,ha,he=>by
  simp only [W0b] at hk;have ha':∀ j y,k≤j→r[j]?=some y→st<f y:=fun j y hj hy=>ha (j+1) y (by omega) (by simpa using hy);rcases he with he | ⟨y,hy,hle⟩
  ·omega
  ·cases k with
   | zero=>
    have h1:=Qg1 f st r 0 (W0j _) ha' (.inl rfl);simp at hy;subst hy;simp only [cutV,h1,if_true,W1y hle]
   | succ k=>
    have h1:=Qg1 f st r (k+1) (by omega) ha' (.inr ⟨y,by simpa using hy,hle⟩);simp only [cutV,h1];rfl
theorem Zi7 (f:α→Int) (st:Int) (l:List α):l.length≤l.length∧∀ j y,l.length≤j→l[j]?=some y→st<f y:=⟨W0m _,fun j y hj hy=>by have:=Qap hy;omega⟩
theorem Zi6 {f:α→Int} {st:Int} {l:List α} {k:Nat} {x:α} (hx:l[k-1]?=some x) (hk:k≤l.length) (h:∀ j y,k≤j→l[j]?=some y→st<f y) (hg:st<f x):k-1≤l.length∧∀ j y,k-1≤j→l[j]?=some y→st<f y:=
 ⟨by omega,fun j y hj hy=>by
  by_cases e:j=k-1
  ·subst e;rw [hx] at hy;obtain rfl:=W0c hy;exact hg
  ·exact h j y (by omega) hy⟩
def atD (f:α→Int) (st:Int) (l:List α):Option α:=if cutV f st l=0 then none else l[cutV f st l-1]?
def Zdm (f:α→Int) (most:Int) (l:List α) (i:Nat) (x:α):Prop:=1≤f x∧f x≤most∧∀ d,0<i→l[i-1]?=some d→f d<f x
def Qpf (f:α→Int) (most:Int) (l:List α):Prop:=1≤l.length∧AllQ (Zdm f most l) l
def Qs0 (f:α→Int) (l:List α) (k:Nat) (last:Int):Prop:=(k=0∧last=0)∨∃ d,0<k∧l[k-1]?=some d∧last=f d∧1≤last
theorem Qs0.pos {f:α→Int} {l:List α} {k:Nat} {last:Int} (h:Qs0 f l k last):0≤last:=by
 rcases h with ⟨_,h⟩ | ⟨d,_,_,_,h⟩<;>omega
theorem Qs0.step {f:α→Int} {l:List α} {k:Nat} {last:Int} {x:α} (h:Qs0 f l k last) (hx:l[k]?=some x) (hgt:¬ f x≤last):Qs0 f l (k+1) (f x):=
 .inr ⟨x,by omega,by simpa using hx,rfl,by have:=h.pos;omega⟩
theorem Qs0.lt {f:α→Int} {l:List α} {k:Nat} {last:Int} (h:Qs0 f l k last) {v:Int} (hgt:¬ v≤last):1≤v∧∀ d,0<k→l[k-1]?=some d→f d<v:=by
 refine ⟨by have:=h.pos;omega,fun d h0 hd=>?_⟩;rcases h with ⟨h,_⟩ | ⟨e,_,he,h1,_⟩
 ·omega
 ·rw [hd] at he;obtain rfl:=W0c he;omega
theorem Qs0.not {f:α→Int} {l:List α} {k:Nat} {last:Int} (h:Qs0 f l k last) {v:Int} (hle:v≤last):¬ (1≤v∧∀ d,0<k→l[k-1]?=some d→f d<v):=by
 rintro ⟨h1,h2⟩;rcases h with ⟨_,h⟩ | ⟨e,h0,he,h3,_⟩
 ·omega
 ·have:=h2 e h0 he;omega
end
def verP (ino:Int) (v:Ver):Prop:=(v.gone=true→v.n=nod0)∧(v.gone=false→nodP v.n∧v.n.ino=ino)
def Qqs (most:Int) (c:Chn):Prop:=1≤c.ino∧Qpf Ver.stamp most c.l∧AllQ (fun _ v=>verP c.ino v) c.l
def Zoz (s:Sto) (i:Nat) (c:Chn):Prop:=Qqs s.stamp c∧∀ d,0<i→s.l[i-1]?=some d→d.ino<c.ino
def Qb7 (s:Sto):Prop:=1≤s.stamp∧Qpf Cnt.stamp s.stamp s.nexts∧AllQ (fun _ (c:Cnt)=>1≤c.next) s.nexts∧AllQ (Zoz s) s.l
def Qbz (st:Int) (c:Chn):Option Nod:=match atD Ver.stamp st c.l with
 | some v=>if v.gone then none else some v.n
 | none=>none
def Qf8 (s:Sto) (st:Int):Int:=match atD Cnt.stamp st s.nexts with
 | some c=>c.next
 | none=>1
def Qa3 (s:Sto) (st:Int):Fsy:=⟨s.l.filterMap (Qbz st),Qf8 s st⟩
theorem Qe8 {st:Int} {c:Chn} {v:Ver} (h0:¬ cutV Ver.stamp st c.l=0) (hv:c.l[cutV Ver.stamp st c.l-1]?=some v):Qbz st c=if v.gone then none else some v.n:=by
 unfold Qbz atD;rw [W1x h0,hv]
theorem Qir {st:Int} {c:Chn} (h0:cutV Ver.stamp st c.l=0):Qbz st c=none:=by
 unfold Qbz atD;rw [W1y h0]
theorem Qzb {s:Sto} {st:Int} {c:Cnt} (h0:¬ cutV Cnt.stamp st s.nexts=0) (hc:s.nexts[cutV Cnt.stamp st s.nexts-1]?=some c):Qf8 s st=c.next:=by
 unfold Qf8 atD;rw [W1x h0,hc]
theorem Qqa {s:Sto} {st:Int} (h0:cutV Cnt.stamp st s.nexts=0):Qf8 s st=1:=by
 unfold Qf8 atD;rw [W1y h0]
def Qcx (s:Sto) (st:Int) (k:Nat):List Nod:=(s.l.take k).filterMap (Qbz st)
theorem Qkc {s:Sto} {st:Int} {k:Nat} {c:Chn} {n:Nod} (hc:s.l[k]?=some c) (h:Qbz st c=some n):Qcx s st (k+1)=Qcx s st k++[n]:=by
 unfold Qcx;rw [Qam hc,List.filterMap_append];simp [h]
theorem Qfx {s:Sto} {st:Int} {k:Nat} {c:Chn} (hc:s.l[k]?=some c) (h:Qbz st c=none):Qcx s st (k+1)=Qcx s st k:=by
 unfold Qcx;rw [Qam hc,List.filterMap_append];simp [h]
theorem Qmy (s:Sto) (st:Int) (k:Nat):(Qcx s st k).length≤k:=by
 have:=List.length_filterMap_le (Qbz st) (s.l.take k);rw [W0g] at this;unfold Qcx;omega
theorem Qkd {s:Sto} {st:Int} {k:Nat} (h:s.l.length≤k):Qcx s st k=s.l.filterMap (Qbz st):=by unfold Qcx;rw [Qat h]
def Qe3 (st:Int) (c:Chn):Bool:=c.l.any fun v=>decide (v.stamp>st)
def Qbg (s:Sto) (st:Int) (k:Nat):List Int:=((s.l.take k).filter (Qe3 st)).map Chn.ino
def Quf (s:Sto) (st:Int):Bool:=s.nexts.any fun c=>decide (c.stamp>st)
def Qbu (s:Sto) (st:Int):List Int:=if 1≤(Qbg s st s.l.length).length∨Quf s st=true then 0 :: Qbg s st s.l.length else []
theorem Qgu {s:Sto} {st:Int} {k:Nat} {c:Chn} (hc:s.l[k]?=some c) (h:Qe3 st c=true):Qbg s st (k+1)=Qbg s st k++[c.ino]:=by
 unfold Qbg;rw [Qam hc,W1k,W1t];simp [h]
theorem Qib {s:Sto} {st:Int} {k:Nat} {c:Chn} (hc:s.l[k]?=some c) (h:Qe3 st c=false):Qbg s st (k+1)=Qbg s st k:=by
 unfold Qbg;rw [Qam hc,W1k,W1t];simp [h]
theorem Qic (s:Sto) (st:Int) (k:Nat):(Qbg s st k).length≤k:=by
 have:=W2h (Qe3 st) (s.l.take k);rw [W0g] at this;unfold Qbg;rw [W0a];omega
theorem Qfc {s:Sto} {st:Int} {k:Nat} (h:s.l.length≤k):Qbg s st k=Qbg s st s.l.length:=by unfold Qbg;rw [Qat h,Qat (W0m _)]
section
variable {α:Type}
def idxF (p:α→Bool):List α→Int
 | []=>-1
 | x :: r=>if p x then 0 else if idxF p r<0 then -1 else idxF p r+1
theorem Qr3 (p:α→Bool):∀ l:List α,decide (idxF p l≥0)=l.any p
 | []=>rfl
 | x :: r=>by
  have:=Qr3 p r;simp only [idxF,List.any_cons,← this];by_cases hp:p x=true
  ·simp [hp]
  ·simp only [Bool.not_eq_true] at hp;simp only [hp,W0u,Bool.false_eq_true,if_false]
   split<;>simp<;>omega
theorem Qon (p:α→Bool):∀ l:List α,AllQ (fun _ x=>p x=false) l→idxF p l = -1
 | [],_=>rfl
 | x :: r,h=>by
  have h1:=h 0 x rfl;have h2:=Qon p r fun i e he=>h (i+1) e (by simpa using he);simp [idxF,h1,h2]
theorem Qxn (p:α→Bool):∀ (l:List α) (k:Nat) (x:α),Qba (fun _ x=>p x=false) l k→l[k]?=some x→p x=true→idxF p l=k
 | y :: r,0,x,_,hx,hp=>by
  simp at hx;subst hx;simp [idxF,hp]
 | y :: r,k+1,x,h,hx,hp=>by
  have h1:=h 0 y (by omega) rfl;have h2:=Qxn p r k x (fun i e hi he=>h (i+1) e (by omega) (by simpa using he)) (by simpa using hx) hp;simp [idxF,h1,h2];omega
theorem Qm8 {p:α→Bool} {l:List α} {k:Nat} {x:α} (hx:l[k]?=some x):(l.take (k+1)).any p=((l.take k).any p||p x):=by
 rw [Qam hx,List.any_append];simp
end
end Go.Proofs.YtahlldgocpabjaaGreat
