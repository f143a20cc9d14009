import Derived.Test.YtahlldgocpabjaaGreatMrgY
import Derived.Test.YtahlldgocpabjaaGreatMrgV
import Derived.Test.YtahlldgocpabjaaGreatMrgP
import Derived.Test.YtahlldgocpabjaaGreatMrgT
set_option maxRecDepth 100000
set_option maxHeartbeats 8000000
set_option linter.unusedVariables false
set_option linter.unusedSimpArgs false
namespace Go.Proofs.YtahlldgocpabjaaGreat
open Go Go.RowKit Copyhold Go.Proofs.Tryz
open Copyhold.Name (Srt insE delE getE isAt)
theorem Qz6 {f:Fsy} {d:Int} {s:Txt} (okf:OkF f) (hp:Qam f) (h:Qa3 f d s=0) (hz:¬ ((lookN f d s).l.length:Int)>0) :
  OkF (leaveF f d s)∧Qam (leaveF f d s)∧Qmt (leaveF f d s) (lookN f d s).ino=Qbd f d s (lookN f d s)∧Qbf f d s=0:=by
 obtain ⟨e,j,n,a1,a2,a3,a4,a5⟩:=(Qjj hp).1 h;have hn:=(Qfg a1 a2 a3 a4 a5).2;rw [hn] at hz ⊢;have hnl:n.l=[]:=List.eq_nil_of_length_eq_zero (by omega);have hnj:=Qc1 a5;have hne:¬ j=d:=fun ej=>by
  rw [ej,a1] at a5;obtain rfl:=Option.some.inj a5;rw [hnl] at a4;cases a4
 obtain ⟨l1,l2,l3,l4,l5⟩:=Qdl (s:=s) okf hp a1 a2;have hfl:Qcw n=false:=by unfold Qcw;rw [hnl];simp
 refine ⟨l1,l2,Qr7 ?_,?_⟩
 ·refine (Qfl ?_).2;rw [hnj,l5,if_neg hne];exact a5
 ·unfold Qbf;rw [Qso,if_pos h,hn,hfl];rfl
theorem Qz7 {f:Fsy} {d:Int} {s:Txt} (hp:Qam f) (h:Qa3 f d s=0) (hz:((lookN f d s).l.length:Int)>0):Qbf f d s=11:=by
 obtain ⟨e,j,n,a1,a2,a3,a4,a5⟩:=(Qjj hp).1 h;have hn:=(Qfg a1 a2 a3 a4 a5).2;unfold Qbf;rw [Qso,if_pos h];rw [hn] at hz ⊢;have hk:n.kind=2:=by
  by_cases hk:n.kind=2
  ·exact hk
  ·rw [Qew (Qbm hp a5).1 hk] at hz;simp at hz
 unfold Qcw Qae;rw [hk,decide_eq_true hz];rfl
theorem Zfp {f:Fsy} {d:Int} {s:Txt} (h:¬ Qa3 f d s=0):Qbf f d s=Qa3 f d s:=by unfold Qbf;rw [Qso,if_neg h]
theorem Qoh (f:Fsy) (d:Int) (s:Txt) (okf:OkF f) (hp:Qam f) (hs:s.length≤1000000):Qaf prog 121 [.agg (fsyA f),aI d,aS s] (.tup [.agg (fsyA (Qd6 f d s)),aI (Qbf f d s)]):=by
 have hl:=hp.1;have hr:=Qad hp;exact Qac func121 (
 .new fun b1=>.new fun b2=>.r 1<|.u 3 [b1]<|
 .call (Qdv f d s hp hs)<|
 .r 3<|.new fun b3=>.u 2 [b3]<|
 .r 2<|.br 18 ((Qa3 f d s) != 0) (fun q1=>have p1:=bneT q1;.u 4 [b1,b2]<|
 .f (.tup [.agg (fsyA (Qd6 f d s)),aI (Qbf f d s)]) [b2] (.tup [.agg (fsyA f),aI (Qa3 f d s)]) (by
  have e:=Zfp (bneT q1);have e2:Qd6 f d s=f:=if_neg (by rw [e];exact bneT q1);rw [e2,e];exact sR))
 <| fun q1=>have p1:=bneF q1;have h0:Qa3 f d s=0:=bneF q1;.u 3 [b3]<|
 .lm 23 ((lookN f d s).l) entA<|.r 1<|.bd 24 ((((lookN f d s).l).length:Int)>0) (fun p2=>.u 3 [b1,b2]<|
 .f (.tup [.agg (fsyA (Qd6 f d s)),aI (Qbf f d s)]) [b2] (.tup [.agg (fsyA f),aI 11]) (by
  have e:=Qz7 hp h0 (by omega);have e2:Qd6 f d s=f:=if_neg (by rw [e];decide);rw [e2,e];exact sR))
 <| fun p2=>have htl:=Qz6 okf hp h0 (by omega);.ord [0,1,2,4,5,3,6,7,8]<|.u 5 [b1,b3]<|
 .call (Qca f d s okf hp hs)<|
 .call (Qkd (leaveF f d s) (lookN f d s).ino htl.1 htl.2.1)<|
 .u 2 [b2]<|
 .f (.tup [.agg (fsyA (Qd6 f d s)),aI (Qbf f d s)]) [b2] (.tup [.agg [.sl 5 false ((Qmt (leaveF f d s) (lookN f d s).ino).l.map nodA),aI ((Qmt (leaveF f d s) (lookN f d s).ino).next)],aI 0]) (by
  have e2:Qd6 f d s=Qbd f d s (lookN f d s):=if_pos htl.2.2.2;rw [e2,htl.2.2.2,← htl.2.2.1];exact sR))
end Go.Proofs.YtahlldgocpabjaaGreat

namespace Go.Proofs.YtahlldgocpabjaaGreat
open Go Go.RowKit Copyhold Go.Proofs.Tryz
def midF (f:Fsy):Prop:=f.l.length+(f.l.map wN).sum≤260
theorem Dst.leM {f:Fsy} {U:List Int} (h:Dst f U) (hf:midF f):U.length≤260:=by
 have:=Qp1 h.1 h.2;rw [Qwy] at this;unfold midF at hf;omega
theorem UH.stepM {f:Fsy} {i:Int} {U:List Int} {p j:Nat} {z:Int} (hf:midF f) (h:UH f i U p) (hz:U[p]?=some z) (hj:(Qaa f z).l.length≤j):UH f i (addE U ((Qaa f z).l.take j)) (p+1):=by
 obtain ⟨h1,h2,h3⟩:=h;have hp:=Qan hz;have hl:=h1.leM hf;refine ⟨Qdg h1 z j,by have:=Qxr ((Qaa f z).l.take j) U;omega,?_⟩;rw [Qav hj,← h3,show 300-p=(300-(p+1))+1 from by omega];simp only [goU,hz]
theorem Qre {f:Fsy} (hf:midF f) (i:Int):(Qcr f i).length≤260:=
 (Zdi 300 0 (Qfc (Dst.nil f) fun e he=>Qfb he)).leM hf
theorem Zej {f:Fsy} (hf:midF f) (i:Int) (k:Nat):((f.l.take k).map (cntE i)).sum≤260:=by
 have:=Zei i f.l;have:=Qeq (cntE i) f.l k;unfold midF at hf;omega
theorem Quu (f:Fsy) (i:Int) (okf:OkF f) (hf:midF f):Qaf prog 86 [.agg (fsyA f),aI i] (aI (Qou f i:Int)):=by
 have hfl:=okf.2.1;exact Qac func86 (
 .new fun b1=>.r 1<|.r 1<|.r 1<|let L1:Lp (Nat):=⟨fun a1=>⟨[(1,aI i),(2,.ptr 2 b1 0),(6,aI (a1:Int)),(5,aI (((f.l.take a1).map (cntE i)).sum:Int))],[(2,.box b1 28 (fsyA f))]⟩,fun a1=>f.l.length-a1,fun a1=>a1≤f.l.length⟩
 .lp L1 0 (show 0≤f.l.length from Nat.zero_le _) [(6,aI 0),(5,aI 0)] [] ⟨sR,sR,sO,sO,trivial⟩ bb1 fun a1 ha1=>
 (fun (k:Nat) (hH1:k≤f.l.length)=>have hs1:=Zej hf i k;.u 4 [b1]<|
 .lm 11 f.l nodA<|.r 1<|.bd 12 ((k:Int)<(f.l.length:Int)) (fun p1=>.r 1<|.ex (Qfe (l:=f.l) (k:=k) (by omega)) fun x1 hx1=>
 have okx1:=okf.2.2 x1 (List.mem_of_getElem? hx1);have blx1:=okx1.2.2.2.2.1;let L2:Lp (Nat):=⟨fun a2=>⟨[(1,aI i),(2,.ptr 2 b1 0),(6,aI (k:Int)),(7,aI (a2:Int)),(5,aI ((((f.l.take k).map (cntE i)).sum+cntK i x1.l a2:Nat):Int))],[(2,.box b1 28 (fsyA f))]⟩,fun a2=>x1.l.length-a2,fun a2=>a2≤x1.l.length⟩
 .lp L2 0 (show 0≤x1.l.length from Nat.zero_le _) [(7,aI 0),(5,aI (((f.l.take k).map (cntE i)).sum:Int))] [] ⟨sR,sR,sR,sO,Sub.of_eq (congrArg aI (by simp [cntK])),trivial⟩ bb1 fun a2 ha2=>
 (fun (j:Nat) (hH2:j≤x1.l.length)=>have hs2:=Zmc i x1.l j;.u 4 [b1]<|
 .idx k (m:=(k:Int)) (xs:=f.l.map nodA) (e:=nodA x1) rfl (map_some hx1)<|
 .r 3<|.lm 22 x1.l entA<|.r 1<|.bd 23 ((j:Int)<(x1.l.length:Int)) (fun p2=>.u 3 [b1]<|
 .idx k (m:=(k:Int)) (xs:=f.l.map nodA) (e:=nodA x1) rfl (map_some hx1)<|
 .r 3<|.idxM x1.l entA j (m:=(j:Int)) rfl (by omega) fun x2 hx2=>
 .r 4<|.br 37 (x2.ino==i) (fun q3=>have p3:=beqT q3;.run 3 [rng .i64 (((((f.l.take k).map (cntE i)).sum+cntK i x1.l j:Nat):Int)+1)] ⟨Qaj (by omega) (by omega),trivial⟩<|
 .run 3 [rng .i64 ((j:Int)+1)] ⟨Qaj (by omega) (by omega),trivial⟩<|
 .bk L2 j (j+1) (show (j+1)≤x1.l.length from (by show _≤_;omega)) (show x1.l.length-(j+1)<x1.l.length-j from (by omega)) [(7,aI ((j:Int)+1)),(5,aI (((((f.l.take k).map (cntE i)).sum+cntK i x1.l j:Nat):Int)+1))] [] ⟨sR,sR,sR,sO,Sub.of_eq (congrArg aI (by rw [Zio hx2 q3]<;>omega)),trivial⟩ bb1)
 <| fun q3=>have p3:=beqF q3;.run 3 [rng .i64 ((j:Int)+1)] ⟨Qaj (by omega) (by omega),trivial⟩<|
 .bk L2 j (j+1) (show (j+1)≤x1.l.length from (by show _≤_;omega)) (show x1.l.length-(j+1)<x1.l.length-j from (by omega)) [(7,aI ((j:Int)+1)),(5,aI ((((f.l.take k).map (cntE i)).sum+cntK i x1.l j:Nat):Int))] [] ⟨sR,sR,sR,sO,Sub.of_eq (congrArg aI (by rw [Zmb hx2 q3]<;>omega)),trivial⟩ bb1)
 <| fun p2=>.run 3 [rng .i64 ((k:Int)+1)] ⟨Qaj (by omega) (by omega),trivial⟩<|
 .bk L1 k (k+1) (show (k+1)≤f.l.length from (by show _≤_;omega)) (show f.l.length-(k+1)<f.l.length-k from (by omega)) [(6,aI ((k:Int)+1)),(5,aI ((((f.l.take k).map (cntE i)).sum+cntK i x1.l j:Nat):Int))] [] ⟨sR,sR,sO,Sub.of_eq (congrArg aI (by rw [Qlf (cntE i) hx1,← Zip (i:=i) (n:=x1) (j:=j) (by omega)]<;>omega)),trivial⟩ bb1) a2 ha2)
 <| fun p1=>.r 2<|.f (aI (Qou f i:Int)) [] (aI (((f.l.take k).map (cntE i)).sum:Int)) (by exact Sub.of_eq (congrArg aI (by rw [Qav (by omega)];rfl)))) a1 ha1)
theorem Qlw (f:Fsy) (i:Int) (okf:OkF f) (hf:midF f):Qaf prog 85 [.agg (fsyA f),aI i] (.sl 1 false ((Qcr f i).map intA)):=by
 have hfl:=okf.2.1;have hfb:=fun i=>(Qf6 okf i).2.2.2.2.1;exact Qac func85 (
 .new fun b1=>.r 1<|.r 1<|.rowNil 5 5 3 1<|.u 2 [b1]<|
 .call (Qa9 f i (by omega))<|
 .r 3<|.new fun b2=>.u 2 [b2]<|
 .r 1<|let L1:Lp (Nat × Value):=⟨fun a1=>⟨[(2,.ptr 2 b1 0),(6,.ptr 6 b2 0),(8,aI (a1.1:Int)),(5,.rw 5 a1.2 ((addE [] ((Qaa f i).l.take a1.1)).length))],[(2,.box b1 28 (fsyA f)),(5,.row a1.2 3 1 ((addE [] ((Qaa f i).l.take a1.1)).map intA)),(6,.box b2 84 [aI ((Qaa f i).ino),aI ((Qaa f i).kind),aI ((Qaa f i).links),aS ((Qaa f i).text),.sl 2 false ((Qaa f i).l.map entA)])]⟩,fun a1=>(Qaa f i).l.length-a1.1,fun a1=>a1.1≤(Qaa f i).l.length⟩
 .lp L1 (0,(.slice none 0 0)) (show 0≤(Qaa f i).l.length from Nat.zero_le _) [(8,aI 0),(5,.rw 5 (.slice none 0 0) 0)] [(5,.row (.slice none 0 0) 3 1 ([]))] ⟨sR,sR,sO,Sub.of_eq (congrArg (AV.rw 5 (.slice none 0 0)) (by simp [addE])),trivial⟩ ⟨sB,⟨_,rfl,SubB.of_eq (by simp [addE])⟩,sB,trivial⟩ fun a1 ha1=>
 (fun (j:Nat) (V:Value) (hH1:j≤(Qaa f i).l.length)=>have hd1:=(Qdg (Dst.nil f) i j).leM hf;have hb1:=hfb i;.u 4 [b2]<|
 .lm 24 ((Qaa f i).l) entA<|.r 1<|.bd 25 ((j:Int)<(((Qaa f i).l).length:Int)) (fun p1=>.u 4 [b2]<|
 .idxM ((Qaa f i).l) entA j (m:=(j:Int)) rfl (by omega) fun x1 hx1=>
 .r 2<|.op (cbR prog 5) ((87,[.rw 5 V ((addE [] ((Qaa f i).l.take j)).length),aI x1.ino],some 35),(V,3,1,(addE [] ((Qaa f i).l.take j)).map intA)) (fun (_:Unit) σ=>σ.put (some 35) (aB (hasB (addE [] ((Qaa f i).l.take j)) x1.ino))) (Qpn (args':=[.sl 1 false ((addE [] ((Qaa f i).l.take j)).map intA),aI x1.ino]) ⟨Fz.row _ _ _ _ _ _ (by first | rfl | (simp;done) | (simp;omega)),Fz.refl _ _,trivial⟩ (Qjn (addE [] ((Qaa f i).l.take j)) x1.ino (by omega)) rfl) fun _=>
 .r 1<|.r 2<|.br 37 (!(hasB (addE [] ((Qaa f i).l.take j)) x1.ino)) (fun q2=>have q2:=notT q2;have p2:=booF q2;.u 4 [b2]<|
 .idx j (m:=(j:Int)) (xs:=(Qaa f i).l.map entA) (e:=entA x1) rfl (map_some hx1)<|
 .r 3<|.app 8 V ((addE [] ((Qaa f i).l.take j)).map intA) ([[aI x1.ino]]) (by simp only [List.length_map,List.length_cons,List.length_nil];omega) (by simp only [List.length_map,List.length_cons,List.length_nil];omega) fun V1=>
 .r 1<|.run 3 [rng .i64 ((j:Int)+1)] ⟨Qaj (by omega) (by omega),trivial⟩<|
 .bk L1 (j,V) ((j+1),V1) (show (j+1)≤(Qaa f i).l.length from (by show _≤_;omega)) (show (Qaa f i).l.length-(j+1)<(Qaa f i).l.length-j from (by omega)) [(8,aI ((j:Int)+1)),(5,.rw 5 V1 (((addE [] ((Qaa f i).l.take j)).map intA).length+([[aI x1.ino]]:List (List AV)).length))] [(5,.row V1 3 1 (((addE [] ((Qaa f i).l.take j)).map intA)++([[aI x1.ino]])))] ⟨sR,sR,sO,Sub.of_eq (congrArg (AV.rw 5 V1) (by rw [Qku hx1 q2];simp)),trivial⟩ ⟨sB,⟨_,rfl,SubB.of_eq (by rw [Qku hx1 q2];simp [intA])⟩,sB,trivial⟩)
 <| fun q2=>have q2:=notF q2;have p2:=booT q2;.run 3 [rng .i64 ((j:Int)+1)] ⟨Qaj (by omega) (by omega),trivial⟩<|
 .bk L1 (j,V) ((j+1),V) (show (j+1)≤(Qaa f i).l.length from (by show _≤_;omega)) (show (Qaa f i).l.length-(j+1)<(Qaa f i).l.length-j from (by omega)) [(8,aI ((j:Int)+1)),(5,.rw 5 V ((addE [] ((Qaa f i).l.take j)).length))] [(5,.row V 3 1 ((addE [] ((Qaa f i).l.take j)).map intA))] ⟨sR,sR,sO,Sub.of_eq (congrArg (AV.rw 5 V) (by rw [Qh2 hx1 q2])),trivial⟩ ⟨sB,⟨_,rfl,SubB.of_eq (by rw [Qh2 hx1 q2])⟩,sB,trivial⟩)
 <| fun p1=>.r 1<|let L2:Lp (Nat × List Int × Value):=⟨fun a2=>⟨[(2,.ptr 2 b1 0),(10,aI (a2.1:Int)),(5,.rw 5 a2.2.2 a2.2.1.length)],[(2,.box b1 28 (fsyA f)),(5,.row a2.2.2 3 1 (a2.2.1.map intA))]⟩,fun a2=>300-a2.1,fun a2=>UH f i a2.2.1 a2.1⟩
 .lp L2 (0,(addE [] ((Qaa f i).l.take j)),V) (show UH f i (addE [] ((Qaa f i).l.take j)) 0 from (UH.zero f i (by omega))) [(10,aI 0)] [] ⟨sR,sO,sR,trivial⟩ bb2 fun a2 ha2=>
 (fun (p:Nat) (U:List Int) (V:Value) (hH2:UH f i U p)=>have hu2:=hH2.1.leM hf;have hp2:=hH2.2.1;.r 4<|.bd 50 ((p:Int)<(U.length:Int)) (fun p3=>.st (rowR 5) (V,3,1,U.map intA) (fun _ σ=>σ) (Qbx 5 (by first | omega | (rw [List.length_map];omega) | (simp<;>omega))) fun a3r=>
 .pick [0,1,2,3,4]<|.u 3 [b1]<|
 .op (ixR prog) (5,V,U.length,1,(p:Int),some 57) (fun (_:Unit) σ=>σ.put (some 57) (.ep 5 V 1 p 0)) (Qe4 p a3r.2.1 (by omega) (by first | omega | (rw [List.length_map];omega) | (simp<;>omega))) fun _=>
 .ex (Qfe (l:=U) (k:=p) (by first | omega | (rw [List.length_map];omega) | (simp<;>omega))) fun x2 hx2=>
 .op (ldR prog) (V,1,p,0,V,1,U.map intA,3,some 58) (fun (_:Unit) σ=>σ.put (some 58) (aI x2)) (Qpm (intA x2) (map_some hx2) (by kernel_rfl)) fun _=>
 .fork<|.alt (.call (Qa9 f x2 (by omega))<|
 .pick [6,7,8,9,10,11]<|.r 3<|.new fun b4=>.u 2 [b4]<|
 .r 1<|let L3:Lp (Nat × Value):=⟨fun a3=>⟨[(2,.ptr 2 b1 0),(10,aI (p:Int)),(11,.ptr 11 b4 0),(13,aI (a3.1:Int)),(5,.rw 5 a3.2 ((addE U ((Qaa f x2).l.take a3.1)).length))],[(2,.box b1 28 (fsyA f)),(5,.row a3.2 3 1 ((addE U ((Qaa f x2).l.take a3.1)).map intA)),(11,.box b4 84 [aI ((Qaa f x2).ino),aI ((Qaa f x2).kind),aI ((Qaa f x2).links),aS ((Qaa f x2).text),.sl 2 false ((Qaa f x2).l.map entA)])]⟩,fun a3=>(Qaa f x2).l.length-a3.1,fun a3=>a3.1≤(Qaa f x2).l.length⟩
 .lp L3 (0,V) (show 0≤(Qaa f x2).l.length from Nat.zero_le _) [(13,aI 0),(5,.rw 5 V U.length)] [(5,.row V 3 1 (U.map intA))] ⟨sR,sR,sR,sO,Sub.of_eq (congrArg (AV.rw 5 V) (by simp [addE])),trivial⟩ ⟨sB,⟨_,rfl,SubB.of_eq (by simp [addE])⟩,sB,trivial⟩ fun a3 ha3=>
 (fun (j:Nat) (Y:Value) (hH3:j≤(Qaa f x2).l.length)=>have hd3:=(Qdg hH2.1 x2 j).leM hf;have hb3:=hfb x2;.u 4 [b4]<|
 .lm 65 ((Qaa f x2).l) entA<|.r 1<|.bd 66 ((j:Int)<(((Qaa f x2).l).length:Int)) (fun p4=>.u 4 [b4]<|
 .idxM ((Qaa f x2).l) entA j (m:=(j:Int)) rfl (by omega) fun x3 hx3=>
 .r 2<|.op (cbR prog 5) ((87,[.rw 5 Y ((addE U ((Qaa f x2).l.take j)).length),aI x3.ino],some 76),(Y,3,1,(addE U ((Qaa f x2).l.take j)).map intA)) (fun (_:Unit) σ=>σ.put (some 76) (aB (hasB (addE U ((Qaa f x2).l.take j)) x3.ino))) (Qpn (args':=[.sl 1 false ((addE U ((Qaa f x2).l.take j)).map intA),aI x3.ino]) ⟨Fz.row _ _ _ _ _ _ (by first | rfl | (simp;done) | (simp;omega)),Fz.refl _ _,trivial⟩ (Qjn (addE U ((Qaa f x2).l.take j)) x3.ino (by omega)) rfl) fun _=>
 .r 1<|.r 2<|.br 78 (!(hasB (addE U ((Qaa f x2).l.take j)) x3.ino)) (fun q5=>have q5:=notT q5;have p5:=booF q5;.u 4 [b4]<|
 .idx j (m:=(j:Int)) (xs:=(Qaa f x2).l.map entA) (e:=entA x3) rfl (map_some hx3)<|
 .r 3<|.app 8 Y ((addE U ((Qaa f x2).l.take j)).map intA) ([[aI x3.ino]]) (by simp only [List.length_map,List.length_cons,List.length_nil];omega) (by simp only [List.length_map,List.length_cons,List.length_nil];omega) fun V2=>
 .r 1<|.run 3 [rng .i64 ((j:Int)+1)] ⟨Qaj (by omega) (by omega),trivial⟩<|
 .bk L3 (j,Y) ((j+1),V2) (show (j+1)≤(Qaa f x2).l.length from (by show _≤_;omega)) (show (Qaa f x2).l.length-(j+1)<(Qaa f x2).l.length-j from (by omega)) [(13,aI ((j:Int)+1)),(5,.rw 5 V2 (((addE U ((Qaa f x2).l.take j)).map intA).length+([[aI x3.ino]]:List (List AV)).length))] [(5,.row V2 3 1 (((addE U ((Qaa f x2).l.take j)).map intA)++([[aI x3.ino]])))] ⟨sR,sR,sR,sO,Sub.of_eq (congrArg (AV.rw 5 V2) (by rw [Qku hx3 q5];simp)),trivial⟩ ⟨sB,⟨_,rfl,SubB.of_eq (by rw [Qku hx3 q5];simp [intA])⟩,sB,trivial⟩)
 <| fun q5=>have q5:=notF q5;have p5:=booT q5;.run 3 [rng .i64 ((j:Int)+1)] ⟨Qaj (by omega) (by omega),trivial⟩<|
 .bk L3 (j,Y) ((j+1),Y) (show (j+1)≤(Qaa f x2).l.length from (by show _≤_;omega)) (show (Qaa f x2).l.length-(j+1)<(Qaa f x2).l.length-j from (by omega)) [(13,aI ((j:Int)+1)),(5,.rw 5 Y ((addE U ((Qaa f x2).l.take j)).length))] [(5,.row Y 3 1 ((addE U ((Qaa f x2).l.take j)).map intA))] ⟨sR,sR,sR,sO,Sub.of_eq (congrArg (AV.rw 5 Y) (by rw [Qh2 hx3 q5])),trivial⟩ ⟨sB,⟨_,rfl,SubB.of_eq (by rw [Qh2 hx3 q5])⟩,sB,trivial⟩)
 <| fun p4=>.run 3 [rng .i64 ((p:Int)+1)] ⟨Qaj (by omega) (by omega),trivial⟩<|
 .bk L2 (p,U,V) ((p+1),(addE U ((Qaa f x2).l.take j)),Y) (show UH f i (addE U ((Qaa f x2).l.take j)) (p+1) from (UH.stepM hf hH2 hx2 (by omega))) (show 300-(p+1)<300-p from (by omega)) [(10,aI ((p:Int)+1))] [] ⟨sR,sO,sR,trivial⟩ bb2) a3.1 a3.2 ha3)
 <| .new fun b5=>.pick [5,6,7,8,10,11]<|.call (Qa9 f x2 (by omega))<|
 .u 5 [b5]<|
 .r 1<|let L3:Lp (Nat × Value):=⟨fun a3=>⟨[(2,.ptr 2 b1 0),(10,aI (p:Int)),(11,.ptr 11 b5 0),(13,aI (a3.1:Int)),(5,.rw 5 a3.2 ((addE U ((Qaa f x2).l.take a3.1)).length))],[(2,.box b1 28 (fsyA f)),(5,.row a3.2 3 1 ((addE U ((Qaa f x2).l.take a3.1)).map intA)),(11,.box b5 84 [aI ((Qaa f x2).ino),aI ((Qaa f x2).kind),aI ((Qaa f x2).links),aS ((Qaa f x2).text),.sl 2 false ((Qaa f x2).l.map entA)])]⟩,fun a3=>(Qaa f x2).l.length-a3.1,fun a3=>a3.1≤(Qaa f x2).l.length⟩
 .lp L3 (0,V) (show 0≤(Qaa f x2).l.length from Nat.zero_le _) [(13,aI 0),(5,.rw 5 V U.length)] [(5,.row V 3 1 (U.map intA))] ⟨sR,sR,sR,sO,Sub.of_eq (congrArg (AV.rw 5 V) (by simp [addE])),trivial⟩ ⟨sB,⟨_,rfl,SubB.of_eq (by simp [addE])⟩,sB,trivial⟩ fun a3 ha3=>
 (fun (j:Nat) (Y:Value) (hH3:j≤(Qaa f x2).l.length)=>have hd3:=(Qdg hH2.1 x2 j).leM hf;have hb3:=hfb x2;.u 4 [b5]<|
 .lm 65 ((Qaa f x2).l) entA<|.r 1<|.bd 66 ((j:Int)<(((Qaa f x2).l).length:Int)) (fun p6=>.u 4 [b5]<|
 .idxM ((Qaa f x2).l) entA j (m:=(j:Int)) rfl (by omega) fun x4 hx4=>
 .r 2<|.op (cbR prog 5) ((87,[.rw 5 Y ((addE U ((Qaa f x2).l.take j)).length),aI x4.ino],some 76),(Y,3,1,(addE U ((Qaa f x2).l.take j)).map intA)) (fun (_:Unit) σ=>σ.put (some 76) (aB (hasB (addE U ((Qaa f x2).l.take j)) x4.ino))) (Qpn (args':=[.sl 1 false ((addE U ((Qaa f x2).l.take j)).map intA),aI x4.ino]) ⟨Fz.row _ _ _ _ _ _ (by first | rfl | (simp;done) | (simp;omega)),Fz.refl _ _,trivial⟩ (Qjn (addE U ((Qaa f x2).l.take j)) x4.ino (by omega)) rfl) fun _=>
 .r 1<|.r 2<|.br 78 (!(hasB (addE U ((Qaa f x2).l.take j)) x4.ino)) (fun q7=>have q7:=notT q7;have p7:=booF q7;.u 4 [b5]<|
 .idx j (m:=(j:Int)) (xs:=(Qaa f x2).l.map entA) (e:=entA x4) rfl (map_some hx4)<|
 .r 3<|.app 8 Y ((addE U ((Qaa f x2).l.take j)).map intA) ([[aI x4.ino]]) (by simp only [List.length_map,List.length_cons,List.length_nil];omega) (by simp only [List.length_map,List.length_cons,List.length_nil];omega) fun V3=>
 .r 1<|.run 3 [rng .i64 ((j:Int)+1)] ⟨Qaj (by omega) (by omega),trivial⟩<|
 .bk L3 (j,Y) ((j+1),V3) (show (j+1)≤(Qaa f x2).l.length from (by show _≤_;omega)) (show (Qaa f x2).l.length-(j+1)<(Qaa f x2).l.length-j from (by omega)) [(13,aI ((j:Int)+1)),(5,.rw 5 V3 (((addE U ((Qaa f x2).l.take j)).map intA).length+([[aI x4.ino]]:List (List AV)).length))] [(5,.row V3 3 1 (((addE U ((Qaa f x2).l.take j)).map intA)++([[aI x4.ino]])))] ⟨sR,sR,sR,sO,Sub.of_eq (congrArg (AV.rw 5 V3) (by rw [Qku hx4 q7];simp)),trivial⟩ ⟨sB,⟨_,rfl,SubB.of_eq (by rw [Qku hx4 q7];simp [intA])⟩,sB,trivial⟩)
 <| fun q7=>have q7:=notF q7;have p7:=booT q7;.run 3 [rng .i64 ((j:Int)+1)] ⟨Qaj (by omega) (by omega),trivial⟩<|
 .bk L3 (j,Y) ((j+1),Y) (show (j+1)≤(Qaa f x2).l.length from (by show _≤_;omega)) (show (Qaa f x2).l.length-(j+1)<(Qaa f x2).l.length-j from (by omega)) [(13,aI ((j:Int)+1)),(5,.rw 5 Y ((addE U ((Qaa f x2).l.take j)).length))] [(5,.row Y 3 1 ((addE U ((Qaa f x2).l.take j)).map intA))] ⟨sR,sR,sR,sO,Sub.of_eq (congrArg (AV.rw 5 Y) (by rw [Qh2 hx4 q7])),trivial⟩ ⟨sB,⟨_,rfl,SubB.of_eq (by rw [Qh2 hx4 q7])⟩,sB,trivial⟩)
 <| fun p6=>.run 3 [rng .i64 ((p:Int)+1)] ⟨Qaj (by omega) (by omega),trivial⟩<|
 .bk L2 (p,U,V) ((p+1),(addE U ((Qaa f x2).l.take j)),Y) (show UH f i (addE U ((Qaa f x2).l.take j)) (p+1) from (UH.stepM hf hH2 hx2 (by omega))) (show 300-(p+1)<300-p from (by omega)) [(10,aI ((p:Int)+1))] [] ⟨sR,sO,sR,trivial⟩ bb2) a3.1 a3.2 ha3)
 <| fun p3=>.r 2<|.frz 5 [4] [] [V=V,U.length=(U.map intA).length] ⟨rfl,(by first | rfl | (simp;done) | (simp;omega)),trivial⟩<|
 .f (.sl 1 false ((Qcr f i).map intA)) [] (.sl 1 false (U.map intA)) (by exact (Sub.of_eq (by rw [UH.done hH2 (by omega)])).trans (Sub.loose _ _ _))) a2.1 a2.2.1 a2.2.2 ha2) a1.1 a1.2 ha1)
theorem Qid (f:Fsy) (okf:OkF f) (hf:midF f):Qaf prog 46 [.agg (fsyA f)] (aB (dP (Qeu f))):=by
 have hfl:=okf.2.1;have hul:=Qre hf 1;exact Qac func46 (let R:AV:=aB (dP (Qeu f));
 .new fun b1=>.r 1<|.u 1 [b1]<|
 .call (Qyb f okf)<|
 .r 1<|.r 3<|.br 15 (!(dP (Qam f))) (fun q1=>have q1:=notT q1;have p1:=booF q1;.r 29<|.r 1<|.f R [] (aB false) (by
  refine sF (fun h=>?_);obtain ⟨g,⟨n,hn,a,b,c⟩,_⟩:=h
  first | exact Qab.1 (by assumption) g | (have:=Qan hn;omega)))
 <| fun q1=>have q1:=notF q1;have p1:=booT q1;.u 3 [b1]<|
 .lm 18 f.l nodA<|.r 3<|.br 21 (decide ((f.l.length:Int)<1)) (fun q2=>have p2:=decT q2;.r 23<|.r 1<|.f R [] (aB false) (by
  refine sF (fun h=>?_);obtain ⟨g,⟨n,hn,a,b,c⟩,_⟩:=h
  first | exact Qab.1 (by assumption) g | (have:=Qan hn;omega)))
 <| fun q2=>have p2:=decF q2;.u 2 [b1]<|
 .idxM f.l nodA 0 (m:=0) rfl (by omega) fun x1 hx1=>
 have okx1:=okf.2.2 x1 (List.mem_of_getElem? hx1);have blx1:=okx1.2.2.2.2.1;.r 5<|.br 29 (x1.ino != 1) (fun q3=>have p3:=bneT q3;.r 15<|.r 1<|.f R [] (aB false) (by
  refine sF (fun h=>?_);obtain ⟨g,⟨n,hn,a,b,c⟩,_⟩:=h
  first | exact Qab.1 (by assumption) g | (have:=Qan hn;omega)| (rw [hx1] at hn;obtain rfl:=Option.some.inj hn;omega)))
 <| fun q3=>have p3:=bneF q3;.u 2 [b1]<|
 .idx 0 (m:=0) (xs:=f.l.map nodA) (e:=nodA x1) rfl (map_some hx1)<|
 .r 5<|.br 37 (x1.kind != 2) (fun q4=>have p4:=bneT q4;.r 7<|.r 1<|.f R [] (aB false) (by
  refine sF (fun h=>?_);obtain ⟨g,⟨n,hn,a,b,c⟩,_⟩:=h
  first | exact Qab.1 (by assumption) g | (have:=Qan hn;omega)| (rw [hx1] at hn;obtain rfl:=Option.some.inj hn;omega)))
 <| fun q4=>have p4:=bneF q4;.u 2 [b1]<|
 .idx 0 (m:=0) (xs:=f.l.map nodA) (e:=nodA x1) rfl (map_some hx1)<|
 .r 4<|.br 44 (x1.links != 0) (fun q5=>have p5:=bneT q5;.r 1<|.f R [] (aB false) (by
  refine sF (fun h=>?_);obtain ⟨g,⟨n,hn,a,b,c⟩,_⟩:=h
  first | exact Qab.1 (by assumption) g | (have:=Qan hn;omega)| (rw [hx1] at hn;obtain rfl:=Option.some.inj hn;omega)))
 <| fun q5=>have p5:=bneF q5;.u 1 [b1]<|
 .call (Qlw f 1 okf hf)<|
 .r 1<|.r 1<|let L1:Lp (Nat):=⟨fun a1=>⟨[(1,.ptr 1 b1 0),(4,.sl 1 false ((Qcr f 1).map intA)),(5,aI (a1:Int))],[(1,.box b1 28 (fsyA f))]⟩,fun a1=>f.l.length-a1,fun a1=>Qa1 (Qus f) f.l a1⟩
 .lp L1 0 (show Qa1 (Qus f) f.l 0 from (Qa1.zero _ _)) [(5,aI 0)] [] ⟨sR,sR,sO,trivial⟩ bb1 fun a1 ha1=>
 (fun (k:Nat) (hH1:Qa1 (Qus f) f.l k)=>.u 4 [b1]<|
 .lm 50 f.l nodA<|.r 1<|.br 51 (decide ((k:Int)<(f.l.length:Int))) (fun q6=>have p6:=decT q6;.u 3 [b1]<|
 .idxM f.l nodA k (m:=(k:Int)) rfl (by omega) fun x2 hx2=>
 have okx2:=okf.2.2 x2 (List.mem_of_getElem? hx2);have blx2:=okx2.2.2.2.2.1;.r 1<|.new fun b2=>.u 1 [b2]<|
 .ord [0,1,2,3,4,5,6]<|.u 5 [b2,b1,b2]<|
 .call (Quu f x2.ino okf hf)<|
 .r 1<|.br 65 (x2.links != (Qou f x2.ino:Int)) (fun q7=>have p7:=bneT q7;.r 1<|.f R [] (aB false) (by
  refine sF (fun h=>?_);have g:=(h.2.2.at hx2).1;omega))
 <| fun q7=>have p7:=bneF q7;.u 3 [b2]<|
 .call (Qjn (Qcr f 1) x2.ino (by omega))<|
 .r 1<|.r 3<|.br 72 (decide ((k:Int)>0)) (fun q8=>have p8:=decT q8;.u 4 [b2]<|
 .br 76 (decide (x2.links<1)) (fun q9=>have p9:=decT q9;.r 14<|.r 1<|.f (aB (dP (Qeu f))) [] (aB false) (by
  refine sF (fun h=>?_);have g:=(h.2.2.at hx2).2.1;rw [show Qk9 f k x2=false from by unfold Qk9;simp only [q8,q9,Bool.and_false,Bool.false_and,Bool.true_and,Bool.and_true,Bool.or_false,Bool.false_or,Bool.or_true,Bool.true_or,Bool.not_true,Bool.not_false]] at g;cases g))
 <| fun q9=>have p9:=decF q9;.u 4 [b2]<|
 .br 80 (x2.kind==2) (fun q10=>have p10:=beqT q10;.u 4 [b2]<|
 .br 84 (decide (x2.links>1)) (fun q11=>have p11:=decT q11;.r 6<|.r 1<|.f (aB (dP (Qeu f))) [] (aB false) (by
  refine sF (fun h=>?_);have g:=(h.2.2.at hx2).2.1;rw [show Qk9 f k x2=false from by unfold Qk9;simp only [q8,q9,q10,q11,Bool.and_false,Bool.false_and,Bool.true_and,Bool.and_true,Bool.or_false,Bool.false_or,Bool.or_true,Bool.true_or,Bool.not_true,Bool.not_false]] at g;cases g))
 <| fun q11=>have p11:=decF q11;.r 6<|.br 90 (!(hasB (Qcr f 1) x2.ino)) (fun q12=>have q12:=notT q12;have p12:=booF q12;.r 1<|.f (aB (dP (Qeu f))) [] (aB false) (by
  refine sF (fun h=>?_);have g:=(h.2.2.at hx2).2.1;rw [show Qk9 f k x2=false from by unfold Qk9;simp only [q8,q9,q10,q11,q12,Bool.and_false,Bool.false_and,Bool.true_and,Bool.and_true,Bool.or_false,Bool.false_or,Bool.or_true,Bool.true_or,Bool.not_true,Bool.not_false]] at g;cases g))
 <| fun q12=>have q12:=notF q12;have p12:=booT q12;.r 1<|let L2:Lp (Nat):=⟨fun a2=>⟨[(1,.ptr 1 b1 0),(4,.sl 1 false ((Qcr f 1).map intA)),(5,aI (k:Int)),(6,.ptr 6 b2 0),(8,aI (a2:Int))],[(1,.box b1 28 (fsyA f)),(6,.box b2 84 (nodA x2))]⟩,fun a2=>x2.l.length-a2,fun a2=>Qa1 (fun _ e=>Qau f e.ino=true) x2.l a2⟩
 .lp L2 0 (show Qa1 (fun _ e=>Qau f e.ino=true) x2.l 0 from Qa1.zero _ _) [(8,aI 0)] [] ⟨sR,sR,sR,sR,sO,trivial⟩ bb2 fun a2 ha2=>
 (fun (j:Nat) (hH2:Qa1 (fun _ e=>Qau f e.ino=true) x2.l j)=>.u 4 [b2]<|
 .lm 94 x2.l entA<|.r 1<|.br 95 (decide ((j:Int)<(x2.l.length:Int))) (fun q13=>have p13:=decT q13;.pick [0,1,2,3,4,5,6]<|.u 4 [b1,b2]<|
 .idxM x2.l entA j (m:=(j:Int)) rfl (by omega) fun x3 hx3=>
 .r 2<|.fork<|.alt (.call (Qa9 f x3.ino (by omega))<|
 .pick [8,9,10,11,12,13]<|.r 3<|.new fun b3=>.u 2 [b3]<|
 .r 2<|.br 110 (!(Qau f x3.ino)) (fun q14=>have q14:=notT q14;have p14:=booF q14;.r 1<|.f R [] (aB false) (by
  refine sF (fun h=>?_);have g:=(h.2.2.at hx2).2.2.at hx3;simp_all))
 <| fun q14=>have q14:=notF q14;have p14:=booT q14;.run 3 [rng .i64 ((j:Int)+1)] ⟨Qaj (by omega) (by omega),trivial⟩<|
 .bk L2 j (j+1) (show Qa1 (fun _ e=>Qau f e.ino=true) x2.l (j+1) from (hH2.step hx3 (by assumption))) (show x2.l.length-(j+1)<x2.l.length-j from (by omega)) [(8,aI ((j:Int)+1))] [] ⟨sR,sR,sR,sR,sO,trivial⟩ bb2)
 <| .new fun b4=>.pick [7,8,9,10,12,13]<|.call (Qa9 f x3.ino (by omega))<|
 .u 5 [b4]<|
 .r 2<|.br 110 (!(Qau f x3.ino)) (fun q15=>have q15:=notT q15;have p15:=booF q15;.r 1<|.f R [] (aB false) (by
  refine sF (fun h=>?_);have g:=(h.2.2.at hx2).2.2.at hx3;simp_all))
 <| fun q15=>have q15:=notF q15;have p15:=booT q15;.run 3 [rng .i64 ((j:Int)+1)] ⟨Qaj (by omega) (by omega),trivial⟩<|
 .bk L2 j (j+1) (show Qa1 (fun _ e=>Qau f e.ino=true) x2.l (j+1) from (hH2.step hx3 (by assumption))) (show x2.l.length-(j+1)<x2.l.length-j from (by omega)) [(8,aI ((j:Int)+1))] [] ⟨sR,sR,sR,sR,sO,trivial⟩ bb2)
 <| fun q13=>have p13:=decF q13;.run 3 [rng .i64 ((k:Int)+1)] ⟨Qaj (by omega) (by omega),trivial⟩<|
 .bk L1 k (k+1) (show Qa1 (Qus f) f.l (k+1) from (hH1.step hx2 ⟨by omega,(by unfold Qk9;simp only [q8,q9,q10,q11,q12,Bool.and_false,Bool.false_and,Bool.true_and,Bool.and_true,Bool.or_false,Bool.false_or,Bool.or_true,Bool.true_or,Bool.not_true,Bool.not_false]),hH2.full (by omega)⟩)) (show f.l.length-(k+1)<f.l.length-k from (by omega)) [(5,aI ((k:Int)+1))] [] ⟨sR,sR,sO,trivial⟩ bb1) a2 ha2)
 <| fun q10=>have p10:=beqF q10;.r 10<|.r 1<|let L2:Lp (Nat):=⟨fun a2=>⟨[(1,.ptr 1 b1 0),(4,.sl 1 false ((Qcr f 1).map intA)),(5,aI (k:Int)),(6,.ptr 6 b2 0),(8,aI (a2:Int))],[(1,.box b1 28 (fsyA f)),(6,.box b2 84 (nodA x2))]⟩,fun a2=>x2.l.length-a2,fun a2=>Qa1 (fun _ e=>Qau f e.ino=true) x2.l a2⟩
 .lp L2 0 (show Qa1 (fun _ e=>Qau f e.ino=true) x2.l 0 from Qa1.zero _ _) [(8,aI 0)] [] ⟨sR,sR,sR,sR,sO,trivial⟩ bb2 fun a2 ha2=>
 (fun (j:Nat) (hH2:Qa1 (fun _ e=>Qau f e.ino=true) x2.l j)=>.u 4 [b2]<|
 .lm 94 x2.l entA<|.r 1<|.br 95 (decide ((j:Int)<(x2.l.length:Int))) (fun q16=>have p16:=decT q16;.pick [0,1,2,3,4,5,6]<|.u 4 [b1,b2]<|
 .idxM x2.l entA j (m:=(j:Int)) rfl (by omega) fun x4 hx4=>
 .r 2<|.fork<|.alt (.call (Qa9 f x4.ino (by omega))<|
 .pick [8,9,10,11,12,13]<|.r 3<|.new fun b5=>.u 2 [b5]<|
 .r 2<|.br 110 (!(Qau f x4.ino)) (fun q17=>have q17:=notT q17;have p17:=booF q17;.r 1<|.f R [] (aB false) (by
  refine sF (fun h=>?_);have g:=(h.2.2.at hx2).2.2.at hx4;simp_all))
 <| fun q17=>have q17:=notF q17;have p17:=booT q17;.run 3 [rng .i64 ((j:Int)+1)] ⟨Qaj (by omega) (by omega),trivial⟩<|
 .bk L2 j (j+1) (show Qa1 (fun _ e=>Qau f e.ino=true) x2.l (j+1) from (hH2.step hx4 (by assumption))) (show x2.l.length-(j+1)<x2.l.length-j from (by omega)) [(8,aI ((j:Int)+1))] [] ⟨sR,sR,sR,sR,sO,trivial⟩ bb2)
 <| .new fun b6=>.pick [7,8,9,10,12,13]<|.call (Qa9 f x4.ino (by omega))<|
 .u 5 [b6]<|
 .r 2<|.br 110 (!(Qau f x4.ino)) (fun q18=>have q18:=notT q18;have p18:=booF q18;.r 1<|.f R [] (aB false) (by
  refine sF (fun h=>?_);have g:=(h.2.2.at hx2).2.2.at hx4;simp_all))
 <| fun q18=>have q18:=notF q18;have p18:=booT q18;.run 3 [rng .i64 ((j:Int)+1)] ⟨Qaj (by omega) (by omega),trivial⟩<|
 .bk L2 j (j+1) (show Qa1 (fun _ e=>Qau f e.ino=true) x2.l (j+1) from (hH2.step hx4 (by assumption))) (show x2.l.length-(j+1)<x2.l.length-j from (by omega)) [(8,aI ((j:Int)+1))] [] ⟨sR,sR,sR,sR,sO,trivial⟩ bb2)
 <| fun q16=>have p16:=decF q16;.run 3 [rng .i64 ((k:Int)+1)] ⟨Qaj (by omega) (by omega),trivial⟩<|
 .bk L1 k (k+1) (show Qa1 (Qus f) f.l (k+1) from (hH1.step hx2 ⟨by omega,(by unfold Qk9;simp only [q8,q9,q10,Bool.and_false,Bool.false_and,Bool.true_and,Bool.and_true,Bool.or_false,Bool.false_or,Bool.or_true,Bool.true_or,Bool.not_true,Bool.not_false]),hH2.full (by omega)⟩)) (show f.l.length-(k+1)<f.l.length-k from (by omega)) [(5,aI ((k:Int)+1))] [] ⟨sR,sR,sO,trivial⟩ bb1) a2 ha2)
 <| fun q8=>have p8:=decF q8;.r 18<|.r 1<|let L2:Lp (Nat):=⟨fun a2=>⟨[(1,.ptr 1 b1 0),(4,.sl 1 false ((Qcr f 1).map intA)),(5,aI (k:Int)),(6,.ptr 6 b2 0),(8,aI (a2:Int))],[(1,.box b1 28 (fsyA f)),(6,.box b2 84 (nodA x2))]⟩,fun a2=>x2.l.length-a2,fun a2=>Qa1 (fun _ e=>Qau f e.ino=true) x2.l a2⟩
 .lp L2 0 (show Qa1 (fun _ e=>Qau f e.ino=true) x2.l 0 from Qa1.zero _ _) [(8,aI 0)] [] ⟨sR,sR,sR,sR,sO,trivial⟩ bb2 fun a2 ha2=>
 (fun (j:Nat) (hH2:Qa1 (fun _ e=>Qau f e.ino=true) x2.l j)=>.u 4 [b2]<|
 .lm 94 x2.l entA<|.r 1<|.br 95 (decide ((j:Int)<(x2.l.length:Int))) (fun q19=>have p19:=decT q19;.pick [0,1,2,3,4,5,6]<|.u 4 [b1,b2]<|
 .idxM x2.l entA j (m:=(j:Int)) rfl (by omega) fun x5 hx5=>
 .r 2<|.fork<|.alt (.call (Qa9 f x5.ino (by omega))<|
 .pick [8,9,10,11,12,13]<|.r 3<|.new fun b7=>.u 2 [b7]<|
 .r 2<|.br 110 (!(Qau f x5.ino)) (fun q20=>have q20:=notT q20;have p20:=booF q20;.r 1<|.f R [] (aB false) (by
  refine sF (fun h=>?_);have g:=(h.2.2.at hx2).2.2.at hx5;simp_all))
 <| fun q20=>have q20:=notF q20;have p20:=booT q20;.run 3 [rng .i64 ((j:Int)+1)] ⟨Qaj (by omega) (by omega),trivial⟩<|
 .bk L2 j (j+1) (show Qa1 (fun _ e=>Qau f e.ino=true) x2.l (j+1) from (hH2.step hx5 (by assumption))) (show x2.l.length-(j+1)<x2.l.length-j from (by omega)) [(8,aI ((j:Int)+1))] [] ⟨sR,sR,sR,sR,sO,trivial⟩ bb2)
 <| .new fun b8=>.pick [7,8,9,10,12,13]<|.call (Qa9 f x5.ino (by omega))<|
 .u 5 [b8]<|
 .r 2<|.br 110 (!(Qau f x5.ino)) (fun q21=>have q21:=notT q21;have p21:=booF q21;.r 1<|.f R [] (aB false) (by
  refine sF (fun h=>?_);have g:=(h.2.2.at hx2).2.2.at hx5;simp_all))
 <| fun q21=>have q21:=notF q21;have p21:=booT q21;.run 3 [rng .i64 ((j:Int)+1)] ⟨Qaj (by omega) (by omega),trivial⟩<|
 .bk L2 j (j+1) (show Qa1 (fun _ e=>Qau f e.ino=true) x2.l (j+1) from (hH2.step hx5 (by assumption))) (show x2.l.length-(j+1)<x2.l.length-j from (by omega)) [(8,aI ((j:Int)+1))] [] ⟨sR,sR,sR,sR,sO,trivial⟩ bb2)
 <| fun q19=>have p19:=decF q19;.run 3 [rng .i64 ((k:Int)+1)] ⟨Qaj (by omega) (by omega),trivial⟩<|
 .bk L1 k (k+1) (show Qa1 (Qus f) f.l (k+1) from (hH1.step hx2 ⟨by omega,(by unfold Qk9;simp only [q8,Bool.and_false,Bool.false_and,Bool.true_and,Bool.and_true,Bool.or_false,Bool.false_or,Bool.or_true,Bool.true_or,Bool.not_true,Bool.not_false]),hH2.full (by omega)⟩)) (show f.l.length-(k+1)<f.l.length-k from (by omega)) [(5,aI ((k:Int)+1))] [] ⟨sR,sR,sO,trivial⟩ bb1) a2 ha2)
 <| fun q6=>have p6:=decF q6;.r 1<|.f R [] (aB true) (by exact sT ⟨Qas.1 (by assumption),⟨x1,hx1,by omega,by omega,by omega⟩,hH1.full (by omega)⟩)) a1 ha1)
theorem Qsh {f:Fsy} {i:Int} (hp:Qam f) (hf:midF f):∀ (n:Nat) {U:List Int} (p:Nat),Dst f U→260≤n+p→(∀ y∈Qa4 f i,hasB U y=true)→(∀ k z,k<p→U[k]?=some z→∀ y∈Qa4 f z,hasB U y=true) →
  (∀ y∈Qa4 f i,hasB (goU f n U p) y=true)∧∀ z,hasB (goU f n U p) z=true→∀ y∈Qa4 f z,hasB (goU f n U p) y=true
 | 0,U,p,hd,hn,hi,h=>by
  have hl:=hd.leM hf;refine ⟨hi,fun z hz=>?_⟩;obtain ⟨k,hk⟩:=List.getElem?_of_mem (Qhq.1 hz);have hk':U[k]?=some z:=hk;exact h k z (by have:=Qan hk';omega) hk'
 | n+1,U,p,hd,hn,hi,h=>by
  simp only [goU]
  split
  ·rename_i y hy;have mono:∀ z,hasB U z=true→hasB (addE U (Qaa f y).l) z=true:=fun z hz=>Qnr.2 (.inl hz);refine Qsh hp hf n (p+1) (Qfc hd fun e he=>Qfb he) (by omega) (fun z hz=>mono z (hi z hz)) fun k z hk hz w hw=>?_;by_cases hkp:k<p
   ·have hk2:k<U.length:=by have:=Qan hy;omega
    have e:U[k]?=some z:=by
     have:=Qlu (l:=(Qaa f y).l) (List.getElem?_eq_getElem hk2);rw [this] at hz;rw [List.getElem?_eq_getElem hk2];exact hz
    exact mono w (h k z hkp e w hw)
   ·have e:k=p:=by omega
    subst e;rw [Qlu hy] at hz;obtain rfl:=Option.some.inj hz;exact Qnr.2 (.inr (by rw [Qgz hp];exact hw))
  ·rename_i hnone;refine ⟨hi,fun z hz=>?_⟩;obtain ⟨k,hk⟩:=List.getElem?_of_mem (Qhq.1 hz);have:U.length≤p:=by
    cases Nat.lt_or_ge p U.length with
    | inl hlt=>rw [List.getElem?_eq_getElem hlt] at hnone;cases hnone
    | inr hge=>exact hge
   exact h k z (by have:=Qan hk;omega) hk
theorem Qn5 {f:Fsy} {i z:Int} (hp:Qam f) (hf:midF f):hasB (Qcr f i) z=true↔Reach f i z:=by
 have h0:∀ y,hasB (addE [] (Qaa f i).l) y=true↔y∈Qa4 f i:=fun y=>by
  rw [Qnr,Qgz hp];simp [hasB]
 refine ⟨Qm5 hp 300 0 (fun y hy=>.one ((h0 y).1 hy)) z,fun h=>?_⟩;obtain ⟨g1,g2⟩:=Qsh (i:=i) hp hf 300 0 (Qfc (Dst.nil f) fun e he=>Qfb he) (by omega) (fun y hy=>(h0 y).2 hy) (fun k z hk=>absurd hk (Nat.not_lt_zero k));have main:∀ a b,Reach f a b→(∀ y∈Qa4 f a,hasB (Qcr f i) y=true)→hasB (Qcr f i) b=true:=by
  intro a b hab
  induction hab with
  | one h=>exact fun hk=>hk _ h
  | more h _ ih=>exact fun hk=>ih (g2 _ (hk _ h))
 exact main i z h g1
theorem Qn6 {f:Fsy} (hf:midF f) (T:TreeP f):Qeu f:=by
 have hp:=T.rows;have hr:=Qad hp;obtain ⟨_,⟨n0,h2,h3,h4,h5⟩,_⟩:=Qei.2 T;refine ⟨hp,⟨n0,h2,h3,h4,h5⟩,fun j n hj=>?_⟩;have hn:=Qvq hr (List.mem_of_getElem? hj);have hn1:=((Qbg.1 hp).2.2.1 n (List.mem_of_getElem? hj)).1;refine ⟨by rw [Qr2 hp];exact T.cnt _ n hn,?_,fun k e he=>?_⟩
 ·unfold Qk9;by_cases hj0:j=0
  ·rw [hj0];rfl
  ·have hi:¬ n.ino=1:=(Ze1 (i:=0) hr h2 h3 (List.mem_of_getElem? (i:=j-1) (by rw [List.getElem?_drop,show 1+(j-1)=j from by omega];exact hj))).2;have hp1:=T.pos _ n hn hi;rw [decide_eq_true (show (j:Int)>0 from by omega),decide_eq_false (show ¬ n.links<1 from by omega)];by_cases hk:n.kind=2
   ·obtain ⟨g1,g2⟩:=T.dir _ n hn hk hi;rw [(Qn5 hp hf).2 g2,decide_eq_false (show ¬ n.links>1 from by omega)];simp
   ·have:(n.kind==2)=false:=by simpa using hk
    rw [this];simp
 ·by_cases hk:n.kind=2
  ·obtain ⟨⟨m,hm⟩,_⟩:=T.kid _ _ (Qf4 hn hk (List.mem_of_getElem? he) rfl);exact (Qfl hm).1
  ·rw [Qew hn1 hk] at he;cases he
end Go.Proofs.YtahlldgocpabjaaGreat
