import Derived.Test.YtahlldgocpabjaaGreatMrgM
set_option maxRecDepth 100000
set_option maxHeartbeats 8000000
set_option linter.unusedVariables false
set_option linter.unusedSimpArgs false
namespace Go.Proofs.YtahlldgocpabjaaGreat
open Go Go.RowKit Copyhold Go.Proofs.Tryz
theorem Qdx (f:Fsy) (n:Nod) (hn:I64 n.ino∧n.ino<9223372036854775807) (hl:f.l.length≤90000) (hr:Qbv f.l):Qah prog 119 [.agg (fsyA f),.agg (nodA n)] (.agg (fsyA (putF f n))):=by
 have hn1:=hn.1.1;exact Qac func119 (
 .new fun b1=>.new fun b2=>.new fun b3=>.u 3 [b1]<|
 .new fun b4=>.u 1 [b4]<|
 .run 6 [b2=b2,rng .i64 (n.ino+1),b4=b4] ⟨rfl,Qai (by omega) (by omega),rfl,trivial⟩<|
 .bd 15 ((n.ino+1)>f.next) (fun p1=>.run 5 [b2=b2,rng .i64 (n.ino+1),b4=b4] ⟨rfl,Qai (by omega) (by omega),rfl,trivial⟩<|
 .rowNilB 100 5 0 84 5<|.r 1<|let L1:Lp (Nat × Value):=⟨fun a1=>⟨[(2,.ptr 2 b1 0),(3,.ptr 3 b2 0),(4,.ptr 4 b3 0),(5,.ptr 5 b4 0),(6,aI (a1.1:Int))],[(2,.box b1 28 (fsyA f)),(3,.box b2 84 (nodA n)),(4,.box b3 28 [aN,aI 0]),(5,.box b4 28 [.rw 100 a1.2 ((f.l.take a1.1).length),aI (n.ino+1)]),(100,.row a1.2 84 5 ((f.l.take a1.1).map nodA))]⟩,fun a1=>f.l.length-a1.1,fun a1=>a1.1≤f.l.length∧Qa3 (fun _ x=>x.ino<n.ino) f.l a1.1⟩
 .lp L1 (0,.slice none 0 0) ⟨Nat.zero_le _,Qa3.zero _ _⟩ [(6,aI 0)] [(5,.box b4 28 [.rw 100 (.slice none 0 0) 0,aI (n.ino+1)]),(100,.row (.slice none 0 0) 84 5 ([]))] ⟨sR,sR,sR,sR,sO,trivial⟩ ⟨sB,sB,sB,⟨_,rfl,SubB.boxs ⟨Sub.of_eq (congrArg (AV.rw 100 (.slice none 0 0)) (by simp)),sR,trivial⟩⟩,⟨_,rfl,SubB.of_eq (by simp)⟩,trivial⟩ fun a1 ha1=>
 (fun (k:Nat) (V:Value) (hH1:k≤f.l.length∧Qa3 (fun _ x=>x.ino<n.ino) f.l k)=>.ord [0,1,2,3,4,5,6,7,8,9,10,11,12,13,14,15]<|.u 4 [b1]<|
 .lm 23 f.l nodA<|.r 2<|.bd 25 ((k:Int)<(f.l.length:Int)) (fun p2=>.u 3 [b1]<|
 .idxM f.l nodA k (m:=(k:Int)) rfl (by omega) fun x1 hx1=>
 .u 6 [b2]<|
 .bd 35 (x1.ino<n.ino) (fun p3=>.ord [0,1,2,3,4,5,6,7,8,9,10]<|.u 5 [b4,b1]<|
 .idx k (m:=(k:Int)) (xs:=f.l.map nodA) (e:=nodA x1) rfl (map_some hx1)<|
 .r 2<|.app 64 V ((f.l.take k).map nodA) ([(nodA x1)]) (by first | (simp;omega) | (have:=Qcp f.l n k j (by omega) (by omega);simp only [List.length_map,List.length_cons,List.length_nil,List.length_take];omega) | (simp only [List.length_map,List.length_cons,List.length_nil,List.length_take];omega)) (by first | (simp;omega) | (have:=Qcp f.l n k j (by omega) (by omega);simp only [List.length_map,List.length_cons,List.length_nil,List.length_take];omega) | (simp only [List.length_map,List.length_cons,List.length_nil,List.length_take];omega)) fun V1=>
 .u 2 [b4]<|
 .run 3 [rng .i64 ((k:Int)+1)] ⟨Qai (by omega) (by omega),trivial⟩<|
 .bk L1 (k,V) ((k+1),V1) ⟨by omega,hH1.2.step hx1 (by omega)⟩ (show f.l.length-(k+1)<f.l.length-k from (by omega)) [(6,aI ((k:Int)+1))] [(5,.box b4 28 [.rw 100 V1 (((f.l.take k).map nodA).length+([(nodA x1)]:List (List AV)).length),aI (n.ino+1)]),(100,.row V1 84 5 (((f.l.take k).map nodA)++([(nodA x1)])))] ⟨sR,sR,sR,sR,sO,trivial⟩ ⟨sB,sB,sB,⟨_,rfl,SubB.boxs ⟨Sub.of_eq (congrArg (AV.rw 100 V1) (by rw [Qam hx1];simp)),sR,trivial⟩⟩,⟨_,rfl,SubB.of_eq (by rw [Qam hx1];simp [nodA])⟩,trivial⟩)
 <| fun p3=>.u 4 [b4,b2]<|
 .app 64 V ((f.l.take k).map nodA) ([(nodA n)]) (by first | (simp;omega) | (have:=Qcp f.l n k j (by omega) (by omega);simp only [List.length_map,List.length_cons,List.length_nil,List.length_take];omega) | (simp only [List.length_map,List.length_cons,List.length_nil,List.length_take];omega)) (by first | (simp;omega) | (have:=Qcp f.l n k j (by omega) (by omega);simp only [List.length_map,List.length_cons,List.length_nil,List.length_take];omega) | (simp only [List.length_map,List.length_cons,List.length_nil,List.length_take];omega)) fun V2=>
 .u 2 [b4]<|
 let L2:Lp (Nat × Value):=⟨fun a2=>⟨[(2,.ptr 2 b1 0),(3,.ptr 3 b2 0),(4,.ptr 4 b3 0),(5,.ptr 5 b4 0),(6,aI (a2.1:Int))],[(2,.box b1 28 (fsyA f)),(3,.box b2 84 (nodA n)),(4,.box b3 28 [aN,aI 0]),(5,.box b4 28 [.rw 100 a2.2 ((putK f.l n k a2.1).length),aI (n.ino+1)]),(100,.row a2.2 84 5 ((putK f.l n k a2.1).map nodA))]⟩,fun a2=>f.l.length-a2.1,fun a2=>k≤a2.1∧a2.1≤f.l.length⟩
 .lp L2 (k,V2) ⟨Nat.le_refl _,by omega⟩ [] [(5,.box b4 28 [.rw 100 V2 (((f.l.take k).map nodA).length+([(nodA n)]:List (List AV)).length),aI (n.ino+1)]),(100,.row V2 84 5 (((f.l.take k).map nodA)++([(nodA n)])))] sr5 ⟨sB,sB,sB,⟨_,rfl,SubB.boxs ⟨Sub.of_eq (congrArg (AV.rw 100 V2) (by simp [putK])),sR,trivial⟩⟩,⟨_,rfl,SubB.of_eq (by simp [putK,nodA])⟩,trivial⟩ fun a2 ha2=>
 (fun (j:Nat) (V:Value) (hH2:k≤j∧j≤f.l.length)=>.u 4 [b1]<|
 .lm 57 f.l nodA<|.r 1<|.bd 58 ((j:Int)<(f.l.length:Int)) (fun p4=>.ord [0,1,2,3,4,5,6,7,8]<|.u 3 [b1]<|
 .idxM f.l nodA j (m:=(j:Int)) rfl (by omega) fun x2 hx2=>
 .u 5 [b2]<|
 .br 67 (x2.ino != n.ino) (fun q5=>have p5:=bneT q5;.ord [0,1,2,3,4,5,6,7,8,9,10]<|.u 5 [b4,b1]<|
 .idx j (m:=(j:Int)) (xs:=f.l.map nodA) (e:=nodA x2) rfl (map_some hx2)<|
 .r 2<|.app 64 V ((putK f.l n k j).map nodA) ([(nodA x2)]) (by first | (simp;omega) | (have:=Qcp f.l n k j (by omega) (by omega);simp only [List.length_map,List.length_cons,List.length_nil,List.length_take];omega) | (simp only [List.length_map,List.length_cons,List.length_nil,List.length_take];omega)) (by first | (simp;omega) | (have:=Qcp f.l n k j (by omega) (by omega);simp only [List.length_map,List.length_cons,List.length_nil,List.length_take];omega) | (simp only [List.length_map,List.length_cons,List.length_nil,List.length_take];omega)) fun V3=>
 .u 2 [b4]<|
 .run 3 [rng .i64 ((j:Int)+1)] ⟨Qai (by omega) (by omega),trivial⟩<|
 .bk L2 (j,V) ((j+1),V3) (show k≤(j+1)∧(j+1)≤f.l.length from (by show _≤_∧_;omega)) (show f.l.length-(j+1)<f.l.length-j from (by omega)) [(6,aI ((j:Int)+1))] [(5,.box b4 28 [.rw 100 V3 (((putK f.l n k j).map nodA).length+([(nodA x2)]:List (List AV)).length),aI (n.ino+1)]),(100,.row V3 84 5 (((putK f.l n k j).map nodA)++([(nodA x2)])))] ⟨sR,sR,sR,sR,sO,trivial⟩ ⟨sB,sB,sB,⟨_,rfl,SubB.boxs ⟨Sub.of_eq (congrArg (AV.rw 100 V3) (by rw [Qfl hx2 (by omega) q5];simp)),sR,trivial⟩⟩,⟨_,rfl,SubB.of_eq (by rw [Qfl hx2 (by omega) q5];simp [nodA])⟩,trivial⟩)
 <| fun q5=>have p5:=bneF q5;.run 3 [rng .i64 ((j:Int)+1)] ⟨Qai (by omega) (by omega),trivial⟩<|
 .bk L2 (j,V) ((j+1),V) (show k≤(j+1)∧(j+1)≤f.l.length from (by show _≤_∧_;omega)) (show f.l.length-(j+1)<f.l.length-j from (by omega)) [(6,aI ((j:Int)+1))] [(5,.box b4 28 [.rw 100 V ((putK f.l n k j).length),aI (n.ino+1)]),(100,.row V 84 5 ((putK f.l n k j).map nodA))] ⟨sR,sR,sR,sR,sO,trivial⟩ ⟨sB,sB,sB,⟨_,rfl,SubB.boxs ⟨Sub.of_eq (congrArg (AV.rw 100 V) (by rw [Qhr hx2 (by omega) q5])),sR,trivial⟩⟩,⟨_,rfl,SubB.of_eq (by rw [Qhr hx2 (by omega) q5])⟩,trivial⟩)
 <| fun p4=>.u 2 [b4,b3]<|
 .frz 100 [4] [4] [V=V,(putK f.l n k j).length=((putK f.l n k j).map nodA).length] ⟨rfl,(by first | rfl | (simp;done) | (simp;omega)),trivial⟩<|
 .f (.agg (fsyA (putF f n))) [b3] (.agg [.sl 5 false ((putK f.l n k j).map nodA),aI (n.ino+1)]) (by exact Sub.aggs ⟨Sub.of_eq (by rw [Qme hr (by omega) (Qgc hH1.1 hH1.2 (fun x hx=>by rw [hx1] at hx;obtain rfl:=Option.some.inj hx;omega))];rfl),Sub.of_eq (congrArg aI (show _=(if n.ino+1>f.next then n.ino+1 else f.next) from (if_pos (by omega)).symm)),trivial⟩)) a2.1 a2.2 ha2)
 <| fun p2=>.r 10<|.u 4 [b4,b2]<|
 .app 64 V ((f.l.take k).map nodA) ([(nodA n)]) (by first | (simp;omega) | (have:=Qcp f.l n k j (by omega) (by omega);simp only [List.length_map,List.length_cons,List.length_nil,List.length_take];omega) | (simp only [List.length_map,List.length_cons,List.length_nil,List.length_take];omega)) (by first | (simp;omega) | (have:=Qcp f.l n k j (by omega) (by omega);simp only [List.length_map,List.length_cons,List.length_nil,List.length_take];omega) | (simp only [List.length_map,List.length_cons,List.length_nil,List.length_take];omega)) fun V4=>
 .u 2 [b4]<|
 let L2:Lp (Nat × Value):=⟨fun a2=>⟨[(2,.ptr 2 b1 0),(3,.ptr 3 b2 0),(4,.ptr 4 b3 0),(5,.ptr 5 b4 0),(6,aI (a2.1:Int))],[(2,.box b1 28 (fsyA f)),(3,.box b2 84 (nodA n)),(4,.box b3 28 [aN,aI 0]),(5,.box b4 28 [.rw 100 a2.2 ((putK f.l n k a2.1).length),aI (n.ino+1)]),(100,.row a2.2 84 5 ((putK f.l n k a2.1).map nodA))]⟩,fun a2=>f.l.length-a2.1,fun a2=>k≤a2.1∧a2.1≤f.l.length⟩
 .lp L2 (k,V4) ⟨Nat.le_refl _,by omega⟩ [] [(5,.box b4 28 [.rw 100 V4 (((f.l.take k).map nodA).length+([(nodA n)]:List (List AV)).length),aI (n.ino+1)]),(100,.row V4 84 5 (((f.l.take k).map nodA)++([(nodA n)])))] sr5 ⟨sB,sB,sB,⟨_,rfl,SubB.boxs ⟨Sub.of_eq (congrArg (AV.rw 100 V4) (by simp [putK])),sR,trivial⟩⟩,⟨_,rfl,SubB.of_eq (by simp [putK,nodA])⟩,trivial⟩ fun a2 ha2=>
 (fun (j:Nat) (V:Value) (hH2:k≤j∧j≤f.l.length)=>.u 4 [b1]<|
 .lm 57 f.l nodA<|.r 1<|.bd 58 ((j:Int)<(f.l.length:Int)) (fun p6=>.ord [0,1,2,3,4,5,6,7,8]<|.u 3 [b1]<|
 .idxM f.l nodA j (m:=(j:Int)) rfl (by omega) fun x3 hx3=>
 .u 5 [b2]<|
 .br 67 (x3.ino != n.ino) (fun q7=>have p7:=bneT q7;.ord [0,1,2,3,4,5,6,7,8,9,10]<|.u 5 [b4,b1]<|
 .idx j (m:=(j:Int)) (xs:=f.l.map nodA) (e:=nodA x3) rfl (map_some hx3)<|
 .r 2<|.app 64 V ((putK f.l n k j).map nodA) ([(nodA x3)]) (by first | (simp;omega) | (have:=Qcp f.l n k j (by omega) (by omega);simp only [List.length_map,List.length_cons,List.length_nil,List.length_take];omega) | (simp only [List.length_map,List.length_cons,List.length_nil,List.length_take];omega)) (by first | (simp;omega) | (have:=Qcp f.l n k j (by omega) (by omega);simp only [List.length_map,List.length_cons,List.length_nil,List.length_take];omega) | (simp only [List.length_map,List.length_cons,List.length_nil,List.length_take];omega)) fun V5=>
 .u 2 [b4]<|
 .run 3 [rng .i64 ((j:Int)+1)] ⟨Qai (by omega) (by omega),trivial⟩<|
 .bk L2 (j,V) ((j+1),V5) (show k≤(j+1)∧(j+1)≤f.l.length from (by show _≤_∧_;omega)) (show f.l.length-(j+1)<f.l.length-j from (by omega)) [(6,aI ((j:Int)+1))] [(5,.box b4 28 [.rw 100 V5 (((putK f.l n k j).map nodA).length+([(nodA x3)]:List (List AV)).length),aI (n.ino+1)]),(100,.row V5 84 5 (((putK f.l n k j).map nodA)++([(nodA x3)])))] ⟨sR,sR,sR,sR,sO,trivial⟩ ⟨sB,sB,sB,⟨_,rfl,SubB.boxs ⟨Sub.of_eq (congrArg (AV.rw 100 V5) (by rw [Qfl hx3 (by omega) q7];simp)),sR,trivial⟩⟩,⟨_,rfl,SubB.of_eq (by rw [Qfl hx3 (by omega) q7];simp [nodA])⟩,trivial⟩)
 <| fun q7=>have p7:=bneF q7;.run 3 [rng .i64 ((j:Int)+1)] ⟨Qai (by omega) (by omega),trivial⟩<|
 .bk L2 (j,V) ((j+1),V) (show k≤(j+1)∧(j+1)≤f.l.length from (by show _≤_∧_;omega)) (show f.l.length-(j+1)<f.l.length-j from (by omega)) [(6,aI ((j:Int)+1))] [(5,.box b4 28 [.rw 100 V ((putK f.l n k j).length),aI (n.ino+1)]),(100,.row V 84 5 ((putK f.l n k j).map nodA))] ⟨sR,sR,sR,sR,sO,trivial⟩ ⟨sB,sB,sB,⟨_,rfl,SubB.boxs ⟨Sub.of_eq (congrArg (AV.rw 100 V) (by rw [Qhr hx3 (by omega) q7])),sR,trivial⟩⟩,⟨_,rfl,SubB.of_eq (by rw [Qhr hx3 (by omega) q7])⟩,trivial⟩)
 <| fun p6=>.u 2 [b4,b3]<|
 .frz 100 [4] [4] [V=V,(putK f.l n k j).length=((putK f.l n k j).map nodA).length] ⟨rfl,(by first | rfl | (simp;done) | (simp;omega)),trivial⟩<|
 .f (.agg (fsyA (putF f n))) [b3] (.agg [.sl 5 false ((putK f.l n k j).map nodA),aI (n.ino+1)]) (by exact Sub.aggs ⟨Sub.of_eq (by rw [Qme hr (by omega) (Qgc hH1.1 hH1.2 (fun x hx=>by have:=Qan hx;omega))];rfl),Sub.of_eq (congrArg aI (show _=(if n.ino+1>f.next then n.ino+1 else f.next) from (if_pos (by omega)).symm)),trivial⟩)) a2.1 a2.2 ha2) a1.1 a1.2 ha1)
 <| fun p1=>.rowNilB 100 5 0 84 5<|.r 1<|let L1:Lp (Nat × Value):=⟨fun a1=>⟨[(2,.ptr 2 b1 0),(3,.ptr 3 b2 0),(4,.ptr 4 b3 0),(5,.ptr 5 b4 0),(6,aI (a1.1:Int))],[(2,.box b1 28 (fsyA f)),(3,.box b2 84 (nodA n)),(4,.box b3 28 [aN,aI 0]),(5,.box b4 28 [.rw 100 a1.2 ((f.l.take a1.1).length),aI f.next]),(100,.row a1.2 84 5 ((f.l.take a1.1).map nodA))]⟩,fun a1=>f.l.length-a1.1,fun a1=>a1.1≤f.l.length∧Qa3 (fun _ x=>x.ino<n.ino) f.l a1.1⟩
 .lp L1 (0,.slice none 0 0) ⟨Nat.zero_le _,Qa3.zero _ _⟩ [(6,aI 0)] [(5,.box b4 28 [.rw 100 (.slice none 0 0) 0,aI f.next]),(100,.row (.slice none 0 0) 84 5 ([]))] ⟨sR,sR,sR,sR,sO,trivial⟩ ⟨sB,sB,sB,⟨_,rfl,SubB.boxs ⟨Sub.of_eq (congrArg (AV.rw 100 (.slice none 0 0)) (by simp)),sR,trivial⟩⟩,⟨_,rfl,SubB.of_eq (by simp)⟩,trivial⟩ fun a1 ha1=>
 (fun (k:Nat) (V:Value) (hH1:k≤f.l.length∧Qa3 (fun _ x=>x.ino<n.ino) f.l k)=>.ord [0,1,2,3,4,5,6,7,8,9,10,11,12,13,14,15]<|.u 4 [b1]<|
 .lm 23 f.l nodA<|.r 2<|.bd 25 ((k:Int)<(f.l.length:Int)) (fun p8=>.u 3 [b1]<|
 .idxM f.l nodA k (m:=(k:Int)) rfl (by omega) fun x4 hx4=>
 .u 6 [b2]<|
 .bd 35 (x4.ino<n.ino) (fun p9=>.ord [0,1,2,3,4,5,6,7,8,9,10]<|.u 5 [b4,b1]<|
 .idx k (m:=(k:Int)) (xs:=f.l.map nodA) (e:=nodA x4) rfl (map_some hx4)<|
 .r 2<|.app 64 V ((f.l.take k).map nodA) ([(nodA x4)]) (by first | (simp;omega) | (have:=Qcp f.l n k j (by omega) (by omega);simp only [List.length_map,List.length_cons,List.length_nil,List.length_take];omega) | (simp only [List.length_map,List.length_cons,List.length_nil,List.length_take];omega)) (by first | (simp;omega) | (have:=Qcp f.l n k j (by omega) (by omega);simp only [List.length_map,List.length_cons,List.length_nil,List.length_take];omega) | (simp only [List.length_map,List.length_cons,List.length_nil,List.length_take];omega)) fun V6=>
 .u 2 [b4]<|
 .run 3 [rng .i64 ((k:Int)+1)] ⟨Qai (by omega) (by omega),trivial⟩<|
 .bk L1 (k,V) ((k+1),V6) ⟨by omega,hH1.2.step hx4 (by omega)⟩ (show f.l.length-(k+1)<f.l.length-k from (by omega)) [(6,aI ((k:Int)+1))] [(5,.box b4 28 [.rw 100 V6 (((f.l.take k).map nodA).length+([(nodA x4)]:List (List AV)).length),aI f.next]),(100,.row V6 84 5 (((f.l.take k).map nodA)++([(nodA x4)])))] ⟨sR,sR,sR,sR,sO,trivial⟩ ⟨sB,sB,sB,⟨_,rfl,SubB.boxs ⟨Sub.of_eq (congrArg (AV.rw 100 V6) (by rw [Qam hx4];simp)),sR,trivial⟩⟩,⟨_,rfl,SubB.of_eq (by rw [Qam hx4];simp [nodA])⟩,trivial⟩)
 <| fun p9=>.u 4 [b4,b2]<|
 .app 64 V ((f.l.take k).map nodA) ([(nodA n)]) (by first | (simp;omega) | (have:=Qcp f.l n k j (by omega) (by omega);simp only [List.length_map,List.length_cons,List.length_nil,List.length_take];omega) | (simp only [List.length_map,List.length_cons,List.length_nil,List.length_take];omega)) (by first | (simp;omega) | (have:=Qcp f.l n k j (by omega) (by omega);simp only [List.length_map,List.length_cons,List.length_nil,List.length_take];omega) | (simp only [List.length_map,List.length_cons,List.length_nil,List.length_take];omega)) fun V7=>
 .u 2 [b4]<|
 let L2:Lp (Nat × Value):=⟨fun a2=>⟨[(2,.ptr 2 b1 0),(3,.ptr 3 b2 0),(4,.ptr 4 b3 0),(5,.ptr 5 b4 0),(6,aI (a2.1:Int))],[(2,.box b1 28 (fsyA f)),(3,.box b2 84 (nodA n)),(4,.box b3 28 [aN,aI 0]),(5,.box b4 28 [.rw 100 a2.2 ((putK f.l n k a2.1).length),aI f.next]),(100,.row a2.2 84 5 ((putK f.l n k a2.1).map nodA))]⟩,fun a2=>f.l.length-a2.1,fun a2=>k≤a2.1∧a2.1≤f.l.length⟩
 .lp L2 (k,V7) ⟨Nat.le_refl _,by omega⟩ [] [(5,.box b4 28 [.rw 100 V7 (((f.l.take k).map nodA).length+([(nodA n)]:List (List AV)).length),aI f.next]),(100,.row V7 84 5 (((f.l.take k).map nodA)++([(nodA n)])))] sr5 ⟨sB,sB,sB,⟨_,rfl,SubB.boxs ⟨Sub.of_eq (congrArg (AV.rw 100 V7) (by simp [putK])),sR,trivial⟩⟩,⟨_,rfl,SubB.of_eq (by simp [putK,nodA])⟩,trivial⟩ fun a2 ha2=>
 (fun (j:Nat) (V:Value) (hH2:k≤j∧j≤f.l.length)=>.u 4 [b1]<|
 .lm 57 f.l nodA<|.r 1<|.bd 58 ((j:Int)<(f.l.length:Int)) (fun p10=>.ord [0,1,2,3,4,5,6,7,8]<|.u 3 [b1]<|
 .idxM f.l nodA j (m:=(j:Int)) rfl (by omega) fun x5 hx5=>
 .u 5 [b2]<|
 .br 67 (x5.ino != n.ino) (fun q11=>have p11:=bneT q11;.ord [0,1,2,3,4,5,6,7,8,9,10]<|.u 5 [b4,b1]<|
 .idx j (m:=(j:Int)) (xs:=f.l.map nodA) (e:=nodA x5) rfl (map_some hx5)<|
 .r 2<|.app 64 V ((putK f.l n k j).map nodA) ([(nodA x5)]) (by first | (simp;omega) | (have:=Qcp f.l n k j (by omega) (by omega);simp only [List.length_map,List.length_cons,List.length_nil,List.length_take];omega) | (simp only [List.length_map,List.length_cons,List.length_nil,List.length_take];omega)) (by first | (simp;omega) | (have:=Qcp f.l n k j (by omega) (by omega);simp only [List.length_map,List.length_cons,List.length_nil,List.length_take];omega) | (simp only [List.length_map,List.length_cons,List.length_nil,List.length_take];omega)) fun V8=>
 .u 2 [b4]<|
 .run 3 [rng .i64 ((j:Int)+1)] ⟨Qai (by omega) (by omega),trivial⟩<|
 .bk L2 (j,V) ((j+1),V8) (show k≤(j+1)∧(j+1)≤f.l.length from (by show _≤_∧_;omega)) (show f.l.length-(j+1)<f.l.length-j from (by omega)) [(6,aI ((j:Int)+1))] [(5,.box b4 28 [.rw 100 V8 (((putK f.l n k j).map nodA).length+([(nodA x5)]:List (List AV)).length),aI f.next]),(100,.row V8 84 5 (((putK f.l n k j).map nodA)++([(nodA x5)])))] ⟨sR,sR,sR,sR,sO,trivial⟩ ⟨sB,sB,sB,⟨_,rfl,SubB.boxs ⟨Sub.of_eq (congrArg (AV.rw 100 V8) (by rw [Qfl hx5 (by omega) q11];simp)),sR,trivial⟩⟩,⟨_,rfl,SubB.of_eq (by rw [Qfl hx5 (by omega) q11];simp [nodA])⟩,trivial⟩)
 <| fun q11=>have p11:=bneF q11;.run 3 [rng .i64 ((j:Int)+1)] ⟨Qai (by omega) (by omega),trivial⟩<|
 .bk L2 (j,V) ((j+1),V) (show k≤(j+1)∧(j+1)≤f.l.length from (by show _≤_∧_;omega)) (show f.l.length-(j+1)<f.l.length-j from (by omega)) [(6,aI ((j:Int)+1))] [(5,.box b4 28 [.rw 100 V ((putK f.l n k j).length),aI f.next]),(100,.row V 84 5 ((putK f.l n k j).map nodA))] ⟨sR,sR,sR,sR,sO,trivial⟩ ⟨sB,sB,sB,⟨_,rfl,SubB.boxs ⟨Sub.of_eq (congrArg (AV.rw 100 V) (by rw [Qhr hx5 (by omega) q11])),sR,trivial⟩⟩,⟨_,rfl,SubB.of_eq (by rw [Qhr hx5 (by omega) q11])⟩,trivial⟩)
 <| fun p10=>.u 2 [b4,b3]<|
 .frz 100 [4] [4] [V=V,(putK f.l n k j).length=((putK f.l n k j).map nodA).length] ⟨rfl,(by first | rfl | (simp;done) | (simp;omega)),trivial⟩<|
 .f (.agg (fsyA (putF f n))) [b3] (.agg [.sl 5 false ((putK f.l n k j).map nodA),aI f.next]) (by exact Sub.aggs ⟨Sub.of_eq (by rw [Qme hr (by omega) (Qgc hH1.1 hH1.2 (fun x hx=>by rw [hx4] at hx;obtain rfl:=Option.some.inj hx;omega))];rfl),Sub.of_eq (congrArg aI (show _=(if n.ino+1>f.next then n.ino+1 else f.next) from (if_neg (by omega)).symm)),trivial⟩)) a2.1 a2.2 ha2)
 <| fun p8=>.r 10<|.u 4 [b4,b2]<|
 .app 64 V ((f.l.take k).map nodA) ([(nodA n)]) (by first | (simp;omega) | (have:=Qcp f.l n k j (by omega) (by omega);simp only [List.length_map,List.length_cons,List.length_nil,List.length_take];omega) | (simp only [List.length_map,List.length_cons,List.length_nil,List.length_take];omega)) (by first | (simp;omega) | (have:=Qcp f.l n k j (by omega) (by omega);simp only [List.length_map,List.length_cons,List.length_nil,List.length_take];omega) | (simp only [List.length_map,List.length_cons,List.length_nil,List.length_take];omega)) fun V9=>
 .u 2 [b4]<|
 let L2:Lp (Nat × Value):=⟨fun a2=>⟨[(2,.ptr 2 b1 0),(3,.ptr 3 b2 0),(4,.ptr 4 b3 0),(5,.ptr 5 b4 0),(6,aI (a2.1:Int))],[(2,.box b1 28 (fsyA f)),(3,.box b2 84 (nodA n)),(4,.box b3 28 [aN,aI 0]),(5,.box b4 28 [.rw 100 a2.2 ((putK f.l n k a2.1).length),aI f.next]),(100,.row a2.2 84 5 ((putK f.l n k a2.1).map nodA))]⟩,fun a2=>f.l.length-a2.1,fun a2=>k≤a2.1∧a2.1≤f.l.length⟩
 .lp L2 (k,V9) ⟨Nat.le_refl _,by omega⟩ [] [(5,.box b4 28 [.rw 100 V9 (((f.l.take k).map nodA).length+([(nodA n)]:List (List AV)).length),aI f.next]),(100,.row V9 84 5 (((f.l.take k).map nodA)++([(nodA n)])))] sr5 ⟨sB,sB,sB,⟨_,rfl,SubB.boxs ⟨Sub.of_eq (congrArg (AV.rw 100 V9) (by simp [putK])),sR,trivial⟩⟩,⟨_,rfl,SubB.of_eq (by simp [putK,nodA])⟩,trivial⟩ fun a2 ha2=>
 (fun (j:Nat) (V:Value) (hH2:k≤j∧j≤f.l.length)=>.u 4 [b1]<|
 .lm 57 f.l nodA<|.r 1<|.bd 58 ((j:Int)<(f.l.length:Int)) (fun p12=>.ord [0,1,2,3,4,5,6,7,8]<|.u 3 [b1]<|
 .idxM f.l nodA j (m:=(j:Int)) rfl (by omega) fun x6 hx6=>
 .u 5 [b2]<|
 .br 67 (x6.ino != n.ino) (fun q13=>have p13:=bneT q13;.ord [0,1,2,3,4,5,6,7,8,9,10]<|.u 5 [b4,b1]<|
 .idx j (m:=(j:Int)) (xs:=f.l.map nodA) (e:=nodA x6) rfl (map_some hx6)<|
 .r 2<|.app 64 V ((putK f.l n k j).map nodA) ([(nodA x6)]) (by first | (simp;omega) | (have:=Qcp f.l n k j (by omega) (by omega);simp only [List.length_map,List.length_cons,List.length_nil,List.length_take];omega) | (simp only [List.length_map,List.length_cons,List.length_nil,List.length_take];omega)) (by first | (simp;omega) | (have:=Qcp f.l n k j (by omega) (by omega);simp only [List.length_map,List.length_cons,List.length_nil,List.length_take];omega) | (simp only [List.length_map,List.length_cons,List.length_nil,List.length_take];omega)) fun V10=>
 .u 2 [b4]<|
 .run 3 [rng .i64 ((j:Int)+1)] ⟨Qai (by omega) (by omega),trivial⟩<|
 .bk L2 (j,V) ((j+1),V10) (show k≤(j+1)∧(j+1)≤f.l.length from (by show _≤_∧_;omega)) (show f.l.length-(j+1)<f.l.length-j from (by omega)) [(6,aI ((j:Int)+1))] [(5,.box b4 28 [.rw 100 V10 (((putK f.l n k j).map nodA).length+([(nodA x6)]:List (List AV)).length),aI f.next]),(100,.row V10 84 5 (((putK f.l n k j).map nodA)++([(nodA x6)])))] ⟨sR,sR,sR,sR,sO,trivial⟩ ⟨sB,sB,sB,⟨_,rfl,SubB.boxs ⟨Sub.of_eq (congrArg (AV.rw 100 V10) (by rw [Qfl hx6 (by omega) q13];simp)),sR,trivial⟩⟩,⟨_,rfl,SubB.of_eq (by rw [Qfl hx6 (by omega) q13];simp [nodA])⟩,trivial⟩)
 <| fun q13=>have p13:=bneF q13;.run 3 [rng .i64 ((j:Int)+1)] ⟨Qai (by omega) (by omega),trivial⟩<|
 .bk L2 (j,V) ((j+1),V) (show k≤(j+1)∧(j+1)≤f.l.length from (by show _≤_∧_;omega)) (show f.l.length-(j+1)<f.l.length-j from (by omega)) [(6,aI ((j:Int)+1))] [(5,.box b4 28 [.rw 100 V ((putK f.l n k j).length),aI f.next]),(100,.row V 84 5 ((putK f.l n k j).map nodA))] ⟨sR,sR,sR,sR,sO,trivial⟩ ⟨sB,sB,sB,⟨_,rfl,SubB.boxs ⟨Sub.of_eq (congrArg (AV.rw 100 V) (by rw [Qhr hx6 (by omega) q13])),sR,trivial⟩⟩,⟨_,rfl,SubB.of_eq (by rw [Qhr hx6 (by omega) q13])⟩,trivial⟩)
 <| fun p12=>.u 2 [b4,b3]<|
 .frz 100 [4] [4] [V=V,(putK f.l n k j).length=((putK f.l n k j).map nodA).length] ⟨rfl,(by first | rfl | (simp;done) | (simp;omega)),trivial⟩<|
 .f (.agg (fsyA (putF f n))) [b3] (.agg [.sl 5 false ((putK f.l n k j).map nodA),aI f.next]) (by exact Sub.aggs ⟨Sub.of_eq (by rw [Qme hr (by omega) (Qgc hH1.1 hH1.2 (fun x hx=>by have:=Qan hx;omega))];rfl),Sub.of_eq (congrArg aI (show _=(if n.ino+1>f.next then n.ino+1 else f.next) from (if_neg (by omega)).symm)),trivial⟩)) a2.1 a2.2 ha2) a1.1 a1.2 ha1)
theorem Zco (f:Fsy) (i:Int) (hl:f.l.length≤90000) (hr:Qbv f.l):Qah prog 167 [.agg (fsyA f),aI i] (.agg (fsyA (outF f i))):=by
 exact Qac func167 (
 .new fun b1=>.new fun b2=>.u 3 [b1]<|
 .new fun b3=>.u 1 [b3]<|
 .rowNilB 100 5 0 84 5<|.r 1<|let L1:Lp (Nat × Value):=⟨fun a1=>⟨[(1,aI i),(2,.ptr 2 b1 0),(4,.ptr 4 b2 0),(5,.ptr 5 b3 0),(6,aI (a1.1:Int))],[(2,.box b1 28 (fsyA f)),(4,.box b2 28 [aN,aI 0]),(5,.box b3 28 [.rw 100 a1.2 ((outK f.l i a1.1).length),aI f.next]),(100,.row a1.2 84 5 ((outK f.l i a1.1).map nodA))]⟩,fun a1=>f.l.length-a1.1,fun a1=>a1.1≤f.l.length⟩
 .lp L1 (0,.slice none 0 0) (show 0≤f.l.length from Nat.zero_le _) [(6,aI 0)] [(5,.box b3 28 [.rw 100 (.slice none 0 0) 0,aI f.next]),(100,.row (.slice none 0 0) 84 5 ([]))] ⟨sR,sR,sR,sR,sO,trivial⟩ ⟨sB,sB,⟨_,rfl,SubB.boxs ⟨Sub.of_eq (congrArg (AV.rw 100 (.slice none 0 0)) (by simp [outK])),sR,trivial⟩⟩,⟨_,rfl,SubB.of_eq (by simp [outK])⟩,trivial⟩ fun a1 ha1=>
 (fun (k:Nat) (V:Value) (hH1:k≤f.l.length)=>.u 4 [b1]<|
 .lm 13 f.l nodA<|.r 1<|.bd 14 ((k:Int)<(f.l.length:Int)) (fun p1=>.u 3 [b1]<|
 .idxM f.l nodA k (m:=(k:Int)) rfl (by omega) fun x1 hx1=>
 .r 4<|.br 24 (x1.ino != i) (fun q2=>have p2:=bneT q2;.ord [0,1,2,3,4,5,6,7,8,9,10]<|.u 5 [b3,b1]<|
 .idx k (m:=(k:Int)) (xs:=f.l.map nodA) (e:=nodA x1) rfl (map_some hx1)<|
 .r 2<|.app 64 V ((outK f.l i k).map nodA) ([(nodA x1)]) (by have:=Zdo f.l i k;simp only [List.length_map,List.length_cons,List.length_nil];omega) (by have:=Zdo f.l i k;simp only [List.length_map,List.length_cons,List.length_nil];omega) fun V1=>
 .u 2 [b3]<|
 .run 3 [rng .i64 ((k:Int)+1)] ⟨Qai (by omega) (by omega),trivial⟩<|
 .bk L1 (k,V) ((k+1),V1) (show (k+1)≤f.l.length from (by show _≤_;omega)) (show f.l.length-(k+1)<f.l.length-k from (by omega)) [(6,aI ((k:Int)+1))] [(5,.box b3 28 [.rw 100 V1 (((outK f.l i k).map nodA).length+([(nodA x1)]:List (List AV)).length),aI f.next]),(100,.row V1 84 5 (((outK f.l i k).map nodA)++([(nodA x1)])))] ⟨sR,sR,sR,sR,sO,trivial⟩ ⟨sB,sB,⟨_,rfl,SubB.boxs ⟨Sub.of_eq (congrArg (AV.rw 100 V1) (by rw [Qxo hx1 q2];simp)),sR,trivial⟩⟩,⟨_,rfl,SubB.of_eq (by rw [Qxo hx1 q2];simp [nodA])⟩,trivial⟩)
 <| fun q2=>have p2:=bneF q2;.run 3 [rng .i64 ((k:Int)+1)] ⟨Qai (by omega) (by omega),trivial⟩<|
 .bk L1 (k,V) ((k+1),V) (show (k+1)≤f.l.length from (by show _≤_;omega)) (show f.l.length-(k+1)<f.l.length-k from (by omega)) [(6,aI ((k:Int)+1))] [(5,.box b3 28 [.rw 100 V ((outK f.l i k).length),aI f.next]),(100,.row V 84 5 ((outK f.l i k).map nodA))] ⟨sR,sR,sR,sR,sO,trivial⟩ ⟨sB,sB,⟨_,rfl,SubB.boxs ⟨Sub.of_eq (congrArg (AV.rw 100 V) (by rw [Zdn hx1 q2])),sR,trivial⟩⟩,⟨_,rfl,SubB.of_eq (by rw [Zdn hx1 q2])⟩,trivial⟩)
 <| fun p1=>.u 2 [b3,b2]<|
 .frz 100 [4] [4] [V=V,(outK f.l i k).length=((outK f.l i k).map nodA).length] ⟨rfl,(by first | rfl | (simp;done) | (simp;omega)),trivial⟩<|
 .f (.agg (fsyA (outF f i))) [b2] (.agg [.sl 5 false ((outK f.l i k).map nodA),aI f.next]) (by exact Sub.aggs ⟨Sub.of_eq (by rw [Zij hr (by omega)];rfl),sR,trivial⟩)) a1.1 a1.2 ha1)
theorem Qzr (f:Fsy) (okf:OkF f):Qah prog 84 [.agg (fsyA f)] (aB (dP (Qar f))):=by
 have hfl:=okf.2.1;exact Qac func84 (let R:AV:=aB (dP (Qar f));
 .new fun b1=>.r 1<|.u 3 [b1]<|
 .lm 7 f.l nodA<|.r 2<|.br 9 (decide ((f.l.length:Int)>256)) (fun q1=>have p1:=decT q1;.r 4<|.r 1<|.f R [] (aB false) (by
  refine sF (fun h=>?_);obtain ⟨g1,g2,g3⟩:=h;omega))
 <| fun q1=>have p1:=decF q1;.u 4 [b1]<|
 .br 13 (decide (f.next<1)) (fun q2=>have p2:=decT q2;.r 1<|.f R [] (aB false) (by
  refine sF (fun h=>?_);obtain ⟨g1,g2,g3⟩:=h;omega))
 <| fun q2=>have p2:=decF q2;.r 1<|let L1:Lp (Nat):=⟨fun a1=>⟨[(1,.ptr 1 b1 0),(3,aI (a1:Int))],[(1,.box b1 28 (fsyA f))]⟩,fun a1=>f.l.length-a1,fun a1=>a1≤f.l.length∧Qa3 (Zme f) f.l a1⟩
 .lp L1 0 ⟨Nat.zero_le _,Qa3.zero _ _⟩ [(3,aI 0)] [] ⟨sR,sO,trivial⟩ bb1 fun a1 ha1=>
 (fun (k:Nat) (hH1:k≤f.l.length∧Qa3 (Zme f) f.l k)=>.u 4 [b1]<|
 .lm 17 f.l nodA<|.r 1<|.br 18 (decide ((k:Int)<(f.l.length:Int))) (fun q3=>have p3:=decT q3;.u 3 [b1]<|
 .idxM f.l nodA k (m:=(k:Int)) rfl (by omega) fun x1 hx1=>
 have okx1:=okf.2.2 x1 (List.mem_of_getElem? hx1);.r 1<|.call (Qhm x1 okx1)<|
 .r 1<|.ord [0,1,2,3,4,5,6,7,8,9,10,11,12,13,14,15,16,17,18,19,20,21,22,23,24,25,26,27,28,29,30,31,32]<|.r 3<|.br 29 (!(dP (nodP x1))) (fun q4=>have q4:=notT q4;have p4:=booF q4;.r 30<|.r 1<|.f R [] (aB false) (by
  refine sF (fun h=>?_);obtain ⟨g1,g2,g3⟩:=h.2.2.at hx1
  first | omega | exact Qab.1 (by assumption) g1 ))
 <| fun q4=>have q4:=notF q4;have p4:=booT q4;.u 3 [b1]<|
 .idx k (m:=(k:Int)) (xs:=f.l.map nodA) (e:=nodA x1) rfl (map_some hx1)<|
 .u 7 [b1]<|
 .br 40 (decide (x1.ino≥f.next)) (fun q5=>have p5:=decT q5;.r 19<|.r 1<|.f R [] (aB false) (by
  refine sF (fun h=>?_);obtain ⟨g1,g2,g3⟩:=h.2.2.at hx1
  first | omega | exact Qab.1 (by assumption) g1 ))
 <| fun q5=>have p5:=decF q5;.r 3<|.br 43 (decide ((k:Int)>0)) (fun q6=>have p6:=decT q6;.run 4 [b1=b1,rng .i64 ((k:Int)-1)] ⟨rfl,Qai (by omega) (by omega),trivial⟩<|
 .idxM f.l nodA (k-1) (m:=(k:Int)-1) (by omega) (by omega) fun x2 hx2=>
 have okx2:=okf.2.2 x2 (List.mem_of_getElem? hx2);.u 5 [b1]<|
 .idx k (m:=(k:Int)) (xs:=f.l.map nodA) (e:=nodA x1) rfl (map_some hx1)<|
 .r 5<|.br 59 (decide (x2.ino≥x1.ino)) (fun q7=>have p7:=decT q7;.r 1<|.f R [] (aB false) (by
  refine sF (fun h=>?_);obtain ⟨g1,g2,g3⟩:=h.2.2.at hx1
  first | omega | exact Qab.1 (by assumption) g1 | (have:=g3 _ (by omega) hx2;omega)))
 <| fun q7=>have p7:=decF q7;.run 3 [rng .i64 ((k:Int)+1)] ⟨Qai (by omega) (by omega),trivial⟩<|
 .bk L1 k (k+1) ⟨by omega,hH1.2.step hx1 ⟨Qaw.1 (by assumption),by omega,by intro d h0 hd;first | omega | (rw [hd] at hx2;obtain rfl:=Option.some.inj hx2;omega)⟩⟩ (show f.l.length-(k+1)<f.l.length-k from (by omega)) [(3,aI ((k:Int)+1))] [] ⟨sR,sO,trivial⟩ bb1)
 <| fun q6=>have p6:=decF q6;.r 16<|.run 3 [rng .i64 ((k:Int)+1)] ⟨Qai (by omega) (by omega),trivial⟩<|
 .bk L1 k (k+1) ⟨by omega,hH1.2.step hx1 ⟨Qaw.1 (by assumption),by omega,by intro d h0 hd;omega⟩⟩ (show f.l.length-(k+1)<f.l.length-k from (by omega)) [(3,aI ((k:Int)+1))] [] ⟨sR,sO,trivial⟩ bb1)
 <| fun q3=>have p3:=decF q3;.r 1<|.f R [] (aB true) (by exact sT ⟨by omega,by omega,hH1.2.full (by omega)⟩)) a1 ha1)
theorem Qa1 (f:Fsy) (i:Int) (hl:f.l.length≤8796093022207):Qah prog 67 [.agg (fsyA f),aI i] (.tup [.agg (nodA (Qaa f i)),aB (Qav f i)]):=by
 exact Qac func67 (
 .new fun b1=>.new fun b2=>.r 1<|.r 1<|let L1:Lp (Nat):=⟨fun a1=>⟨[(1,aI i),(2,.ptr 2 b1 0),(4,.ptr 4 b2 0),(6,aI (a1:Int))],[(2,.box b1 28 (fsyA f)),(4,.box b2 84 [aI 0,aI 0,aI 0,aS ([]),aN])]⟩,fun a1=>f.l.length-a1,fun a1=>a1≤f.l.length∧Qa3 (fun _ n=>isNo i n=false) f.l a1⟩
 .lp L1 0 ⟨Nat.zero_le _,Qa3.zero _ _⟩ [(6,aI 0)] [] ⟨sR,sR,sR,sO,trivial⟩ bb2 fun a1 ha1=>
 (fun (k:Nat) (hH1:k≤f.l.length∧Qa3 (fun _ n=>isNo i n=false) f.l k)=>.u 4 [b1]<|
 .lm 10 f.l nodA<|.r 1<|.br 11 (decide ((k:Int)<(f.l.length:Int))) (fun q1=>have p1:=decT q1;.u 3 [b1]<|
 .idxM f.l nodA k (m:=(k:Int)) rfl (by omega) fun x1 hx1=>
 .r 4<|.br 21 (x1.ino==i) (fun q2=>have p2:=beqT q2;.u 3 [b1]<|
 .idx k (m:=(k:Int)) (xs:=f.l.map nodA) (e:=nodA x1) rfl (map_some hx1)<|
 .u 3 [b2]<|
 .f (.tup [.agg (nodA (Qaa f i)),aB (Qav f i)]) [b2] (.tup [.agg (nodA x1),aB true]) (by
  obtain ⟨e1,e2⟩:=Qwa hH1.2 hx1 (by assumption);rw [show Qaa f i=x1 from by unfold Qaa;rw [e2];rfl,show Qav f i=true from e1];exact sR))
 <| fun q2=>have p2:=beqF q2;.run 3 [rng .i64 ((k:Int)+1)] ⟨Qai (by omega) (by omega),trivial⟩<|
 .bk L1 k (k+1) ⟨by omega,hH1.2.step hx1 (by assumption)⟩ (show f.l.length-(k+1)<f.l.length-k from (by omega)) [(6,aI ((k:Int)+1))] [] ⟨sR,sR,sR,sO,trivial⟩ bb2)
 <| fun q1=>have p1:=decF q1;.u 3 [b2]<|
 .f (.tup [.agg (nodA (Qaa f i)),aB (Qav f i)]) [b2] (.tup [.agg [aI 0,aI 0,aI 0,aS ([]),aN],aB false]) (by
  obtain ⟨e1,e2⟩:=Zfk (hH1.2.full (by omega));rw [show Qaa f i=nod0 from by unfold Qaa;rw [e2];rfl,show Qav f i=false from e1];exact Sub.tups ⟨Sub.aggs ⟨sR,sR,sR,sR,Sub.nil _ _,trivial⟩,sR,trivial⟩)) a1 ha1)
theorem Zlb {x y:Fsy} (h1:x.l=y.l) (h2:x.next=y.next):x=y:=by cases x;cases y;simp_all
theorem Zas (f g:Fsy) (okf:OkF f) (okg:OkF g):Qah prog 29 [.agg (fsyA f),.agg (fsyA g)] (aB (dP (f=g))):=by
 have hb1:=okf.2.1;have hb2:=okg.2.1;exact Qac func29 (let R:AV:=aB (dP (f=g));
 .new fun b1=>.new fun b2=>.r 1<|.u 6 [b1,b2]<|
 .br 12 (f.next != g.next) (fun q1=>have p1:=bneT q1;.r 8<|.r 1<|.f R [] (aB false) (by exact sF (fun h=>by subst h;omega)))
 <| fun q1=>have p1:=bneF q1;.u 3 [b1]<|
 .lm 15 f.l nodA<|.u 3 [b2]<|
 .lm 18 g.l nodA<|.r 2<|.br 20 ((f.l.length:Int) != (g.l.length:Int)) (fun q2=>have p2:=bneT q2;.r 1<|.f R [] (aB false) (by exact sF (fun h=>by subst h;omega)))
 <| fun q2=>have p2:=bneF q2;.r 1<|let L1:Lp (Nat):=⟨fun a1=>⟨[(2,.ptr 2 b1 0),(3,.ptr 3 b2 0),(5,aI (a1:Int))],[(2,.box b1 28 (fsyA f)),(3,.box b2 28 (fsyA g))]⟩,fun a1=>f.l.length-a1,fun a1=>a1≤f.l.length∧f.l.take a1=g.l.take a1⟩
 .lp L1 0 ⟨Nat.zero_le _,rfl⟩ [(5,aI 0)] [] ⟨sR,sR,sO,trivial⟩ bb2 fun a1 ha1=>
 (fun (k:Nat) (hH1:k≤f.l.length∧f.l.take k=g.l.take k)=>.u 4 [b1]<|
 .lm 24 f.l nodA<|.r 1<|.br 25 (decide ((k:Int)<(f.l.length:Int))) (fun q3=>have p3:=decT q3;.ord [0,1,2,3,4,5,6,7,8,9,10,11]<|.u 3 [b1]<|
 .idxM f.l nodA k (m:=(k:Int)) rfl (by omega) fun x1 hx1=>
 have okx1:=okf.2.2 x1 (List.mem_of_getElem? hx1);.u 4 [b2]<|
 .idxM g.l nodA k (m:=(k:Int)) rfl (by omega) fun x2 hx2=>
 have okx2:=okg.2.2 x2 (List.mem_of_getElem? hx2);.r 1<|.call (Qea x1 x2 okx1 okx2)<|
 .r 1<|.r 2<|.br 40 (!(dP (x1=x2))) (fun q4=>have q4:=notT q4;have p4:=booF q4;.r 1<|.f R [] (aB false) (by
  refine sF (fun h=>?_);rw [h,hx2] at hx1;obtain rfl:=Option.some.inj hx1;simp_all [Qaw,Qab]))
 <| fun q4=>have q4:=notF q4;have p4:=booT q4;.run 3 [rng .i64 ((k:Int)+1)] ⟨Qai (by omega) (by omega),trivial⟩<|
 .bk L1 k (k+1) ⟨by omega,by rw [Qam hx1,Qam hx2,hH1.2];first | (congr 2;done) | (congr 2;exact Qaw.1 (by assumption))⟩ (show f.l.length-(k+1)<f.l.length-k from (by omega)) [(5,aI ((k:Int)+1))] [] ⟨sR,sR,sO,trivial⟩ bb2)
 <| fun q3=>have p3:=decF q3;.r 1<|.f R [] (aB true) (by
  refine sT (Zlb ?_ (by omega));have h:=hH1.2;rw [Qat (by omega),Qat (by omega)] at h;exact h)) a1 ha1)
def wN (n:Nod):Nat:=n.l.length
def fewF (f:Fsy):Prop:=f.l.length+(f.l.map wN).sum≤200∧∀ n∈f.l,n.text.length≤5000
def FewK (f:Fsy) (k n:Nat):Prop:=k≤f.l.length∧n=f.l.length+((f.l.take k).map wN).sum∧(∀ m∈f.l.take k,m.text.length≤5000)∧n≤100000000000000
theorem few0 {f:Fsy} (h:f.l.length≤8796093022207):FewK f 0 f.l.length:=⟨Nat.zero_le _,by simp,fun m h=>by simp at h,by omega⟩
theorem Zjl {f:Fsy} {k n:Nat} {x:Nod} (h:FewK f k n) (hx:f.l[k]?=some x) (hn:n≤200) (ht:x.text.length≤5000) (hb:x.l.length≤8796093022207):FewK f (k+1) (n+x.l.length):=by
 obtain ⟨h1,h2,h3,_⟩:=h;refine ⟨Qan hx,by rw [Ql7 wN hx,h2];simp only [wN];omega,fun m hm=>?_,by omega⟩;rcases Qhs hx hm with h | rfl
 ·exact h3 m h
 ·exact ht
theorem Zfo {f:Fsy} {k n:Nat} (h:FewK f k n) (h3:¬ (k:Int)<f.l.length∨¬ (n:Int)≤200):decide ((n:Int)≤200)=true↔fewF f:=by
 obtain ⟨hk,h1,h2,_⟩:=h;rw [decide_eq_true_iff];refine ⟨fun hn=>?_,fun hf=>?_⟩
 ·have hk':f.l.length≤k:=by omega
  rw [Qat hk'] at h1 h2;exact ⟨by omega,h2⟩
 ·have:=hf.1;have:=Qe5 wN f.l k;omega
theorem Qrc (f:Fsy) (okf:OkF f):Qah prog 12 [.agg (fsyA f)] (aB (dP (fewF f))):=by
 have hfl:=okf.2.1;exact Qac func12 (let R:AV:=aB (dP (fewF f));
 .new fun b1=>.r 1<|.u 3 [b1]<|
 .lm 7 f.l nodA<|.r 1<|.r 1<|let L1:Lp (Nat × Nat):=⟨fun a1=>⟨[(1,.ptr 1 b1 0),(4,aI (a1.1:Int)),(3,aI (a1.2:Int))],[(1,.box b1 28 (fsyA f))]⟩,fun a1=>f.l.length-a1.1,fun a1=>FewK f a1.1 a1.2⟩
 .lp L1 (0,f.l.length) (show FewK f 0 f.l.length from (few0 hfl)) [(4,aI 0)] [] ⟨sR,sO,sR,trivial⟩ bb1 fun a1 ha1=>
 (fun (k:Nat) (n:Nat) (hH1:FewK f k n)=>have hk1:=hH1.1;have hk2:=hH1.2.2.2;.u 4 [b1]<|
 .lm 11 f.l nodA<|.r 2<|.bd 13 ((k:Int)<(f.l.length:Int)) (fun p1=>.r 3<|.bd 16 ((n:Int)≤200) (fun p2=>.u 4 [b1]<|
 .idxM f.l nodA k (m:=(k:Int)) rfl (by omega) fun x1 hx1=>
 have okx1:=okf.2.2 x1 (List.mem_of_getElem? hx1);have blx1:=okx1.2.2.2.2.1;.r 3<|.lm 26 x1.l entA<|.run 2 [rng .i64 ((n:Int)+(x1.l.length:Int))] ⟨Qai (by omega) (by omega),trivial⟩<|
 .u 3 [b1]<|
 .idx k (m:=(k:Int)) (xs:=f.l.map nodA) (e:=nodA x1) rfl (map_some hx1)<|
 .r 4<|.bd 35 (((x1.text).length:Int)>5000) (fun p3=>.r 1<|.f (aB (dP (fewF f))) [] (aB false) (by exact sF (fun h=>by have:=h.2 _ (List.mem_of_getElem? hx1);omega)))
 <| fun p3=>.run 3 [rng .i64 ((k:Int)+1)] ⟨Qai (by omega) (by omega),trivial⟩<|
 .bk L1 (k,n) ((k+1),(n+x1.l.length)) (show FewK f (k+1) (n+x1.l.length) from (Zjl hH1 hx1 (by omega) (by omega) (by omega))) (show f.l.length-(k+1)<f.l.length-k from (by omega)) [(4,aI ((k:Int)+1)),(3,aI ((n:Int)+(x1.l.length:Int)))] [] ⟨sR,sO,sO,trivial⟩ bb1)
 <| fun p2=>.r 3<|.f R [] (aB (decide ((n:Int)≤200))) (by exact sE (Zfo hH1 (by omega))))
 <| fun p1=>.r 3<|.r 3<|.f R [] (aB (decide ((n:Int)≤200))) (by exact sE (Zfo hH1 (by omega)))) a1.1 a1.2 ha1)
end Go.Proofs.YtahlldgocpabjaaGreat
