import Derived.Test.YtahlldgocpabjaaGreatMrgL
set_option maxRecDepth 100000
set_option maxHeartbeats 8000000
set_option linter.unusedVariables false
set_option linter.unusedSimpArgs false
namespace Go.Proofs.YtahlldgocpabjaaGreat
open Go Go.RowKit Copyhold Go.Proofs.Tryz
theorem Qdj (f:Fsy) (n:Nod) (hn:I64 n.ino∧n.ino<9223372036854775807) (hl:f.l.length≤90000) (hr:Qbq f.l):Qaf prog 119 [.agg (fsyA f),.agg (nodA n)] (.agg (fsyA (putF f n))):=by
 have hn1:=hn.1.1;exact Qac func119 (
 .new fun b1=>.new fun b2=>.new fun b3=>.u 3 [b1]<|
 .new fun b4=>.u 1 [b4]<|
 .run 6 [b2=b2,rng .i64 (n.ino+1),b4=b4] ⟨rfl,Qaj (by omega) (by omega),rfl,trivial⟩<|
 .bd 15 ((n.ino+1)>f.next) (fun p1=>.run 5 [b2=b2,rng .i64 (n.ino+1),b4=b4] ⟨rfl,Qaj (by omega) (by omega),rfl,trivial⟩<|
 .rowNilB 100 5 0 84 5<|.r 1<|let L1:Lp (Nat × Value):=⟨fun a1=>⟨[(2,.ptr 2 b1 0),(3,.ptr 3 b2 0),(4,.ptr 4 b3 0),(5,.ptr 5 b4 0),(6,aI (a1.1:Int))],[(2,.box b1 28 (fsyA f)),(3,.box b2 84 (nodA n)),(4,.box b3 28 [aN,aI 0]),(5,.box b4 28 [.rw 100 a1.2 ((f.l.take a1.1).length),aI (n.ino+1)]),(100,.row a1.2 84 5 ((f.l.take a1.1).map nodA))]⟩,fun a1=>f.l.length-a1.1,fun a1=>a1.1≤f.l.length∧Qa1 (fun _ x=>x.ino<n.ino) f.l a1.1⟩
 .lp L1 (0,.slice none 0 0) ⟨Nat.zero_le _,Qa1.zero _ _⟩ [(6,aI 0)] [(5,.box b4 28 [.rw 100 (.slice none 0 0) 0,aI (n.ino+1)]),(100,.row (.slice none 0 0) 84 5 ([]))] ⟨sR,sR,sR,sR,sO,trivial⟩ ⟨sB,sB,sB,⟨_,rfl,SubB.boxs ⟨Sub.of_eq (congrArg (AV.rw 100 (.slice none 0 0)) (by simp)),sR,trivial⟩⟩,⟨_,rfl,SubB.of_eq (by simp)⟩,trivial⟩ fun a1 ha1=>
 (fun (k:Nat) (V:Value) (hH1:k≤f.l.length∧Qa1 (fun _ x=>x.ino<n.ino) f.l k)=>.ord [0,1,2,3,4,5,6,7,8,9,10,11,12,13,14,15]<|.u 4 [b1]<|
 .lm 23 f.l nodA<|.r 2<|.bd 25 ((k:Int)<(f.l.length:Int)) (fun p2=>.u 3 [b1]<|
 .idxM f.l nodA k (m:=(k:Int)) rfl (by omega) fun x1 hx1=>
 .u 6 [b2]<|
 .bd 35 (x1.ino<n.ino) (fun p3=>.ord [0,1,2,3,4,5,6,7,8,9,10]<|.u 5 [b4,b1]<|
 .idx k (m:=(k:Int)) (xs:=f.l.map nodA) (e:=nodA x1) rfl (map_some hx1)<|
 .r 2<|.app 64 V ((f.l.take k).map nodA) ([(nodA x1)]) (by first | (simp;omega) | (have:=Qcb f.l n k j (by omega) (by omega);simp only [List.length_map,List.length_cons,List.length_nil,List.length_take];omega) | (simp only [List.length_map,List.length_cons,List.length_nil,List.length_take];omega)) (by first | (simp;omega) | (have:=Qcb f.l n k j (by omega) (by omega);simp only [List.length_map,List.length_cons,List.length_nil,List.length_take];omega) | (simp only [List.length_map,List.length_cons,List.length_nil,List.length_take];omega)) fun V1=>
 .u 2 [b4]<|
 .run 3 [rng .i64 ((k:Int)+1)] ⟨Qaj (by omega) (by omega),trivial⟩<|
 .bk L1 (k,V) ((k+1),V1) ⟨by omega,hH1.2.step hx1 (by omega)⟩ (show f.l.length-(k+1)<f.l.length-k from (by omega)) [(6,aI ((k:Int)+1))] [(5,.box b4 28 [.rw 100 V1 (((f.l.take k).map nodA).length+([(nodA x1)]:List (List AV)).length),aI (n.ino+1)]),(100,.row V1 84 5 (((f.l.take k).map nodA)++([(nodA x1)])))] ⟨sR,sR,sR,sR,sO,trivial⟩ ⟨sB,sB,sB,⟨_,rfl,SubB.boxs ⟨Sub.of_eq (congrArg (AV.rw 100 V1) (by rw [Qak hx1];simp)),sR,trivial⟩⟩,⟨_,rfl,SubB.of_eq (by rw [Qak hx1];simp [nodA])⟩,trivial⟩)
 <| fun p3=>.u 4 [b4,b2]<|
 .app 64 V ((f.l.take k).map nodA) ([(nodA n)]) (by first | (simp;omega) | (have:=Qcb f.l n k j (by omega) (by omega);simp only [List.length_map,List.length_cons,List.length_nil,List.length_take];omega) | (simp only [List.length_map,List.length_cons,List.length_nil,List.length_take];omega)) (by first | (simp;omega) | (have:=Qcb f.l n k j (by omega) (by omega);simp only [List.length_map,List.length_cons,List.length_nil,List.length_take];omega) | (simp only [List.length_map,List.length_cons,List.length_nil,List.length_take];omega)) fun V2=>
 .u 2 [b4]<|
 let L2:Lp (Nat × Value):=⟨fun a2=>⟨[(2,.ptr 2 b1 0),(3,.ptr 3 b2 0),(4,.ptr 4 b3 0),(5,.ptr 5 b4 0),(6,aI (a2.1:Int))],[(2,.box b1 28 (fsyA f)),(3,.box b2 84 (nodA n)),(4,.box b3 28 [aN,aI 0]),(5,.box b4 28 [.rw 100 a2.2 ((putK f.l n k a2.1).length),aI (n.ino+1)]),(100,.row a2.2 84 5 ((putK f.l n k a2.1).map nodA))]⟩,fun a2=>f.l.length-a2.1,fun a2=>k≤a2.1∧a2.1≤f.l.length⟩
 .lp L2 (k,V2) ⟨Nat.le_refl _,by omega⟩ [] [(5,.box b4 28 [.rw 100 V2 (((f.l.take k).map nodA).length+([(nodA n)]:List (List AV)).length),aI (n.ino+1)]),(100,.row V2 84 5 (((f.l.take k).map nodA)++([(nodA n)])))] sr5 ⟨sB,sB,sB,⟨_,rfl,SubB.boxs ⟨Sub.of_eq (congrArg (AV.rw 100 V2) (by simp [putK])),sR,trivial⟩⟩,⟨_,rfl,SubB.of_eq (by simp [putK,nodA])⟩,trivial⟩ fun a2 ha2=>
 (fun (j:Nat) (V:Value) (hH2:k≤j∧j≤f.l.length)=>.u 4 [b1]<|
 .lm 57 f.l nodA<|.r 1<|.bd 58 ((j:Int)<(f.l.length:Int)) (fun p4=>.ord [0,1,2,3,4,5,6,7,8]<|.u 3 [b1]<|
 .idxM f.l nodA j (m:=(j:Int)) rfl (by omega) fun x2 hx2=>
 .u 5 [b2]<|
 .br 67 (x2.ino != n.ino) (fun q5=>have p5:=bneT q5;.ord [0,1,2,3,4,5,6,7,8,9,10]<|.u 5 [b4,b1]<|
 .idx j (m:=(j:Int)) (xs:=f.l.map nodA) (e:=nodA x2) rfl (map_some hx2)<|
 .r 2<|.app 64 V ((putK f.l n k j).map nodA) ([(nodA x2)]) (by first | (simp;omega) | (have:=Qcb f.l n k j (by omega) (by omega);simp only [List.length_map,List.length_cons,List.length_nil,List.length_take];omega) | (simp only [List.length_map,List.length_cons,List.length_nil,List.length_take];omega)) (by first | (simp;omega) | (have:=Qcb f.l n k j (by omega) (by omega);simp only [List.length_map,List.length_cons,List.length_nil,List.length_take];omega) | (simp only [List.length_map,List.length_cons,List.length_nil,List.length_take];omega)) fun V3=>
 .u 2 [b4]<|
 .run 3 [rng .i64 ((j:Int)+1)] ⟨Qaj (by omega) (by omega),trivial⟩<|
 .bk L2 (j,V) ((j+1),V3) (show k≤(j+1)∧(j+1)≤f.l.length from (by show _≤_∧_;omega)) (show f.l.length-(j+1)<f.l.length-j from (by omega)) [(6,aI ((j:Int)+1))] [(5,.box b4 28 [.rw 100 V3 (((putK f.l n k j).map nodA).length+([(nodA x2)]:List (List AV)).length),aI (n.ino+1)]),(100,.row V3 84 5 (((putK f.l n k j).map nodA)++([(nodA x2)])))] ⟨sR,sR,sR,sR,sO,trivial⟩ ⟨sB,sB,sB,⟨_,rfl,SubB.boxs ⟨Sub.of_eq (congrArg (AV.rw 100 V3) (by rw [Qe6 hx2 (by omega) q5];simp)),sR,trivial⟩⟩,⟨_,rfl,SubB.of_eq (by rw [Qe6 hx2 (by omega) q5];simp [nodA])⟩,trivial⟩)
 <| fun q5=>have p5:=bneF q5;.run 3 [rng .i64 ((j:Int)+1)] ⟨Qaj (by omega) (by omega),trivial⟩<|
 .bk L2 (j,V) ((j+1),V) (show k≤(j+1)∧(j+1)≤f.l.length from (by show _≤_∧_;omega)) (show f.l.length-(j+1)<f.l.length-j from (by omega)) [(6,aI ((j:Int)+1))] [(5,.box b4 28 [.rw 100 V ((putK f.l n k j).length),aI (n.ino+1)]),(100,.row V 84 5 ((putK f.l n k j).map nodA))] ⟨sR,sR,sR,sR,sO,trivial⟩ ⟨sB,sB,sB,⟨_,rfl,SubB.boxs ⟨Sub.of_eq (congrArg (AV.rw 100 V) (by rw [Qgt hx2 (by omega) q5])),sR,trivial⟩⟩,⟨_,rfl,SubB.of_eq (by rw [Qgt hx2 (by omega) q5])⟩,trivial⟩)
 <| fun p4=>.u 2 [b4,b3]<|
 .frz 100 [4] [4] [V=V,(putK f.l n k j).length=((putK f.l n k j).map nodA).length] ⟨rfl,(by first | rfl | (simp;done) | (simp;omega)),trivial⟩<|
 .f (.agg (fsyA (putF f n))) [b3] (.agg [.sl 5 false ((putK f.l n k j).map nodA),aI (n.ino+1)]) (by exact Sub.aggs ⟨Sub.of_eq (by rw [Qln hr (by omega) (Qfs hH1.1 hH1.2 (fun x hx=>by rw [hx1] at hx;obtain rfl:=Option.some.inj hx;omega))];rfl),Sub.of_eq (congrArg aI (show _=(if n.ino+1>f.next then n.ino+1 else f.next) from (if_pos (by omega)).symm)),trivial⟩)) a2.1 a2.2 ha2)
 <| fun p2=>.r 10<|.u 4 [b4,b2]<|
 .app 64 V ((f.l.take k).map nodA) ([(nodA n)]) (by first | (simp;omega) | (have:=Qcb f.l n k j (by omega) (by omega);simp only [List.length_map,List.length_cons,List.length_nil,List.length_take];omega) | (simp only [List.length_map,List.length_cons,List.length_nil,List.length_take];omega)) (by first | (simp;omega) | (have:=Qcb f.l n k j (by omega) (by omega);simp only [List.length_map,List.length_cons,List.length_nil,List.length_take];omega) | (simp only [List.length_map,List.length_cons,List.length_nil,List.length_take];omega)) fun V4=>
 .u 2 [b4]<|
 let L2:Lp (Nat × Value):=⟨fun a2=>⟨[(2,.ptr 2 b1 0),(3,.ptr 3 b2 0),(4,.ptr 4 b3 0),(5,.ptr 5 b4 0),(6,aI (a2.1:Int))],[(2,.box b1 28 (fsyA f)),(3,.box b2 84 (nodA n)),(4,.box b3 28 [aN,aI 0]),(5,.box b4 28 [.rw 100 a2.2 ((putK f.l n k a2.1).length),aI (n.ino+1)]),(100,.row a2.2 84 5 ((putK f.l n k a2.1).map nodA))]⟩,fun a2=>f.l.length-a2.1,fun a2=>k≤a2.1∧a2.1≤f.l.length⟩
 .lp L2 (k,V4) ⟨Nat.le_refl _,by omega⟩ [] [(5,.box b4 28 [.rw 100 V4 (((f.l.take k).map nodA).length+([(nodA n)]:List (List AV)).length),aI (n.ino+1)]),(100,.row V4 84 5 (((f.l.take k).map nodA)++([(nodA n)])))] sr5 ⟨sB,sB,sB,⟨_,rfl,SubB.boxs ⟨Sub.of_eq (congrArg (AV.rw 100 V4) (by simp [putK])),sR,trivial⟩⟩,⟨_,rfl,SubB.of_eq (by simp [putK,nodA])⟩,trivial⟩ fun a2 ha2=>
 (fun (j:Nat) (V:Value) (hH2:k≤j∧j≤f.l.length)=>.u 4 [b1]<|
 .lm 57 f.l nodA<|.r 1<|.bd 58 ((j:Int)<(f.l.length:Int)) (fun p6=>.ord [0,1,2,3,4,5,6,7,8]<|.u 3 [b1]<|
 .idxM f.l nodA j (m:=(j:Int)) rfl (by omega) fun x3 hx3=>
 .u 5 [b2]<|
 .br 67 (x3.ino != n.ino) (fun q7=>have p7:=bneT q7;.ord [0,1,2,3,4,5,6,7,8,9,10]<|.u 5 [b4,b1]<|
 .idx j (m:=(j:Int)) (xs:=f.l.map nodA) (e:=nodA x3) rfl (map_some hx3)<|
 .r 2<|.app 64 V ((putK f.l n k j).map nodA) ([(nodA x3)]) (by first | (simp;omega) | (have:=Qcb f.l n k j (by omega) (by omega);simp only [List.length_map,List.length_cons,List.length_nil,List.length_take];omega) | (simp only [List.length_map,List.length_cons,List.length_nil,List.length_take];omega)) (by first | (simp;omega) | (have:=Qcb f.l n k j (by omega) (by omega);simp only [List.length_map,List.length_cons,List.length_nil,List.length_take];omega) | (simp only [List.length_map,List.length_cons,List.length_nil,List.length_take];omega)) fun V5=>
 .u 2 [b4]<|
 .run 3 [rng .i64 ((j:Int)+1)] ⟨Qaj (by omega) (by omega),trivial⟩<|
 .bk L2 (j,V) ((j+1),V5) (show k≤(j+1)∧(j+1)≤f.l.length from (by show _≤_∧_;omega)) (show f.l.length-(j+1)<f.l.length-j from (by omega)) [(6,aI ((j:Int)+1))] [(5,.box b4 28 [.rw 100 V5 (((putK f.l n k j).map nodA).length+([(nodA x3)]:List (List AV)).length),aI (n.ino+1)]),(100,.row V5 84 5 (((putK f.l n k j).map nodA)++([(nodA x3)])))] ⟨sR,sR,sR,sR,sO,trivial⟩ ⟨sB,sB,sB,⟨_,rfl,SubB.boxs ⟨Sub.of_eq (congrArg (AV.rw 100 V5) (by rw [Qe6 hx3 (by omega) q7];simp)),sR,trivial⟩⟩,⟨_,rfl,SubB.of_eq (by rw [Qe6 hx3 (by omega) q7];simp [nodA])⟩,trivial⟩)
 <| fun q7=>have p7:=bneF q7;.run 3 [rng .i64 ((j:Int)+1)] ⟨Qaj (by omega) (by omega),trivial⟩<|
 .bk L2 (j,V) ((j+1),V) (show k≤(j+1)∧(j+1)≤f.l.length from (by show _≤_∧_;omega)) (show f.l.length-(j+1)<f.l.length-j from (by omega)) [(6,aI ((j:Int)+1))] [(5,.box b4 28 [.rw 100 V ((putK f.l n k j).length),aI (n.ino+1)]),(100,.row V 84 5 ((putK f.l n k j).map nodA))] ⟨sR,sR,sR,sR,sO,trivial⟩ ⟨sB,sB,sB,⟨_,rfl,SubB.boxs ⟨Sub.of_eq (congrArg (AV.rw 100 V) (by rw [Qgt hx3 (by omega) q7])),sR,trivial⟩⟩,⟨_,rfl,SubB.of_eq (by rw [Qgt hx3 (by omega) q7])⟩,trivial⟩)
 <| fun p6=>.u 2 [b4,b3]<|
 .frz 100 [4] [4] [V=V,(putK f.l n k j).length=((putK f.l n k j).map nodA).length] ⟨rfl,(by first | rfl | (simp;done) | (simp;omega)),trivial⟩<|
 .f (.agg (fsyA (putF f n))) [b3] (.agg [.sl 5 false ((putK f.l n k j).map nodA),aI (n.ino+1)]) (by exact Sub.aggs ⟨Sub.of_eq (by rw [Qln hr (by omega) (Qfs hH1.1 hH1.2 (fun x hx=>by have:=Qan hx;omega))];rfl),Sub.of_eq (congrArg aI (show _=(if n.ino+1>f.next then n.ino+1 else f.next) from (if_pos (by omega)).symm)),trivial⟩)) a2.1 a2.2 ha2) a1.1 a1.2 ha1)
 <| fun p1=>.rowNilB 100 5 0 84 5<|.r 1<|let L1:Lp (Nat × Value):=⟨fun a1=>⟨[(2,.ptr 2 b1 0),(3,.ptr 3 b2 0),(4,.ptr 4 b3 0),(5,.ptr 5 b4 0),(6,aI (a1.1:Int))],[(2,.box b1 28 (fsyA f)),(3,.box b2 84 (nodA n)),(4,.box b3 28 [aN,aI 0]),(5,.box b4 28 [.rw 100 a1.2 ((f.l.take a1.1).length),aI f.next]),(100,.row a1.2 84 5 ((f.l.take a1.1).map nodA))]⟩,fun a1=>f.l.length-a1.1,fun a1=>a1.1≤f.l.length∧Qa1 (fun _ x=>x.ino<n.ino) f.l a1.1⟩
 .lp L1 (0,.slice none 0 0) ⟨Nat.zero_le _,Qa1.zero _ _⟩ [(6,aI 0)] [(5,.box b4 28 [.rw 100 (.slice none 0 0) 0,aI f.next]),(100,.row (.slice none 0 0) 84 5 ([]))] ⟨sR,sR,sR,sR,sO,trivial⟩ ⟨sB,sB,sB,⟨_,rfl,SubB.boxs ⟨Sub.of_eq (congrArg (AV.rw 100 (.slice none 0 0)) (by simp)),sR,trivial⟩⟩,⟨_,rfl,SubB.of_eq (by simp)⟩,trivial⟩ fun a1 ha1=>
 (fun (k:Nat) (V:Value) (hH1:k≤f.l.length∧Qa1 (fun _ x=>x.ino<n.ino) f.l k)=>.ord [0,1,2,3,4,5,6,7,8,9,10,11,12,13,14,15]<|.u 4 [b1]<|
 .lm 23 f.l nodA<|.r 2<|.bd 25 ((k:Int)<(f.l.length:Int)) (fun p8=>.u 3 [b1]<|
 .idxM f.l nodA k (m:=(k:Int)) rfl (by omega) fun x4 hx4=>
 .u 6 [b2]<|
 .bd 35 (x4.ino<n.ino) (fun p9=>.ord [0,1,2,3,4,5,6,7,8,9,10]<|.u 5 [b4,b1]<|
 .idx k (m:=(k:Int)) (xs:=f.l.map nodA) (e:=nodA x4) rfl (map_some hx4)<|
 .r 2<|.app 64 V ((f.l.take k).map nodA) ([(nodA x4)]) (by first | (simp;omega) | (have:=Qcb f.l n k j (by omega) (by omega);simp only [List.length_map,List.length_cons,List.length_nil,List.length_take];omega) | (simp only [List.length_map,List.length_cons,List.length_nil,List.length_take];omega)) (by first | (simp;omega) | (have:=Qcb f.l n k j (by omega) (by omega);simp only [List.length_map,List.length_cons,List.length_nil,List.length_take];omega) | (simp only [List.length_map,List.length_cons,List.length_nil,List.length_take];omega)) fun V6=>
 .u 2 [b4]<|
 .run 3 [rng .i64 ((k:Int)+1)] ⟨Qaj (by omega) (by omega),trivial⟩<|
 .bk L1 (k,V) ((k+1),V6) ⟨by omega,hH1.2.step hx4 (by omega)⟩ (show f.l.length-(k+1)<f.l.length-k from (by omega)) [(6,aI ((k:Int)+1))] [(5,.box b4 28 [.rw 100 V6 (((f.l.take k).map nodA).length+([(nodA x4)]:List (List AV)).length),aI f.next]),(100,.row V6 84 5 (((f.l.take k).map nodA)++([(nodA x4)])))] ⟨sR,sR,sR,sR,sO,trivial⟩ ⟨sB,sB,sB,⟨_,rfl,SubB.boxs ⟨Sub.of_eq (congrArg (AV.rw 100 V6) (by rw [Qak hx4];simp)),sR,trivial⟩⟩,⟨_,rfl,SubB.of_eq (by rw [Qak hx4];simp [nodA])⟩,trivial⟩)
 <| fun p9=>.u 4 [b4,b2]<|
 .app 64 V ((f.l.take k).map nodA) ([(nodA n)]) (by first | (simp;omega) | (have:=Qcb f.l n k j (by omega) (by omega);simp only [List.length_map,List.length_cons,List.length_nil,List.length_take];omega) | (simp only [List.length_map,List.length_cons,List.length_nil,List.length_take];omega)) (by first | (simp;omega) | (have:=Qcb f.l n k j (by omega) (by omega);simp only [List.length_map,List.length_cons,List.length_nil,List.length_take];omega) | (simp only [List.length_map,List.length_cons,List.length_nil,List.length_take];omega)) fun V7=>
 .u 2 [b4]<|
 let L2:Lp (Nat × Value):=⟨fun a2=>⟨[(2,.ptr 2 b1 0),(3,.ptr 3 b2 0),(4,.ptr 4 b3 0),(5,.ptr 5 b4 0),(6,aI (a2.1:Int))],[(2,.box b1 28 (fsyA f)),(3,.box b2 84 (nodA n)),(4,.box b3 28 [aN,aI 0]),(5,.box b4 28 [.rw 100 a2.2 ((putK f.l n k a2.1).length),aI f.next]),(100,.row a2.2 84 5 ((putK f.l n k a2.1).map nodA))]⟩,fun a2=>f.l.length-a2.1,fun a2=>k≤a2.1∧a2.1≤f.l.length⟩
 .lp L2 (k,V7) ⟨Nat.le_refl _,by omega⟩ [] [(5,.box b4 28 [.rw 100 V7 (((f.l.take k).map nodA).length+([(nodA n)]:List (List AV)).length),aI f.next]),(100,.row V7 84 5 (((f.l.take k).map nodA)++([(nodA n)])))] sr5 ⟨sB,sB,sB,⟨_,rfl,SubB.boxs ⟨Sub.of_eq (congrArg (AV.rw 100 V7) (by simp [putK])),sR,trivial⟩⟩,⟨_,rfl,SubB.of_eq (by simp [putK,nodA])⟩,trivial⟩ fun a2 ha2=>
 (fun (j:Nat) (V:Value) (hH2:k≤j∧j≤f.l.length)=>.u 4 [b1]<|
 .lm 57 f.l nodA<|.r 1<|.bd 58 ((j:Int)<(f.l.length:Int)) (fun p10=>.ord [0,1,2,3,4,5,6,7,8]<|.u 3 [b1]<|
 .idxM f.l nodA j (m:=(j:Int)) rfl (by omega) fun x5 hx5=>
 .u 5 [b2]<|
 .br 67 (x5.ino != n.ino) (fun q11=>have p11:=bneT q11;.ord [0,1,2,3,4,5,6,7,8,9,10]<|.u 5 [b4,b1]<|
 .idx j (m:=(j:Int)) (xs:=f.l.map nodA) (e:=nodA x5) rfl (map_some hx5)<|
 .r 2<|.app 64 V ((putK f.l n k j).map nodA) ([(nodA x5)]) (by first | (simp;omega) | (have:=Qcb f.l n k j (by omega) (by omega);simp only [List.length_map,List.length_cons,List.length_nil,List.length_take];omega) | (simp only [List.length_map,List.length_cons,List.length_nil,List.length_take];omega)) (by first | (simp;omega) | (have:=Qcb f.l n k j (by omega) (by omega);simp only [List.length_map,List.length_cons,List.length_nil,List.length_take];omega) | (simp only [List.length_map,List.length_cons,List.length_nil,List.length_take];omega)) fun V8=>
 .u 2 [b4]<|
 .run 3 [rng .i64 ((j:Int)+1)] ⟨Qaj (by omega) (by omega),trivial⟩<|
 .bk L2 (j,V) ((j+1),V8) (show k≤(j+1)∧(j+1)≤f.l.length from (by show _≤_∧_;omega)) (show f.l.length-(j+1)<f.l.length-j from (by omega)) [(6,aI ((j:Int)+1))] [(5,.box b4 28 [.rw 100 V8 (((putK f.l n k j).map nodA).length+([(nodA x5)]:List (List AV)).length),aI f.next]),(100,.row V8 84 5 (((putK f.l n k j).map nodA)++([(nodA x5)])))] ⟨sR,sR,sR,sR,sO,trivial⟩ ⟨sB,sB,sB,⟨_,rfl,SubB.boxs ⟨Sub.of_eq (congrArg (AV.rw 100 V8) (by rw [Qe6 hx5 (by omega) q11];simp)),sR,trivial⟩⟩,⟨_,rfl,SubB.of_eq (by rw [Qe6 hx5 (by omega) q11];simp [nodA])⟩,trivial⟩)
 <| fun q11=>have p11:=bneF q11;.run 3 [rng .i64 ((j:Int)+1)] ⟨Qaj (by omega) (by omega),trivial⟩<|
 .bk L2 (j,V) ((j+1),V) (show k≤(j+1)∧(j+1)≤f.l.length from (by show _≤_∧_;omega)) (show f.l.length-(j+1)<f.l.length-j from (by omega)) [(6,aI ((j:Int)+1))] [(5,.box b4 28 [.rw 100 V ((putK f.l n k j).length),aI f.next]),(100,.row V 84 5 ((putK f.l n k j).map nodA))] ⟨sR,sR,sR,sR,sO,trivial⟩ ⟨sB,sB,sB,⟨_,rfl,SubB.boxs ⟨Sub.of_eq (congrArg (AV.rw 100 V) (by rw [Qgt hx5 (by omega) q11])),sR,trivial⟩⟩,⟨_,rfl,SubB.of_eq (by rw [Qgt hx5 (by omega) q11])⟩,trivial⟩)
 <| fun p10=>.u 2 [b4,b3]<|
 .frz 100 [4] [4] [V=V,(putK f.l n k j).length=((putK f.l n k j).map nodA).length] ⟨rfl,(by first | rfl | (simp;done) | (simp;omega)),trivial⟩<|
 .f (.agg (fsyA (putF f n))) [b3] (.agg [.sl 5 false ((putK f.l n k j).map nodA),aI f.next]) (by exact Sub.aggs ⟨Sub.of_eq (by rw [Qln hr (by omega) (Qfs hH1.1 hH1.2 (fun x hx=>by rw [hx4] at hx;obtain rfl:=Option.some.inj hx;omega))];rfl),Sub.of_eq (congrArg aI (show _=(if n.ino+1>f.next then n.ino+1 else f.next) from (if_neg (by omega)).symm)),trivial⟩)) a2.1 a2.2 ha2)
 <| fun p8=>.r 10<|.u 4 [b4,b2]<|
 .app 64 V ((f.l.take k).map nodA) ([(nodA n)]) (by first | (simp;omega) | (have:=Qcb f.l n k j (by omega) (by omega);simp only [List.length_map,List.length_cons,List.length_nil,List.length_take];omega) | (simp only [List.length_map,List.length_cons,List.length_nil,List.length_take];omega)) (by first | (simp;omega) | (have:=Qcb f.l n k j (by omega) (by omega);simp only [List.length_map,List.length_cons,List.length_nil,List.length_take];omega) | (simp only [List.length_map,List.length_cons,List.length_nil,List.length_take];omega)) fun V9=>
 .u 2 [b4]<|
 let L2:Lp (Nat × Value):=⟨fun a2=>⟨[(2,.ptr 2 b1 0),(3,.ptr 3 b2 0),(4,.ptr 4 b3 0),(5,.ptr 5 b4 0),(6,aI (a2.1:Int))],[(2,.box b1 28 (fsyA f)),(3,.box b2 84 (nodA n)),(4,.box b3 28 [aN,aI 0]),(5,.box b4 28 [.rw 100 a2.2 ((putK f.l n k a2.1).length),aI f.next]),(100,.row a2.2 84 5 ((putK f.l n k a2.1).map nodA))]⟩,fun a2=>f.l.length-a2.1,fun a2=>k≤a2.1∧a2.1≤f.l.length⟩
 .lp L2 (k,V9) ⟨Nat.le_refl _,by omega⟩ [] [(5,.box b4 28 [.rw 100 V9 (((f.l.take k).map nodA).length+([(nodA n)]:List (List AV)).length),aI f.next]),(100,.row V9 84 5 (((f.l.take k).map nodA)++([(nodA n)])))] sr5 ⟨sB,sB,sB,⟨_,rfl,SubB.boxs ⟨Sub.of_eq (congrArg (AV.rw 100 V9) (by simp [putK])),sR,trivial⟩⟩,⟨_,rfl,SubB.of_eq (by simp [putK,nodA])⟩,trivial⟩ fun a2 ha2=>
 (fun (j:Nat) (V:Value) (hH2:k≤j∧j≤f.l.length)=>.u 4 [b1]<|
 .lm 57 f.l nodA<|.r 1<|.bd 58 ((j:Int)<(f.l.length:Int)) (fun p12=>.ord [0,1,2,3,4,5,6,7,8]<|.u 3 [b1]<|
 .idxM f.l nodA j (m:=(j:Int)) rfl (by omega) fun x6 hx6=>
 .u 5 [b2]<|
 .br 67 (x6.ino != n.ino) (fun q13=>have p13:=bneT q13;.ord [0,1,2,3,4,5,6,7,8,9,10]<|.u 5 [b4,b1]<|
 .idx j (m:=(j:Int)) (xs:=f.l.map nodA) (e:=nodA x6) rfl (map_some hx6)<|
 .r 2<|.app 64 V ((putK f.l n k j).map nodA) ([(nodA x6)]) (by first | (simp;omega) | (have:=Qcb f.l n k j (by omega) (by omega);simp only [List.length_map,List.length_cons,List.length_nil,List.length_take];omega) | (simp only [List.length_map,List.length_cons,List.length_nil,List.length_take];omega)) (by first | (simp;omega) | (have:=Qcb f.l n k j (by omega) (by omega);simp only [List.length_map,List.length_cons,List.length_nil,List.length_take];omega) | (simp only [List.length_map,List.length_cons,List.length_nil,List.length_take];omega)) fun V10=>
 .u 2 [b4]<|
 .run 3 [rng .i64 ((j:Int)+1)] ⟨Qaj (by omega) (by omega),trivial⟩<|
 .bk L2 (j,V) ((j+1),V10) (show k≤(j+1)∧(j+1)≤f.l.length from (by show _≤_∧_;omega)) (show f.l.length-(j+1)<f.l.length-j from (by omega)) [(6,aI ((j:Int)+1))] [(5,.box b4 28 [.rw 100 V10 (((putK f.l n k j).map nodA).length+([(nodA x6)]:List (List AV)).length),aI f.next]),(100,.row V10 84 5 (((putK f.l n k j).map nodA)++([(nodA x6)])))] ⟨sR,sR,sR,sR,sO,trivial⟩ ⟨sB,sB,sB,⟨_,rfl,SubB.boxs ⟨Sub.of_eq (congrArg (AV.rw 100 V10) (by rw [Qe6 hx6 (by omega) q13];simp)),sR,trivial⟩⟩,⟨_,rfl,SubB.of_eq (by rw [Qe6 hx6 (by omega) q13];simp [nodA])⟩,trivial⟩)
 <| fun q13=>have p13:=bneF q13;.run 3 [rng .i64 ((j:Int)+1)] ⟨Qaj (by omega) (by omega),trivial⟩<|
 .bk L2 (j,V) ((j+1),V) (show k≤(j+1)∧(j+1)≤f.l.length from (by show _≤_∧_;omega)) (show f.l.length-(j+1)<f.l.length-j from (by omega)) [(6,aI ((j:Int)+1))] [(5,.box b4 28 [.rw 100 V ((putK f.l n k j).length),aI f.next]),(100,.row V 84 5 ((putK f.l n k j).map nodA))] ⟨sR,sR,sR,sR,sO,trivial⟩ ⟨sB,sB,sB,⟨_,rfl,SubB.boxs ⟨Sub.of_eq (congrArg (AV.rw 100 V) (by rw [Qgt hx6 (by omega) q13])),sR,trivial⟩⟩,⟨_,rfl,SubB.of_eq (by rw [Qgt hx6 (by omega) q13])⟩,trivial⟩)
 <| fun p12=>.u 2 [b4,b3]<|
 .frz 100 [4] [4] [V=V,(putK f.l n k j).length=((putK f.l n k j).map nodA).length] ⟨rfl,(by first | rfl | (simp;done) | (simp;omega)),trivial⟩<|
 .f (.agg (fsyA (putF f n))) [b3] (.agg [.sl 5 false ((putK f.l n k j).map nodA),aI f.next]) (by exact Sub.aggs ⟨Sub.of_eq (by rw [Qln hr (by omega) (Qfs hH1.1 hH1.2 (fun x hx=>by have:=Qan hx;omega))];rfl),Sub.of_eq (congrArg aI (show _=(if n.ino+1>f.next then n.ino+1 else f.next) from (if_neg (by omega)).symm)),trivial⟩)) a2.1 a2.2 ha2) a1.1 a1.2 ha1)
theorem Za2 (f:Fsy) (i:Int) (hl:f.l.length≤90000) (hr:Qbq f.l):Qaf prog 167 [.agg (fsyA f),aI i] (.agg (fsyA (outF f i))):=by
 exact Qac func167 (
 .new fun b1=>.new fun b2=>.u 3 [b1]<|
 .new fun b3=>.u 1 [b3]<|
 .rowNilB 100 5 0 84 5<|.r 1<|let L1:Lp (Nat × Value):=⟨fun a1=>⟨[(1,aI i),(2,.ptr 2 b1 0),(4,.ptr 4 b2 0),(5,.ptr 5 b3 0),(6,aI (a1.1:Int))],[(2,.box b1 28 (fsyA f)),(4,.box b2 28 [aN,aI 0]),(5,.box b3 28 [.rw 100 a1.2 ((outK f.l i a1.1).length),aI f.next]),(100,.row a1.2 84 5 ((outK f.l i a1.1).map nodA))]⟩,fun a1=>f.l.length-a1.1,fun a1=>a1.1≤f.l.length⟩
 .lp L1 (0,.slice none 0 0) (show 0≤f.l.length from Nat.zero_le _) [(6,aI 0)] [(5,.box b3 28 [.rw 100 (.slice none 0 0) 0,aI f.next]),(100,.row (.slice none 0 0) 84 5 ([]))] ⟨sR,sR,sR,sR,sO,trivial⟩ ⟨sB,sB,⟨_,rfl,SubB.boxs ⟨Sub.of_eq (congrArg (AV.rw 100 (.slice none 0 0)) (by simp [outK])),sR,trivial⟩⟩,⟨_,rfl,SubB.of_eq (by simp [outK])⟩,trivial⟩ fun a1 ha1=>
 (fun (k:Nat) (V:Value) (hH1:k≤f.l.length)=>.u 4 [b1]<|
 .lm 13 f.l nodA<|.r 1<|.bd 14 ((k:Int)<(f.l.length:Int)) (fun p1=>.u 3 [b1]<|
 .idxM f.l nodA k (m:=(k:Int)) rfl (by omega) fun x1 hx1=>
 .r 4<|.br 24 (x1.ino != i) (fun q2=>have p2:=bneT q2;.ord [0,1,2,3,4,5,6,7,8,9,10]<|.u 5 [b3,b1]<|
 .idx k (m:=(k:Int)) (xs:=f.l.map nodA) (e:=nodA x1) rfl (map_some hx1)<|
 .r 2<|.app 64 V ((outK f.l i k).map nodA) ([(nodA x1)]) (by have:=Zb2 f.l i k;simp only [List.length_map,List.length_cons,List.length_nil];omega) (by have:=Zb2 f.l i k;simp only [List.length_map,List.length_cons,List.length_nil];omega) fun V1=>
 .u 2 [b3]<|
 .run 3 [rng .i64 ((k:Int)+1)] ⟨Qaj (by omega) (by omega),trivial⟩<|
 .bk L1 (k,V) ((k+1),V1) (show (k+1)≤f.l.length from (by show _≤_;omega)) (show f.l.length-(k+1)<f.l.length-k from (by omega)) [(6,aI ((k:Int)+1))] [(5,.box b3 28 [.rw 100 V1 (((outK f.l i k).map nodA).length+([(nodA x1)]:List (List AV)).length),aI f.next]),(100,.row V1 84 5 (((outK f.l i k).map nodA)++([(nodA x1)])))] ⟨sR,sR,sR,sR,sO,trivial⟩ ⟨sB,sB,⟨_,rfl,SubB.boxs ⟨Sub.of_eq (congrArg (AV.rw 100 V1) (by rw [Qwg hx1 q2];simp)),sR,trivial⟩⟩,⟨_,rfl,SubB.of_eq (by rw [Qwg hx1 q2];simp [nodA])⟩,trivial⟩)
 <| fun q2=>have p2:=bneF q2;.run 3 [rng .i64 ((k:Int)+1)] ⟨Qaj (by omega) (by omega),trivial⟩<|
 .bk L1 (k,V) ((k+1),V) (show (k+1)≤f.l.length from (by show _≤_;omega)) (show f.l.length-(k+1)<f.l.length-k from (by omega)) [(6,aI ((k:Int)+1))] [(5,.box b3 28 [.rw 100 V ((outK f.l i k).length),aI f.next]),(100,.row V 84 5 ((outK f.l i k).map nodA))] ⟨sR,sR,sR,sR,sO,trivial⟩ ⟨sB,sB,⟨_,rfl,SubB.boxs ⟨Sub.of_eq (congrArg (AV.rw 100 V) (by rw [Zb1 hx1 q2])),sR,trivial⟩⟩,⟨_,rfl,SubB.of_eq (by rw [Zb1 hx1 q2])⟩,trivial⟩)
 <| fun p1=>.u 2 [b3,b2]<|
 .frz 100 [4] [4] [V=V,(outK f.l i k).length=((outK f.l i k).map nodA).length] ⟨rfl,(by first | rfl | (simp;done) | (simp;omega)),trivial⟩<|
 .f (.agg (fsyA (outF f i))) [b2] (.agg [.sl 5 false ((outK f.l i k).map nodA),aI f.next]) (by exact Sub.aggs ⟨Sub.of_eq (by rw [Zgp hr (by omega)];rfl),sR,trivial⟩)) a1.1 a1.2 ha1)
end Go.Proofs.YtahlldgocpabjaaGreat
