import Derived.Test.YtahlldgocpabjaaGreatMrgAR
import Derived.Test.YtahlldgocpabjaaGreatMrgAO
import Derived.Test.YtahlldgocpabjaaGreatMrgAF
import Derived.Test.YtahlldgocpabjaaGreatMrgH
set_option maxRecDepth 100000
set_option maxHeartbeats 8000000
set_option linter.unusedVariables false
set_option linter.unusedSimpArgs false
namespace Go.Proofs.YtahlldgocpabjaaGreat
open Go Go.RowKit Copyhold Go.Proofs.Tryz
theorem Qf4:∀ (l:List Cal) {t:Txn},Asc t.looks→Asc (Qad t l).looks
 | [],_,h=>h
 | c :: r,t,_=>Qf4 r (Zb0 t c)
theorem Qu7 (t:Txn) (l:List Cal) (okt:OkT t) (T:TreeP t.now) (hf:fewF t.now) (hl:l.length≤30) (ok:∀ c∈l,OkCal c) (htx:∀ c∈l,c.text.length≤500000) (hx:t.now.next<1152921504606847976) (hk0:t.looks.length≤1000) (ha:Asc t.looks):Qah prog 41 [.agg (txnA t),.sl 8 false (l.map calA)] (.tup [.agg (txnA (Qad t l)),.sl 6 false ((plR t.now l).map repA)]):=by
 exact Qac func41 (
 .new fun b1=>.new fun b2=>.r 1<|.r 1<|.rowNil 6 6 45 6<|.r 1<|let L1:Lp (Nat × Value):=⟨fun a1=>⟨[(1,.sl 8 false (l.map calA)),(2,.ptr 2 b1 0),(4,.ptr 4 b2 0),(7,aI (a1.1:Int)),(6,.rw 6 a1.2 ((plR t.now (l.take a1.1)).length))],[(2,.box b1 31 [aI ((Qad t (l.take a1.1)).stamp),.sl 5 false ((Qad t (l.take a1.1)).was.l.map nodA),aI ((Qad t (l.take a1.1)).was.next),.sl 5 false ((Qad t (l.take a1.1)).now.l.map nodA),aI ((Qad t (l.take a1.1)).now.next),.sl 1 false ((Qad t (l.take a1.1)).looks.map intA)]),(4,.box b2 31 [aI 0,aN,aI 0,aN,aI 0,aN]),(6,.row a1.2 45 6 ((plR t.now (l.take a1.1)).map repA))]⟩,fun a1=>l.length-a1.1,fun a1=>a1.1≤l.length⟩
 .lp L1 (0,.slice none 0 0) (show 0≤l.length from Nat.zero_le _) [(7,aI 0),(6,.rw 6 (.slice none 0 0) 0)] [(2,.box b1 31 (txnA t)),(6,.row (.slice none 0 0) 45 6 ([]))] ⟨sR,sR,sR,sO,Sub.of_eq rfl,trivial⟩ ⟨⟨_,rfl,SubB.of_eq rfl⟩,sB,⟨_,rfl,SubB.of_eq rfl⟩,trivial⟩ fun a1 ha1=>
 (fun (k:Nat) (V:Value) (hH1:k≤l.length)=>have kt:=Qiq okt T (by omega) ok hx hk0 (k:=k) (by omega);have kp:=kt.now;have kp2:=kp.next;have kl:=kt.len;.r 3<|.lm 12 l calA<|.r 1<|.bd 13 ((k:Int)<(l.length:Int)) (fun p1=>.pick [0,1,2,3,4]<|.u 3 [b1]<|
 .idxM l calA k (m:=(k:Int)) rfl (by omega) fun x1 hx1=>
 have okx1:=ok x1 (List.mem_of_getElem? hx1);have txx1:=htx x1 (List.mem_of_getElem? hx1);.r 1<|.fork<|.alt (.call (Qf7 (Qad t (l.take k)) x1 kp.ok okx1 kp.tree.rows (by omega) (by omega) kp.tree (Qka hf (by omega) kp) txx1 (Qf4 _ ha))<|
 .pick [6,7,8]<|.r 3<|.fork<|.alt (.new fun b3=>.pick [10,11,12]<|.new fun b4=>.u 2 [b3,b4]<|
 .u 2 [b3,b1]<|
 .u 3 [b4]<|
 .app 72 V ((plR t.now (l.take k)).map repA) ([[aI ((doF (Qad t (l.take k)).now x1).2.e),aI ((doF (Qad t (l.take k)).now x1).2.a),aI ((doF (Qad t (l.take k)).now x1).2.b),aI ((doF (Qad t (l.take k)).now x1).2.n),aS ((doF (Qad t (l.take k)).now x1).2.text),.sl 1 false ((doF (Qad t (l.take k)).now x1).2.names.map txA)]]) (by have hw:=Qb7 (f:=t.now) (l:=l) (k:=k) (by omega);simp only [List.length_map,List.length_cons,List.length_nil];omega) (by have hw:=Qb7 (f:=t.now) (l:=l) (k:=k) (by omega);simp only [List.length_map,List.length_cons,List.length_nil];omega) fun V1=>
 .r 1<|.run 3 [rng .i64 ((k:Int)+1)] ⟨Qai (by omega) (by omega),trivial⟩<|
 .bk L1 (k,V) ((k+1),V1) (show (k+1)≤l.length from (by show _≤_;omega)) (show l.length-(k+1)<l.length-k from (by omega)) [(7,aI ((k:Int)+1)),(6,.rw 6 V1 (((plR t.now (l.take k)).map repA).length+([[aI ((doF (Qad t (l.take k)).now x1).2.e),aI ((doF (Qad t (l.take k)).now x1).2.a),aI ((doF (Qad t (l.take k)).now x1).2.b),aI ((doF (Qad t (l.take k)).now x1).2.n),aS ((doF (Qad t (l.take k)).now x1).2.text),.sl 1 false ((doF (Qad t (l.take k)).now x1).2.names.map txA)]]:List (List AV)).length))] [(2,.box b1 31 [aI ((Qb0 (Qad t (l.take k)) x1).stamp),.sl 5 false ((Qb0 (Qad t (l.take k)) x1).was.l.map nodA),aI ((Qb0 (Qad t (l.take k)) x1).was.next),.sl 5 false ((Qb0 (Qad t (l.take k)) x1).now.l.map nodA),aI ((Qb0 (Qad t (l.take k)) x1).now.next),.sl 1 false ((Qb0 (Qad t (l.take k)) x1).looks.map intA)]),(6,.row V1 45 6 (((plR t.now (l.take k)).map repA)++([[aI ((doF (Qad t (l.take k)).now x1).2.e),aI ((doF (Qad t (l.take k)).now x1).2.a),aI ((doF (Qad t (l.take k)).now x1).2.b),aI ((doF (Qad t (l.take k)).now x1).2.n),aS ((doF (Qad t (l.take k)).now x1).2.text),.sl 1 false ((doF (Qad t (l.take k)).now x1).2.names.map txA)]])))] ⟨sR,sR,sR,sO,Sub.of_eq (congrArg (AV.rw 6 V1) (by rw [Qcm hx1];simp)),trivial⟩ ⟨⟨_,rfl,SubB.of_eq (by rw [Qd9 hx1])⟩,sB,⟨_,rfl,SubB.of_eq (by rw [Qcm hx1];simp [repA])⟩,trivial⟩)
 <| .new fun b5=>.pick [9,11,12]<|.new fun b6=>.u 2 [b6,b5]<|
 .u 2 [b6,b1]<|
 .u 3 [b5]<|
 .app 72 V ((plR t.now (l.take k)).map repA) ([[aI ((doF (Qad t (l.take k)).now x1).2.e),aI ((doF (Qad t (l.take k)).now x1).2.a),aI ((doF (Qad t (l.take k)).now x1).2.b),aI ((doF (Qad t (l.take k)).now x1).2.n),aS ((doF (Qad t (l.take k)).now x1).2.text),.sl 1 false ((doF (Qad t (l.take k)).now x1).2.names.map txA)]]) (by have hw:=Qb7 (f:=t.now) (l:=l) (k:=k) (by omega);simp only [List.length_map,List.length_cons,List.length_nil];omega) (by have hw:=Qb7 (f:=t.now) (l:=l) (k:=k) (by omega);simp only [List.length_map,List.length_cons,List.length_nil];omega) fun V2=>
 .r 1<|.run 3 [rng .i64 ((k:Int)+1)] ⟨Qai (by omega) (by omega),trivial⟩<|
 .bk L1 (k,V) ((k+1),V2) (show (k+1)≤l.length from (by show _≤_;omega)) (show l.length-(k+1)<l.length-k from (by omega)) [(7,aI ((k:Int)+1)),(6,.rw 6 V2 (((plR t.now (l.take k)).map repA).length+([[aI ((doF (Qad t (l.take k)).now x1).2.e),aI ((doF (Qad t (l.take k)).now x1).2.a),aI ((doF (Qad t (l.take k)).now x1).2.b),aI ((doF (Qad t (l.take k)).now x1).2.n),aS ((doF (Qad t (l.take k)).now x1).2.text),.sl 1 false ((doF (Qad t (l.take k)).now x1).2.names.map txA)]]:List (List AV)).length))] [(2,.box b1 31 [aI ((Qb0 (Qad t (l.take k)) x1).stamp),.sl 5 false ((Qb0 (Qad t (l.take k)) x1).was.l.map nodA),aI ((Qb0 (Qad t (l.take k)) x1).was.next),.sl 5 false ((Qb0 (Qad t (l.take k)) x1).now.l.map nodA),aI ((Qb0 (Qad t (l.take k)) x1).now.next),.sl 1 false ((Qb0 (Qad t (l.take k)) x1).looks.map intA)]),(6,.row V2 45 6 (((plR t.now (l.take k)).map repA)++([[aI ((doF (Qad t (l.take k)).now x1).2.e),aI ((doF (Qad t (l.take k)).now x1).2.a),aI ((doF (Qad t (l.take k)).now x1).2.b),aI ((doF (Qad t (l.take k)).now x1).2.n),aS ((doF (Qad t (l.take k)).now x1).2.text),.sl 1 false ((doF (Qad t (l.take k)).now x1).2.names.map txA)]])))] ⟨sR,sR,sR,sO,Sub.of_eq (congrArg (AV.rw 6 V2) (by rw [Qcm hx1];simp)),trivial⟩ ⟨⟨_,rfl,SubB.of_eq (by rw [Qd9 hx1])⟩,sB,⟨_,rfl,SubB.of_eq (by rw [Qcm hx1];simp [repA])⟩,trivial⟩)
 <| .alt (.new fun b7=>.fork<|.alt (.call (Qf7 (Qad t (l.take k)) x1 kp.ok okx1 kp.tree.rows (by omega) (by omega) kp.tree (Qka hf (by omega) kp) txx1 (Qf4 _ ha))<|
 .pick [6,7,8,10,11,12]<|.r 3<|.new fun b8=>.u 2 [b7,b8]<|
 .u 2 [b7,b1]<|
 .u 3 [b8]<|
 .app 72 V ((plR t.now (l.take k)).map repA) ([[aI ((doF (Qad t (l.take k)).now x1).2.e),aI ((doF (Qad t (l.take k)).now x1).2.a),aI ((doF (Qad t (l.take k)).now x1).2.b),aI ((doF (Qad t (l.take k)).now x1).2.n),aS ((doF (Qad t (l.take k)).now x1).2.text),.sl 1 false ((doF (Qad t (l.take k)).now x1).2.names.map txA)]]) (by have hw:=Qb7 (f:=t.now) (l:=l) (k:=k) (by omega);simp only [List.length_map,List.length_cons,List.length_nil];omega) (by have hw:=Qb7 (f:=t.now) (l:=l) (k:=k) (by omega);simp only [List.length_map,List.length_cons,List.length_nil];omega) fun V3=>
 .r 1<|.run 3 [rng .i64 ((k:Int)+1)] ⟨Qai (by omega) (by omega),trivial⟩<|
 .bk L1 (k,V) ((k+1),V3) (show (k+1)≤l.length from (by show _≤_;omega)) (show l.length-(k+1)<l.length-k from (by omega)) [(7,aI ((k:Int)+1)),(6,.rw 6 V3 (((plR t.now (l.take k)).map repA).length+([[aI ((doF (Qad t (l.take k)).now x1).2.e),aI ((doF (Qad t (l.take k)).now x1).2.a),aI ((doF (Qad t (l.take k)).now x1).2.b),aI ((doF (Qad t (l.take k)).now x1).2.n),aS ((doF (Qad t (l.take k)).now x1).2.text),.sl 1 false ((doF (Qad t (l.take k)).now x1).2.names.map txA)]]:List (List AV)).length))] [(2,.box b1 31 [aI ((Qb0 (Qad t (l.take k)) x1).stamp),.sl 5 false ((Qb0 (Qad t (l.take k)) x1).was.l.map nodA),aI ((Qb0 (Qad t (l.take k)) x1).was.next),.sl 5 false ((Qb0 (Qad t (l.take k)) x1).now.l.map nodA),aI ((Qb0 (Qad t (l.take k)) x1).now.next),.sl 1 false ((Qb0 (Qad t (l.take k)) x1).looks.map intA)]),(6,.row V3 45 6 (((plR t.now (l.take k)).map repA)++([[aI ((doF (Qad t (l.take k)).now x1).2.e),aI ((doF (Qad t (l.take k)).now x1).2.a),aI ((doF (Qad t (l.take k)).now x1).2.b),aI ((doF (Qad t (l.take k)).now x1).2.n),aS ((doF (Qad t (l.take k)).now x1).2.text),.sl 1 false ((doF (Qad t (l.take k)).now x1).2.names.map txA)]])))] ⟨sR,sR,sR,sO,Sub.of_eq (congrArg (AV.rw 6 V3) (by rw [Qcm hx1];simp)),trivial⟩ ⟨⟨_,rfl,SubB.of_eq (by rw [Qd9 hx1])⟩,sB,⟨_,rfl,SubB.of_eq (by rw [Qcm hx1];simp [repA])⟩,trivial⟩)
 <| .new fun b9=>.pick [5,6,7,8,11,12]<|.call (Qf7 (Qad t (l.take k)) x1 kp.ok okx1 kp.tree.rows (by omega) (by omega) kp.tree (Qka hf (by omega) kp) txx1 (Qf4 _ ha))<|
 .u 5 [b7,b9]<|
 .u 2 [b7,b1]<|
 .u 3 [b9]<|
 .app 72 V ((plR t.now (l.take k)).map repA) ([[aI ((doF (Qad t (l.take k)).now x1).2.e),aI ((doF (Qad t (l.take k)).now x1).2.a),aI ((doF (Qad t (l.take k)).now x1).2.b),aI ((doF (Qad t (l.take k)).now x1).2.n),aS ((doF (Qad t (l.take k)).now x1).2.text),.sl 1 false ((doF (Qad t (l.take k)).now x1).2.names.map txA)]]) (by have hw:=Qb7 (f:=t.now) (l:=l) (k:=k) (by omega);simp only [List.length_map,List.length_cons,List.length_nil];omega) (by have hw:=Qb7 (f:=t.now) (l:=l) (k:=k) (by omega);simp only [List.length_map,List.length_cons,List.length_nil];omega) fun V4=>
 .r 1<|.run 3 [rng .i64 ((k:Int)+1)] ⟨Qai (by omega) (by omega),trivial⟩<|
 .bk L1 (k,V) ((k+1),V4) (show (k+1)≤l.length from (by show _≤_;omega)) (show l.length-(k+1)<l.length-k from (by omega)) [(7,aI ((k:Int)+1)),(6,.rw 6 V4 (((plR t.now (l.take k)).map repA).length+([[aI ((doF (Qad t (l.take k)).now x1).2.e),aI ((doF (Qad t (l.take k)).now x1).2.a),aI ((doF (Qad t (l.take k)).now x1).2.b),aI ((doF (Qad t (l.take k)).now x1).2.n),aS ((doF (Qad t (l.take k)).now x1).2.text),.sl 1 false ((doF (Qad t (l.take k)).now x1).2.names.map txA)]]:List (List AV)).length))] [(2,.box b1 31 [aI ((Qb0 (Qad t (l.take k)) x1).stamp),.sl 5 false ((Qb0 (Qad t (l.take k)) x1).was.l.map nodA),aI ((Qb0 (Qad t (l.take k)) x1).was.next),.sl 5 false ((Qb0 (Qad t (l.take k)) x1).now.l.map nodA),aI ((Qb0 (Qad t (l.take k)) x1).now.next),.sl 1 false ((Qb0 (Qad t (l.take k)) x1).looks.map intA)]),(6,.row V4 45 6 (((plR t.now (l.take k)).map repA)++([[aI ((doF (Qad t (l.take k)).now x1).2.e),aI ((doF (Qad t (l.take k)).now x1).2.a),aI ((doF (Qad t (l.take k)).now x1).2.b),aI ((doF (Qad t (l.take k)).now x1).2.n),aS ((doF (Qad t (l.take k)).now x1).2.text),.sl 1 false ((doF (Qad t (l.take k)).now x1).2.names.map txA)]])))] ⟨sR,sR,sR,sO,Sub.of_eq (congrArg (AV.rw 6 V4) (by rw [Qcm hx1];simp)),trivial⟩ ⟨⟨_,rfl,SubB.of_eq (by rw [Qd9 hx1])⟩,sB,⟨_,rfl,SubB.of_eq (by rw [Qcm hx1];simp [repA])⟩,trivial⟩)
 <| .new fun b10=>.fork<|.alt (.call (Qf7 (Qad t (l.take k)) x1 kp.ok okx1 kp.tree.rows (by omega) (by omega) kp.tree (Qka hf (by omega) kp) txx1 (Qf4 _ ha))<|
 .pick [6,7,8,9,11,12]<|.r 3<|.new fun b11=>.u 2 [b11,b10]<|
 .u 2 [b11,b1]<|
 .u 3 [b10]<|
 .app 72 V ((plR t.now (l.take k)).map repA) ([[aI ((doF (Qad t (l.take k)).now x1).2.e),aI ((doF (Qad t (l.take k)).now x1).2.a),aI ((doF (Qad t (l.take k)).now x1).2.b),aI ((doF (Qad t (l.take k)).now x1).2.n),aS ((doF (Qad t (l.take k)).now x1).2.text),.sl 1 false ((doF (Qad t (l.take k)).now x1).2.names.map txA)]]) (by have hw:=Qb7 (f:=t.now) (l:=l) (k:=k) (by omega);simp only [List.length_map,List.length_cons,List.length_nil];omega) (by have hw:=Qb7 (f:=t.now) (l:=l) (k:=k) (by omega);simp only [List.length_map,List.length_cons,List.length_nil];omega) fun V5=>
 .r 1<|.run 3 [rng .i64 ((k:Int)+1)] ⟨Qai (by omega) (by omega),trivial⟩<|
 .bk L1 (k,V) ((k+1),V5) (show (k+1)≤l.length from (by show _≤_;omega)) (show l.length-(k+1)<l.length-k from (by omega)) [(7,aI ((k:Int)+1)),(6,.rw 6 V5 (((plR t.now (l.take k)).map repA).length+([[aI ((doF (Qad t (l.take k)).now x1).2.e),aI ((doF (Qad t (l.take k)).now x1).2.a),aI ((doF (Qad t (l.take k)).now x1).2.b),aI ((doF (Qad t (l.take k)).now x1).2.n),aS ((doF (Qad t (l.take k)).now x1).2.text),.sl 1 false ((doF (Qad t (l.take k)).now x1).2.names.map txA)]]:List (List AV)).length))] [(2,.box b1 31 [aI ((Qb0 (Qad t (l.take k)) x1).stamp),.sl 5 false ((Qb0 (Qad t (l.take k)) x1).was.l.map nodA),aI ((Qb0 (Qad t (l.take k)) x1).was.next),.sl 5 false ((Qb0 (Qad t (l.take k)) x1).now.l.map nodA),aI ((Qb0 (Qad t (l.take k)) x1).now.next),.sl 1 false ((Qb0 (Qad t (l.take k)) x1).looks.map intA)]),(6,.row V5 45 6 (((plR t.now (l.take k)).map repA)++([[aI ((doF (Qad t (l.take k)).now x1).2.e),aI ((doF (Qad t (l.take k)).now x1).2.a),aI ((doF (Qad t (l.take k)).now x1).2.b),aI ((doF (Qad t (l.take k)).now x1).2.n),aS ((doF (Qad t (l.take k)).now x1).2.text),.sl 1 false ((doF (Qad t (l.take k)).now x1).2.names.map txA)]])))] ⟨sR,sR,sR,sO,Sub.of_eq (congrArg (AV.rw 6 V5) (by rw [Qcm hx1];simp)),trivial⟩ ⟨⟨_,rfl,SubB.of_eq (by rw [Qd9 hx1])⟩,sB,⟨_,rfl,SubB.of_eq (by rw [Qcm hx1];simp [repA])⟩,trivial⟩)
 <| .new fun b12=>.pick [5,6,7,8,11,12]<|.call (Qf7 (Qad t (l.take k)) x1 kp.ok okx1 kp.tree.rows (by omega) (by omega) kp.tree (Qka hf (by omega) kp) txx1 (Qf4 _ ha))<|
 .u 5 [b12,b10]<|
 .u 2 [b12,b1]<|
 .u 3 [b10]<|
 .app 72 V ((plR t.now (l.take k)).map repA) ([[aI ((doF (Qad t (l.take k)).now x1).2.e),aI ((doF (Qad t (l.take k)).now x1).2.a),aI ((doF (Qad t (l.take k)).now x1).2.b),aI ((doF (Qad t (l.take k)).now x1).2.n),aS ((doF (Qad t (l.take k)).now x1).2.text),.sl 1 false ((doF (Qad t (l.take k)).now x1).2.names.map txA)]]) (by have hw:=Qb7 (f:=t.now) (l:=l) (k:=k) (by omega);simp only [List.length_map,List.length_cons,List.length_nil];omega) (by have hw:=Qb7 (f:=t.now) (l:=l) (k:=k) (by omega);simp only [List.length_map,List.length_cons,List.length_nil];omega) fun V6=>
 .r 1<|.run 3 [rng .i64 ((k:Int)+1)] ⟨Qai (by omega) (by omega),trivial⟩<|
 .bk L1 (k,V) ((k+1),V6) (show (k+1)≤l.length from (by show _≤_;omega)) (show l.length-(k+1)<l.length-k from (by omega)) [(7,aI ((k:Int)+1)),(6,.rw 6 V6 (((plR t.now (l.take k)).map repA).length+([[aI ((doF (Qad t (l.take k)).now x1).2.e),aI ((doF (Qad t (l.take k)).now x1).2.a),aI ((doF (Qad t (l.take k)).now x1).2.b),aI ((doF (Qad t (l.take k)).now x1).2.n),aS ((doF (Qad t (l.take k)).now x1).2.text),.sl 1 false ((doF (Qad t (l.take k)).now x1).2.names.map txA)]]:List (List AV)).length))] [(2,.box b1 31 [aI ((Qb0 (Qad t (l.take k)) x1).stamp),.sl 5 false ((Qb0 (Qad t (l.take k)) x1).was.l.map nodA),aI ((Qb0 (Qad t (l.take k)) x1).was.next),.sl 5 false ((Qb0 (Qad t (l.take k)) x1).now.l.map nodA),aI ((Qb0 (Qad t (l.take k)) x1).now.next),.sl 1 false ((Qb0 (Qad t (l.take k)) x1).looks.map intA)]),(6,.row V6 45 6 (((plR t.now (l.take k)).map repA)++([[aI ((doF (Qad t (l.take k)).now x1).2.e),aI ((doF (Qad t (l.take k)).now x1).2.a),aI ((doF (Qad t (l.take k)).now x1).2.b),aI ((doF (Qad t (l.take k)).now x1).2.n),aS ((doF (Qad t (l.take k)).now x1).2.text),.sl 1 false ((doF (Qad t (l.take k)).now x1).2.names.map txA)]])))] ⟨sR,sR,sR,sO,Sub.of_eq (congrArg (AV.rw 6 V6) (by rw [Qcm hx1];simp)),trivial⟩ ⟨⟨_,rfl,SubB.of_eq (by rw [Qd9 hx1])⟩,sB,⟨_,rfl,SubB.of_eq (by rw [Qcm hx1];simp [repA])⟩,trivial⟩)
 <| fun p1=>.u 4 [b1,b2]<|
 .frz 6 [4,5] [4] [V=V,(plR t.now (l.take k)).length=((plR t.now (l.take k)).map repA).length] ⟨rfl,(by first | rfl | (simp;done) | (simp;omega)),trivial⟩<|
 .f (.tup [.agg (txnA (Qad t l)),.sl 6 false ((plR t.now l).map repA)]) [b2] (.tup [.agg [aI ((Qad t (l.take k)).stamp),.sl 5 false ((Qad t (l.take k)).was.l.map nodA),aI ((Qad t (l.take k)).was.next),.sl 5 false ((Qad t (l.take k)).now.l.map nodA),aI ((Qad t (l.take k)).now.next),.sl 1 false ((Qad t (l.take k)).looks.map intA)],.sl 6 false ((plR t.now (l.take k)).map repA)]) (by
  rw [show l.take k=l from Qat (by omega)]
  first | exact sR | exact Sub.tups ⟨sR,Sub.loose _ _ _,trivial⟩)) a1.1 a1.2 ha1)
theorem Zcc {s:Sto} {g:Fsy} (hp:Qch s) (hw:Qar (Qck s s.stamp)) (hg:Qar g) (hx:(Qck s s.stamp).next≤g.next):Qck (Qdd s (Qbj (Qck s s.stamp) g) g.next) (s.stamp+1)=g:=by
 have h1:=Qn7 (Qck s s.stamp) g;have hm:=Qn8 hw hg;have hn:1≤g.next:=hg.2.1;refine Qq6 (Zbo (Qlc hp h1 hm hn) _) (Qaf hg) (fun i=>?_) ?_
 ·rw [Zbp hp h1 hm hn];rcases Qro (f:=Qck s s.stamp) hg i with ⟨hc,he⟩ | ⟨c,hc,he,_⟩
  ·rw [hc];exact he
  ·rw [hc];exact he
 ·show Qj4 _ _=_;rw [Zdy hp];have:Qj4 s s.stamp≤g.next:=hx;unfold maxD
  split<;>omega
theorem Qv9 {s:Sto} {l:List Cal} (oks:OkS s) (hg:Ze9 s) (hl:l.length≤30) (ok:∀ c∈l,OkCal c) :
  ∀ t,t=Qad (Qag s) l→KeptT (Qag s) t l.length∧TreeP (Qag s).now∧¬ Qes s t∧(Qbd s t).2=0∧Qck (Qbd s t).1 (Qbd s t).1.stamp=t.now∧((Qbd s t).1=s↔t.was=t.now)∧Qch (Qbd s t).1∧Fit (Qbd s t).1 713∧Qar t.was:=by
 rintro t rfl;obtain ⟨g1,hp,g3,g4,g5,g6⟩:=hg;have T:TreeP (Qag s).now:=Qvh g4 g5;have K:=Qiq (Qkt oks) T (l:=l) (by omega) ok (by show (Qck s s.stamp).next<_;omega) (by show ([]:List Int).length≤_;simp) (k:=l.length) (Nat.le_refl _);rw [List.take_length] at K;have hwas:(Qad (Qag s) l).was=Qck s s.stamp:=K.was;have hw:Qar (Qad (Qag s) l).was:=by rw [hwas];exact g5.1
 have hst:(Qad (Qag s) l).stamp=s.stamp:=Qi9 l _;have hnc:¬ Qes s (Qad (Qag s) l):=by
  rintro ⟨x,hx,_⟩;rw [hst,Qo1 hp] at hx;cases hx
 have hfit:=Zfn oks g1;refine ⟨K,T,hnc,?_⟩;by_cases hi:(Qad (Qag s) l).was=(Qad (Qag s) l).now
 ·rw [Qg6 (Qaw.2 hi)];exact ⟨rfl,hwas.symm.trans hi,⟨fun _=>hi,fun _=>rfl⟩,hp,⟨hfit.ok,Nat.le_trans hfit.l (by omega),Nat.le_trans hfit.n (by omega),fun c hc=>Nat.le_trans (hfit.r c hc) (by omega)⟩,hw⟩
 ·rw [Qfc (Qab.2 hi) (Qab.2 hnc)];have hn:=K.now.tree.rows;have hlen:=Qfd (Qad (Qag s) l).was (Qad (Qag s) l).now;have:=hw.1;have:=hn.1;have F:=hfit.inst (Qlk K.ok.was K.ok.now) (next:=(Qad (Qag s) l).now.next) K.ok.now.1 (by omega) (by omega);refine ⟨rfl,?_,⟨fun h=>?_,fun h=>absurd h hi⟩,Qlc hp (Qn7 _ _) (Qn8 hw hn) hn.2.1,⟨F.ok,Nat.le_trans F.l (by omega),Nat.le_trans F.n (by omega),fun c hc=>Nat.le_trans (F.r c hc) (by omega)⟩,hw⟩
  ·show Qck (Qdd s _ _) (s.stamp+1)=_;rw [hwas];exact Zcc hp g5.1 hn (by have:=K.now.next.1;exact this)
  ·have:=congrArg Sto.stamp h;have e:(Qdd s (Qbj (Qad (Qag s) l).was (Qad (Qag s) l).now) (Qad (Qag s) l).now.next).stamp=s.stamp+1:=rfl;simp only [e] at this;omega
theorem Qlv (s:Sto) (t:Txn) (ms:MidS s) (hp:Qch s) (okt:OkT t) (hw:Qar t.was) (hn:Qar t.now):Qah prog 31 [.agg (stoA s),.agg (txnA t)] (.tup [.agg (stoA (Qbd s t).1),aI (Qbd s t).2]):=by
 exact Qac func31 (
 .new fun b1=>.new fun b2=>.new fun b3=>.r 1<|.u 4 [b2,b2]<|
 .call (Zas t.was t.now okt.was okt.now)<|
 .r 1<|.r 1<|.br 13 (dP (t.was=t.now)) (fun q1=>have p1:=booT q1;.u 3 [b1,b3]<|
 .f (.tup [.agg (stoA (Qbd s t).1),aI (Qbd s t).2]) [b3] (.tup [.agg (stoA s),aI 0]) (by
  rw [Qg6 q1];exact sR))
 <| fun q1=>have p1:=booF q1;.u 2 [b1,b2]<|
 .call (Qm0 s t ms.ok (by have:=ms.l;omega) okt)<|
 .r 1<|.r 1<|.br 18 (dP (Qes s t)) (fun q2=>have p2:=booT q2;.u 3 [b1,b3]<|
 .f (.tup [.agg (stoA (Qbd s t).1),aI (Qbd s t).2]) [b3] (.tup [.agg (stoA s),aI 15]) (by
  rw [Qfr q1 q2];exact sR))
 <| fun q2=>have p2:=booF q2;.ord [0,1,2,3,4,6,7,8,5,9,10,11]<|.u 8 [b1,b2,b2,b2]<|
 .call (Qqh t.was t.now okt.was okt.now (by have:=hw.1;omega) (by have:=hn.1;omega))<|
 .call (Qqe s (Qbj t.was t.now) t.now.next ms.ok hp ms.l (by have:=Qfd t.was t.now;have:=hw.1;have:=hn.1;omega) ms.nexts ms.rows ms.stamp)<|
 .u 2 [b3]<|
 .f (.tup [.agg (stoA (Qbd s t).1),aI (Qbd s t).2]) [b3] (.tup [.agg [.sl 2 false ((Qdd s (Qbj t.was t.now) t.now.next).l.map chnA),.sl 2 false ((Qdd s (Qbj t.was t.now) t.now.next).nexts.map cntA),aI ((Qdd s (Qbj t.was t.now) t.now.next).stamp)],aI 0]) (by
  rw [Qfc q1 q2];exact sR))
theorem Zci (s:Sto) (l:List Cal) (ms:MidS s) (hp:Qch s) (T:TreeP (Qag s).now) (hf:fewF (Qag s).now) (hl:l.length≤30) (ok:∀ c∈l,OkCal c) (htx:∀ c∈l,c.text.length≤500000) (hx:(Qag s).now.next<1152921504606847976):Qah prog 33 [.agg (stoA s),.sl 8 false (l.map calA)] (.tup [.agg (stoA (runD s l)),.sl 6 false ((plR (Qag s).now l).map repA)]):=by
 have kt:=Qiq (Qkt ms.ok) T (by omega) ok hx (by show ([]:List Int).length≤_;simp) (Nat.le_refl l.length);rw [List.take_length] at kt;exact Qac func33 (let R:AV:=.tup [.agg (stoA (runD s l)),.sl 6 false ((plR (Qag s).now l).map repA)];
 .new fun b1=>.new fun b2=>.r 1<|.u 1 [b1]<|
 .call (Qvm s ms.ok (by have:=ms.l;omega))<|
 .r 1<|.call (Qu7 (Qag s) l (Qkt ms.ok) T hf hl ok htx hx (by show ([]:List Int).length≤_;simp) List.Pairwise.nil)<|
 .r 3<|.new fun b3=>.u 2 [b3]<|
 .u 2 [b1,b3]<|
 .call (Qlv s (Qad (Qag s) l) ms hp kt.ok (by rw [kt.was];exact T.rows) kt.now.tree.rows)<|
 .r 3<|.new fun b4=>.u 2 [b4]<|
 .u 4 [b4,b2]<|
 .fi R [b2])
theorem Za3 {s:Sto} {t:Txn} {B:Nat} (h:Fit s B) (okt:OkT t) (hw:Qar t.was) (hn:Qar t.now) (hs:s.stamp<4611686018427387904) (hB:B≤90000):Fit (Qbd s t).1 (B+513)∧(Qbd s t).1.stamp≤s.stamp+1:=by
 have up:Fit s (B+513):=⟨h.ok,Nat.le_trans h.l (by omega),Nat.le_trans h.n (by omega),fun c hc=>Nat.le_trans (h.r c hc) (by omega)⟩
 by_cases hi:t.was=t.now
 ·rw [Qg6 (Qaw.2 hi)];exact ⟨up,by show s.stamp≤_;omega⟩
 ·by_cases hc:Qes s t
  ·rw [Qfr (Qab.2 hi) (Qaw.2 hc)];exact ⟨up,by show s.stamp≤_;omega⟩
  ·rw [Qfc (Qab.2 hi) (Qab.2 hc)];have hlen:=Qfd t.was t.now;have h1:=hw.1;have h2:=hn.1;have F:=h.inst (Qlk okt.was okt.now) (next:=t.now.next) okt.now.1 (by omega) (by omega);exact ⟨⟨F.ok,Nat.le_trans F.l (by omega),Nat.le_trans F.n (by omega),fun c hc=>Nat.le_trans (F.r c hc) (by omega)⟩,Int.le_refl _⟩
theorem Qkz (s:Sto) (t:Txn) (l:List Cal) (oks:OkS s) (okt:OkT t) (hll:l.length≤8796093022207) (okl:∀ c∈l,OkC0 c):Qah prog 4 [.agg (stoA s),.agg (txnA t),.sl 8 false (l.map calA)] (aB true):=by
 have hbl:=okt.len;exact Qac func4 (
 .new fun b1=>.new fun b2=>.r 1<|.call (Zl3)<|
 .r 1<|.u 1 [b1]<|
 .call (Qzw s oks)<|
 .r 2<|.br 21 (!(dP (Ze9 s))) (fun q1=>have q1:=notT q1;have p1:=booF q1;.r 9<|.r 2<|.f (aB true) [] (aB true) (by exact Sub.of_eq (by first | rfl | (refine congrArg aB ?_;simp;done) | (refine congrArg aB ?_;simp_all;done))))
 <| fun q1=>have q1:=notF q1;have p1:=booT q1;have hgd:=Qaw.1 q1;have hfit:=Zfn oks hgd.1;have ms:MidS s:=Zd7 hfit (by omega) (by have:=hgd.2.2.1;omega);have hx0:(Qag s).now.next<1152921504606847976:=(by have:=hgd.2.2.2.2.2;show (Qck s s.stamp).next<_;omega);.u 1 [b2]<|
 .call (Qzo t okt)<|
 .r 3<|.br 26 (!(dP (fewT t))) (fun q2=>have q2:=notT q2;have p2:=booF q2;.r 4<|.r 2<|.f (aB true) [] (aB true) (by exact Sub.of_eq (by first | rfl | (refine congrArg aB ?_;simp;done) | (refine congrArg aB ?_;simp_all;done))))
 <| fun q2=>have q2:=notF q2;have p2:=booT q2;have hft:=Qaw.1 q2;have hpt:=hft.2.2.2.2;have hw:=hpt.2.1.1;have hn:=hpt.2.2.1.1;.r 1<|.call (Qzh l hll okl)<|
 .r 2<|.br 30 (!(dP (Qf6 l))) (fun q3=>have q3:=notT q3;have p3:=booF q3;.r 2<|.f (aB true) [] (aB true) (by exact Sub.of_eq (by first | rfl | (refine congrArg aB ?_;simp;done) | (refine congrArg aB ?_;simp_all;done))))
 <| fun q3=>have q3:=notF q3;have p3:=booT q3;have hsm:=Qaw.1 q3;have hl30:l.length≤30:=hsm.2;have ok:∀ c∈l,OkCal c:=fun c hc=>Zhq hsm hc (okl c hc);have htx:∀ c∈l,c.text.length≤500000:=fun c hc=>(by have:=(Zb6 hsm hc).2.2;omega);have ff:=Qv9 oks hgd hl30 ok _ rfl;have kf:=ff.2.2.2.2.2.2.2.1;have nrr:∀ r∈(plR (Qag s).now l),r.names.length≤1000000:=fun r hr=>Nat.le_trans (Qxl (Qkt oks).now ff.2.1 ok (by omega) r hr) (by decide);have kc:=(Za3 hfit okt hw hn (by have:=hgd.2.2.1;omega) (by omega)).1;.u 2 [b1,b2]<|
 .call (Qjh s t ms okt hw hn)<|
 .r 3<|.new fun b3=>.u 2 [b3]<|
 .u 2 [b1,b2]<|
 .call (Qlv s t ms hgd.2.1 okt hw hn)<|
 .r 3<|.new fun b4=>.u 2 [b4]<|
 .u 2 [b1]<|
 .call (Qxa s l ms ff.2.1 (by omega) ok hx0)<|
 .r 3<|.new fun b5=>.u 2 [b5]<|
 .u 2 [b1]<|
 .call (Zci s l ms hgd.2.1 ff.2.1 hgd.2.2.2.1 hl30 ok htx hx0)<|
 .r 3<|.new fun b6=>.u 2 [b6]<|
 .u 2 [b3,b4]<|
 .call (Qo4 (Qbd s t).1 (Qbd s t).1 kc.ok kc.ok)<|
 .r 1<|.is 59 (show (dP ((Qbd s t).1=(Qbd s t).1))=true from (Qaw.2 rfl))<|.u 2 [b5,b6]<|
 .call (Qo4 (runD s l) (runD s l) kf.ok kf.ok)<|
 .r 2<|.is 64 (show (dP ((runD s l)=(runD s l)))=true from (Qaw.2 rfl))<|.r 2<|.call (Zkn (plR (Qag s).now l) (plR (Qag s).now l) (by rw [Qfv];omega) (by rw [Qfv];omega) nrr nrr)<|
 .r 2<|.ord [0,1,2,3,4,5,6,7,8,9,10,11,13,14,12,15,16,17,18]<|.r 5<|.is 73 (show (dP ((plR (Qag s).now l)=(plR (Qag s).now l)))=true from (Qaw.2 rfl))<|.r 5<|.is 78 (show (((Qbd s t).2)==((Qbd s t).2))=true from (by simp))<|.u 4 [b1,b2,b1,b2]<|
 .call (Qlh s t oks (by have:=hfit.l;omega) okt)<|
 .call (Qm0 s t oks (by have:=hfit.l;omega) okt)<|
 .r 3<|.f (aB true) [] (aB ((dP (Qes s t))==(dP (Qes s t)))) (by exact Sub.of_eq (by first | rfl | (refine congrArg aB ?_;simp;done) | (refine congrArg aB ?_;simp_all;done))))
end Go.Proofs.YtahlldgocpabjaaGreat

namespace Copyhold
open Go Go.RowKit Go.ChangeShapes Go.WideShapes Go.ChangeAt Go.Deep
structure Opn {α:Type} (P:Program) (W:World) (t:TypeId) (en:α→List AV) (ok:α→Prop):Prop where
 run:∀ (H:Type) (enc:TypeId × Value→H) (fuel:Nat) (cs:List Value) (x:DataW H × List MemPlace),
  DataW.trod enc P W 0 (fun _=>true) true fuel t cs=some x→(∀ p∈x.2,p.block<W.heap.size)→(∀ n∈DataW.weights P t x.1,n≤140737488351232) →
  ∃ a,Qi8 (·<W.heap.size) W (en a) cs∧(∀ u∈cs,u.oneCell'=true)∧ok a
section
variable {P:Program} {W:World} {t:TypeId}
theorem Opn.map {α β:Type} {en:α→List AV} {ok:α→Prop} {en':β→List AV} {ok':β→Prop} (h:Opn P W t en ok) (f:α→β) (he:∀ a,en' (f a)=en a) (ho:∀ a,ok a→ok' (f a)):Opn P W t en' ok':=Opn.mk fun H enc fuel cs x h1 h2 h3=>by
 obtain ⟨a,g1,g2,g3⟩:=h.run H enc fuel cs x h1 h2 h3;exact ⟨f a,by rw [he];exact g1,g2,ho a g3⟩
theorem Qh2 {D:Nat→Prop} {w:World} {a:AV} {v:Value} (h:Ra D w a v):Qi8 D w [a] [v]:=⟨rfl,fun j x u hx hu=>by
 match j,hx,hu with
 | 0,hx,hu=>simp at hx hu;subst hx hu;exact h
 | j+1,hx,_=>simp at hx⟩
theorem wf_i64 {z:Int} (w:(Lit.int .i64 z).wf=true):-9223372036854775808≤z∧z≤9223372036854775807:=by
 simpa [Lit.wf,IntKind.min,IntKind.max,IntKind.signed,IntKind.bits] using w
theorem Qc5 (hu:P.underlying t=some (.int .i64)):Opn P W t (fun n:Int=>[aI n]) (fun n=>-9223372036854775808≤n∧n≤9223372036854775807):=Opn.mk fun H enc fuel cs x h1 h2 h3=>by
 obtain ⟨n,rfl,rfl,hw⟩:=DataW.trod_int hu h1;exact ⟨n,Qh2 (.val _),fun u hu=>by obtain rfl:=List.mem_singleton.1 hu;rfl,wf_i64 hw⟩
theorem Zir (hu:P.underlying t=some .bool):Opn P W t (fun n:Bool=>[aB n]) (fun _=>True):=Opn.mk fun H enc fuel cs x h1 h2 h3=>by
 obtain ⟨n,rfl,rfl⟩:=DataW.trod_bool hu h1;exact ⟨n,Qh2 (.val _),fun u hu=>by obtain rfl:=List.mem_singleton.1 hu;rfl,trivial⟩
theorem Qgf (hu:P.underlying t=some .string):Opn P W t (fun n:List UInt8=>[aS n]) (fun n=>n.length≤140737488351232):=Opn.mk fun H enc fuel cs x h1 h2 h3=>by
 obtain ⟨s,rfl,rfl,_⟩:=DataW.trod_string hu h1;exact ⟨s.data.toList,Qh2 (.val _),fun u hu=>by obtain rfl:=List.mem_singleton.1 hu;rfl,h3 _ (by simp [DataW.weights])⟩
theorem Qgg {α:Type} {en:α→List AV} {ok:α→Prop} {e:TypeId} {k:Nat} (h:Opn P W e en ok) (a0:α) (hu:P.underlying t=some (.slice e)) (hc:P.cellsOf e=k) (hk:0<k) (hb:16≤P.bytesOf e) :
  Opn P W t (fun l:List α=>[.sl k false (l.map en)]) (fun l=>l.length≤8796093022207∧∀ a∈l,ok a):=Opn.mk fun H enc fuel cs x h1 h2 h3=>by
 obtain ⟨v,rs,rfl,hr,hd⟩:=Qj1 (k:=k) (R:=fun a cs=>Qi8 (·<W.heap.size) W (en a) cs∧(∀ u∈cs,u.oneCell'=true)∧ok a) hu hc hk a0 (fun n cs' y hy hl hcl hww=>h.run H enc n cs' y hy hl hww) h1 h2 h3;have hsz:=Qo5 hu hd h3;have:=Nat.le_trans (Nat.mul_le_mul_left rs.length hb) hsz;have hra:Ra (·<W.heap.size) W (.sl k false (rs.map en)) v:=Qo8 hr (·<W.heap.size) (fun _ h=>h) (fun a _ cs _ hR=>⟨hR.2.1,hR.1⟩);obtain ⟨A,c,rfl⟩:=hr.shape;refine ⟨rs,Qh2 hra,fun u hu=>by obtain rfl:=List.mem_singleton.1 hu;rfl,by omega,fun a ha=>?_⟩;obtain ⟨css,g1,g2,g3⟩:=hr;obtain ⟨i,hi,rfl⟩:=List.mem_iff_getElem.1 ha;exact (g3 i _ _ (List.getElem?_eq_getElem (by omega)) (List.getElem?_eq_getElem hi)).2.2.2
theorem Zab {α:Type} {en:α→List AV} {ok:α→Prop} {e:TypeId} {k:Nat} (h:Opn P W e en ok) (a0:α) (hu:P.underlying t=some (.slice e)) (hc:P.cellsOf e=k) (hk:0<k) (hb:1≤P.bytesOf e) :
  Opn P W t (fun l:List α=>[.sl k false (l.map en)]) (fun l=>l.length≤140737488351232∧∀ a∈l,ok a):=Opn.mk fun H enc fuel cs x h1 h2 h3=>by
 obtain ⟨v,rs,rfl,hr,hd⟩:=Qj1 (k:=k) (R:=fun a cs=>Qi8 (·<W.heap.size) W (en a) cs∧(∀ u∈cs,u.oneCell'=true)∧ok a) hu hc hk a0 (fun n cs' y hy hl hcl hww=>h.run H enc n cs' y hy hl hww) h1 h2 h3;have hsz:=Qo5 hu hd h3;have:=Nat.le_trans (Nat.mul_le_mul_left rs.length hb) hsz;have hra:Ra (·<W.heap.size) W (.sl k false (rs.map en)) v:=Qo8 hr (·<W.heap.size) (fun _ h=>h) (fun a _ cs _ hR=>⟨hR.2.1,hR.1⟩);obtain ⟨A,c,rfl⟩:=hr.shape;refine ⟨rs,Qh2 hra,fun u hu=>by obtain rfl:=List.mem_singleton.1 hu;rfl,by omega,fun a ha=>?_⟩;obtain ⟨css,g1,g2,g3⟩:=hr;obtain ⟨i,hi,rfl⟩:=List.mem_iff_getElem.1 ha;exact (g3 i _ _ (List.getElem?_eq_getElem (by omega)) (List.getElem?_eq_getElem hi)).2.2.2
structure OpnFs {γ:Type} (P:Program) (W:World) (N:Nat) (fs:List Field) (off:Nat) (en:γ→List AV) (ok:γ→Prop):Prop where
 run:∀ (H:Type) (enc:TypeId × Value→H) (m:Nat) (cs:List Value) (xs:List (DataW H × List MemPlace)),cs.length=N→xs.length=fs.length →
  (∀ (i:Nat) (f:Field),fs[i]?=some f→DataW.trod enc P W 0 (fun _=>true) true m f.type ((cs.drop f.offset).take (P.cellsOf f.type))=xs[i]?) →
  (∀ x∈xs,∀ p∈x.2,p.block<W.heap.size)→(∀ n∈DataW.weightsEach P (fs.map (·.type)) (xs.map (·.1)),n≤140737488351232) →
  ∃ g,Qi8 (·<W.heap.size) W (en g) (cs.drop off)∧(∀ u∈cs.drop off,u.oneCell'=true)∧ok g
theorem Qew (N:Nat):OpnFs P W N [] N (fun _:Unit=>[]) (fun _=>True):=OpnFs.mk fun H enc m cs xs h1 h2 h3 h4 h5=>by
 have:cs.drop N=[]:=List.drop_eq_nil_of_le (by omega);rw [this];exact ⟨(),⟨rfl,fun j a u ha=>by simp at ha⟩,fun u hu=>by simp at hu,trivial⟩
theorem Qt9 {D:Nat→Prop} {w:World} {xs ys:List AV} {cs ds:List Value} (h:Qi8 D w xs cs) (k:Qi8 D w ys ds):Qi8 D w (xs++ys) (cs++ds):=by
 refine ⟨by simp [h.1,k.1],fun j a u ha hu=>?_⟩;by_cases hj:j<xs.length
 ·rw [List.getElem?_append_left hj] at ha;rw [List.getElem?_append_left (by rw [h.1];exact hj)] at hu;exact h.2 j a u ha hu
 ·rw [List.getElem?_append_right (by omega)] at ha;rw [List.getElem?_append_right (by rw [h.1];omega),h.1] at hu;exact k.2 _ a u ha hu
theorem Qa8 {α γ:Type} {N off k:Nat} {f:Field} {fs:List Field} {en:α→List AV} {ok:α→Prop} {en2:γ→List AV} {ok2:γ→Prop} (h:Opn P W f.type en ok) (ho:f.offset=off) (hk:P.cellsOf f.type=k)
  (hr:OpnFs P W N fs (off+k) en2 ok2):OpnFs P W N (f :: fs) off (fun g:α × γ=>en g.1++en2 g.2) (fun g=>ok g.1∧ok2 g.2):=OpnFs.mk fun H enc m cs xs h1 h2 h3 h4 h5=>by
 obtain ⟨x0,xr,rfl⟩:∃ a r,xs=a :: r:=by
  cases xs with
  | nil=>simp at h2
  | cons a r=>exact ⟨a,r,rfl⟩
 have g0:=h3 0 f rfl;rw [ho,hk] at g0;simp only [List.map_cons,DataW.weightsEach] at h5;obtain ⟨a,ha,ha2,ha3⟩:=h.run H enc m _ x0 (by simpa using g0) (h4 x0 (by simp)) (fun n hn=>h5 n (by simp [hn]));obtain ⟨g,hg,hg2,hg3⟩:=hr.run H enc m cs xr h1 (by simpa using h2) (fun i f' hf=>by have:=h3 (i+1) f' (by simpa using hf);simpa using this) (fun x hx=>h4 x (by simp [hx])) (fun n hn=>h5 n (by simp [hn]));have e:cs.drop off=(cs.drop off).take k++cs.drop (off+k):=by
  rw [← List.drop_drop,List.take_append_drop]
 refine ⟨(a,g),?_,?_,ha3,hg3⟩
 ·rw [e];exact Qt9 ha hg
 ·intro u hu;rw [e] at hu;rcases List.mem_append.1 hu with h | h
  ·exact ha2 u h
  ·exact hg2 u h
theorem Qdc {γ:Type} {N:Nat} {fs:Array Field} {en:γ→List AV} {ok:γ→Prop} (hu:P.underlying t=some (.struct fs)) (hc:P.cellsOf t=N) (h:OpnFs P W N fs.toList 0 en ok):Opn P W t en ok:=Opn.mk fun H enc fuel cs x h1 h2 h3=>by
 obtain ⟨xs,m,_,rfl,hl,hlen,hfl⟩:=DataW.trod_struct hu h1;obtain ⟨g,g1,g2,g3⟩:=h.run H enc m cs xs (by rw [hl,hc]) (by simpa using hlen) (fun i f hf=>hfl i f (by simpa using hf)) (fun x hx p hp=>h2 p (by simp only [List.mem_flatMap];exact ⟨x,hx,hp⟩))
  (fun n hn=>h3 n (by simp only [DataW.weights,hu];exact hn))
 exact ⟨g,by simpa using g1,by simpa using g2,g3⟩
theorem Qpz {α:Type} {en:α→List AV} {ok:α→Prop} {fs:Array Field} {H:Type} {enc:TypeId × Value→H} {base:Nat} {v:Value} {d:DataW H} {p:List MemPlace} (h:Opn P W t en ok) (hu:P.underlying t=some (.struct fs)) (hv:Value.okWide P W .any base t v)
  (ht:∃ fuel,DataW.trod enc P W 0 (fun _=>true) true fuel t v.cells.toList=some (d,p)) (hlt:∀ x∈p,x.block<W.heap.size) (hw:∀ n∈DataW.weights P t d,n≤140737488351232):∃ a,Ra (·<W.heap.size) W (.agg (en a)) v∧ok a:=by
 obtain ⟨cs,rfl,_⟩:=okWide_struct hu hv;obtain ⟨fuel,ht⟩:=ht;obtain ⟨a,g1,g2,g3⟩:=h.run H enc fuel _ _ ht hlt hw;refine ⟨a,.agg _ _ (by have:=g1.1;simp [Value.cells] at this;omega) (fun j u hj=>g2 u (by have:=Array.mem_of_getElem? hj;simpa [Value.cells] using this)) (fun j x u hx hj=>g1.2 j x u hx (by simpa [Value.cells] using hj)),g3⟩
theorem Zg1 {α:Type} {x:α→AV} {ok:α→Prop} {e:TypeId} {H:Type} {enc:TypeId × Value→H} {base:Nat} {v:Value} {d:DataW H} {p:List MemPlace} (h:Opn P W t (fun a=>[x a]) ok) (hu:P.underlying t=some (.slice e)) (hv:Value.okWide P W .any base t v)
  (ht:∃ fuel,DataW.trod enc P W 0 (fun _=>true) true fuel t v.cells.toList=some (d,p)) (hlt:∀ x∈p,x.block<W.heap.size) (hw:∀ n∈DataW.weights P t d,n≤140737488351232):∃ a,Ra (·<W.heap.size) W (x a) v∧ok a:=by
 obtain ⟨A,l,c,rfl⟩:=okWide_slice hu hv;obtain ⟨fuel,ht⟩:=ht;obtain ⟨a,g1,g2,g3⟩:=h.run H enc fuel _ _ ht hlt hw;exact ⟨a,g1.2 0 _ _ rfl rfl,g3⟩
def RaL (D:Nat→Prop) (w:World):List AV→List Value→Prop
 | [],[]=>True
 | x :: xs,v :: vs=>Ra D w x v∧RaL D w xs vs
 | _,_=>False
theorem Zkv {D:Nat→Prop} {w:World}:∀ (xs:List AV) (vs:List Value),RaL D w xs vs→Qde D w xs vs.toArray
 | [],[],_=>⟨rfl,fun j a u ha=>by simp at ha⟩
 | x :: xs,v :: vs,h=>by
  have ih:=Zkv xs vs h.2;refine ⟨by have:=ih.1;simp at this ⊢;exact this,fun j a u ha hu=>?_⟩;cases j with
  | zero=>simp at ha hu;subst ha hu;exact h.1
  | succ j=>exact ih.2 j a u (by simpa using ha) (by simpa using hu)
 | [],_ :: _,h=>h.elim
 | _ :: _,[],h=>h.elim
theorem Zan {f:FuncId} {args:List AV} {vs:Array Value} {w:World} (h:Qah P f args (aB true)) (hv:Qde (·<w.heap.size) w args vs) :
  Calls P f vs w (fun e w'=>e=.returned (.bool true)∧Below w.heap.size w w'):=by
 refine (h _ w vs (fun _ h=>h) hv).mono ?_;rintro e w' ⟨v,D',rfl,hb,_,_,hr⟩;cases hr;exact ⟨rfl,hb⟩
end
end Copyhold
