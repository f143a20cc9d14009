import Derived.Test.YtahlldgocpabjaaGreatMrgAR
import Derived.Test.YtahlldgocpabjaaGreatMrgAO
import Derived.Test.YtahlldgocpabjaaGreatMrgAF
import Derived.Test.YtahlldgocpabjaaGreatMrgH
import Derived.Test.YtahlldgocpabjaaGreatMrgJ
import Derived.Test.YtahlldgocpabjaaGreatRows
set_option maxRecDepth 100000
set_option maxHeartbeats 8000000
set_option linter.unusedVariables false
set_option linter.unusedSimpArgs false
namespace Go.Proofs.YtahlldgocpabjaaGreat
open Go Go.RowKit Copyhold Go.Proofs.Tryz
theorem Qf6:∀ (l:List Cal) {t:Txn},Asc t.looks→Asc (Qad t l).looks
 | [],_,h=>h
 | c :: r,t,_=>Qf6 r (Zb5 t c)
theorem Qm2 (t:Txn) (l:List Cal) (okt:OkT t) (T:TreeP t.now) (hf:fewF t.now) (hl:l.length≤30) (ok:∀ c∈l,OkCal c) (htx:∀ c∈l,c.text.length≤500000) (hx:t.now.next<1152921504606847976) (hk0:t.looks.length≤1000) (ha:Asc t.looks):Qah prog 41 [.agg (txnA t),.sl 8 false (l.map calA)] (.tup [.agg (txnA (Qad t l)),.sl 6 false ((plR t.now l).map repA)]):=by
 exact Qab func41 (
 .new fun b1=>.new fun b2=>.r 1<|.r 1<|.rowNil 6 6 45 6<|.r 1<|let L1:Lp (Nat × Value):=⟨fun a1=>⟨[(1,.sl 8 false (l.map calA)),(2,.ptr 2 b1 0),(4,.ptr 4 b2 0),(7,aI (a1.1:Int)),(6,.rw 6 a1.2 ((plR t.now (l.take a1.1)).length))],[(2,.box b1 31 [aI ((Qad t (l.take a1.1)).stamp),.sl 5 false ((Qad t (l.take a1.1)).was.l.map nodA),aI ((Qad t (l.take a1.1)).was.next),.sl 5 false ((Qad t (l.take a1.1)).now.l.map nodA),aI ((Qad t (l.take a1.1)).now.next),.sl 1 false ((Qad t (l.take a1.1)).looks.map intA)]),(4,.box b2 31 [aI 0,aN,aI 0,aN,aI 0,aN]),(6,.row a1.2 45 6 ((plR t.now (l.take a1.1)).map repA))]⟩,fun a1=>l.length-a1.1,fun a1=>a1.1≤l.length⟩
 .lp L1 (0,.slice none 0 0) (show 0≤l.length from Nat.zero_le _) [(7,aI 0),(6,.rw 6 (.slice none 0 0) 0)] [(2,.box b1 31 (txnA t)),(6,.row (.slice none 0 0) 45 6 ([]))] ⟨sR,sR,sR,sO,Sub.of_eq rfl,trivial⟩ ⟨⟨_,rfl,SubB.of_eq rfl⟩,sB,⟨_,rfl,SubB.of_eq rfl⟩,trivial⟩ fun a1 ha1=>
 (fun (k:Nat) (V:Value) (hH1:k≤l.length)=>have kt:=Qiv okt T (by omega) ok hx hk0 (k:=k) (by omega);have kp:=kt.now;have kp2:=kp.next;have kl:=kt.len;.r 3<|.lm 12 l calA<|.r 1<|.bd 13 ((k:Int)<(l.length:Int)) (fun p1=>.pick [0,1,2,3,4]<|.u 3 [b1]<|
 .idxM l calA k (m:=(k:Int)) rfl (by omega) fun x1 hx1=>
 have okx1:=ok x1 (List.mem_of_getElem? hx1);have txx1:=htx x1 (List.mem_of_getElem? hx1);.r 1<|.fork<|.alt (.call (Qf8 (Qad t (l.take k)) x1 kp.ok okx1 kp.tree.rows (by omega) (by omega) kp.tree (Qd1 hf (by omega) kp) txx1 (Qf6 _ ha))<|
 .pick [6,7,8]<|.r 3<|.fork<|.alt (.new fun b3=>.pick [10,11,12]<|.new fun b4=>.u 2 [b3,b4]<|
 .u 2 [b3,b1]<|
 .u 3 [b4]<|
 .app 72 V ((plR t.now (l.take k)).map repA) ([[aI ((doF (Qad t (l.take k)).now x1).2.e),aI ((doF (Qad t (l.take k)).now x1).2.a),aI ((doF (Qad t (l.take k)).now x1).2.b),aI ((doF (Qad t (l.take k)).now x1).2.n),aS ((doF (Qad t (l.take k)).now x1).2.text),.sl 1 false ((doF (Qad t (l.take k)).now x1).2.names.map txA)]]) (by have hw:=Qa7 (f:=t.now) (l:=l) (k:=k) (by omega);simp only [List.length_map,List.length_cons,List.length_nil];omega) (by have hw:=Qa7 (f:=t.now) (l:=l) (k:=k) (by omega);simp only [List.length_map,List.length_cons,List.length_nil];omega) fun V1=>
 .r 1<|.run 3 [rng .i64 ((k:Int)+1)] ⟨Qaj (by omega) (by omega),trivial⟩<|
 .bk L1 (k,V) ((k+1),V1) (show (k+1)≤l.length from (by show _≤_;omega)) (show l.length-(k+1)<l.length-k from (by omega)) [(7,aI ((k:Int)+1)),(6,.rw 6 V1 (((plR t.now (l.take k)).map repA).length+([[aI ((doF (Qad t (l.take k)).now x1).2.e),aI ((doF (Qad t (l.take k)).now x1).2.a),aI ((doF (Qad t (l.take k)).now x1).2.b),aI ((doF (Qad t (l.take k)).now x1).2.n),aS ((doF (Qad t (l.take k)).now x1).2.text),.sl 1 false ((doF (Qad t (l.take k)).now x1).2.names.map txA)]]:List (List AV)).length))] [(2,.box b1 31 [aI ((Qb1 (Qad t (l.take k)) x1).stamp),.sl 5 false ((Qb1 (Qad t (l.take k)) x1).was.l.map nodA),aI ((Qb1 (Qad t (l.take k)) x1).was.next),.sl 5 false ((Qb1 (Qad t (l.take k)) x1).now.l.map nodA),aI ((Qb1 (Qad t (l.take k)) x1).now.next),.sl 1 false ((Qb1 (Qad t (l.take k)) x1).looks.map intA)]),(6,.row V1 45 6 (((plR t.now (l.take k)).map repA)++([[aI ((doF (Qad t (l.take k)).now x1).2.e),aI ((doF (Qad t (l.take k)).now x1).2.a),aI ((doF (Qad t (l.take k)).now x1).2.b),aI ((doF (Qad t (l.take k)).now x1).2.n),aS ((doF (Qad t (l.take k)).now x1).2.text),.sl 1 false ((doF (Qad t (l.take k)).now x1).2.names.map txA)]])))] ⟨sR,sR,sR,sO,Sub.of_eq (congrArg (AV.rw 6 V1) (by rw [Qcm hx1];simp)),trivial⟩ ⟨⟨_,rfl,SubB.of_eq (by rw [Qec hx1])⟩,sB,⟨_,rfl,SubB.of_eq (by rw [Qcm hx1];simp [repA])⟩,trivial⟩)
 <| .new fun b5=>.pick [9,11,12]<|.new fun b6=>.u 2 [b6,b5]<|
 .u 2 [b6,b1]<|
 .u 3 [b5]<|
 .app 72 V ((plR t.now (l.take k)).map repA) ([[aI ((doF (Qad t (l.take k)).now x1).2.e),aI ((doF (Qad t (l.take k)).now x1).2.a),aI ((doF (Qad t (l.take k)).now x1).2.b),aI ((doF (Qad t (l.take k)).now x1).2.n),aS ((doF (Qad t (l.take k)).now x1).2.text),.sl 1 false ((doF (Qad t (l.take k)).now x1).2.names.map txA)]]) (by have hw:=Qa7 (f:=t.now) (l:=l) (k:=k) (by omega);simp only [List.length_map,List.length_cons,List.length_nil];omega) (by have hw:=Qa7 (f:=t.now) (l:=l) (k:=k) (by omega);simp only [List.length_map,List.length_cons,List.length_nil];omega) fun V2=>
 .r 1<|.run 3 [rng .i64 ((k:Int)+1)] ⟨Qaj (by omega) (by omega),trivial⟩<|
 .bk L1 (k,V) ((k+1),V2) (show (k+1)≤l.length from (by show _≤_;omega)) (show l.length-(k+1)<l.length-k from (by omega)) [(7,aI ((k:Int)+1)),(6,.rw 6 V2 (((plR t.now (l.take k)).map repA).length+([[aI ((doF (Qad t (l.take k)).now x1).2.e),aI ((doF (Qad t (l.take k)).now x1).2.a),aI ((doF (Qad t (l.take k)).now x1).2.b),aI ((doF (Qad t (l.take k)).now x1).2.n),aS ((doF (Qad t (l.take k)).now x1).2.text),.sl 1 false ((doF (Qad t (l.take k)).now x1).2.names.map txA)]]:List (List AV)).length))] [(2,.box b1 31 [aI ((Qb1 (Qad t (l.take k)) x1).stamp),.sl 5 false ((Qb1 (Qad t (l.take k)) x1).was.l.map nodA),aI ((Qb1 (Qad t (l.take k)) x1).was.next),.sl 5 false ((Qb1 (Qad t (l.take k)) x1).now.l.map nodA),aI ((Qb1 (Qad t (l.take k)) x1).now.next),.sl 1 false ((Qb1 (Qad t (l.take k)) x1).looks.map intA)]),(6,.row V2 45 6 (((plR t.now (l.take k)).map repA)++([[aI ((doF (Qad t (l.take k)).now x1).2.e),aI ((doF (Qad t (l.take k)).now x1).2.a),aI ((doF (Qad t (l.take k)).now x1).2.b),aI ((doF (Qad t (l.take k)).now x1).2.n),aS ((doF (Qad t (l.take k)).now x1).2.text),.sl 1 false ((doF (Qad t (l.take k)).now x1).2.names.map txA)]])))] ⟨sR,sR,sR,sO,Sub.of_eq (congrArg (AV.rw 6 V2) (by rw [Qcm hx1];simp)),trivial⟩ ⟨⟨_,rfl,SubB.of_eq (by rw [Qec hx1])⟩,sB,⟨_,rfl,SubB.of_eq (by rw [Qcm hx1];simp [repA])⟩,trivial⟩)
 <| .alt (.new fun b7=>.fork<|.alt (.call (Qf8 (Qad t (l.take k)) x1 kp.ok okx1 kp.tree.rows (by omega) (by omega) kp.tree (Qd1 hf (by omega) kp) txx1 (Qf6 _ ha))<|
 .pick [6,7,8,10,11,12]<|.r 3<|.new fun b8=>.u 2 [b7,b8]<|
 .u 2 [b7,b1]<|
 .u 3 [b8]<|
 .app 72 V ((plR t.now (l.take k)).map repA) ([[aI ((doF (Qad t (l.take k)).now x1).2.e),aI ((doF (Qad t (l.take k)).now x1).2.a),aI ((doF (Qad t (l.take k)).now x1).2.b),aI ((doF (Qad t (l.take k)).now x1).2.n),aS ((doF (Qad t (l.take k)).now x1).2.text),.sl 1 false ((doF (Qad t (l.take k)).now x1).2.names.map txA)]]) (by have hw:=Qa7 (f:=t.now) (l:=l) (k:=k) (by omega);simp only [List.length_map,List.length_cons,List.length_nil];omega) (by have hw:=Qa7 (f:=t.now) (l:=l) (k:=k) (by omega);simp only [List.length_map,List.length_cons,List.length_nil];omega) fun V3=>
 .r 1<|.run 3 [rng .i64 ((k:Int)+1)] ⟨Qaj (by omega) (by omega),trivial⟩<|
 .bk L1 (k,V) ((k+1),V3) (show (k+1)≤l.length from (by show _≤_;omega)) (show l.length-(k+1)<l.length-k from (by omega)) [(7,aI ((k:Int)+1)),(6,.rw 6 V3 (((plR t.now (l.take k)).map repA).length+([[aI ((doF (Qad t (l.take k)).now x1).2.e),aI ((doF (Qad t (l.take k)).now x1).2.a),aI ((doF (Qad t (l.take k)).now x1).2.b),aI ((doF (Qad t (l.take k)).now x1).2.n),aS ((doF (Qad t (l.take k)).now x1).2.text),.sl 1 false ((doF (Qad t (l.take k)).now x1).2.names.map txA)]]:List (List AV)).length))] [(2,.box b1 31 [aI ((Qb1 (Qad t (l.take k)) x1).stamp),.sl 5 false ((Qb1 (Qad t (l.take k)) x1).was.l.map nodA),aI ((Qb1 (Qad t (l.take k)) x1).was.next),.sl 5 false ((Qb1 (Qad t (l.take k)) x1).now.l.map nodA),aI ((Qb1 (Qad t (l.take k)) x1).now.next),.sl 1 false ((Qb1 (Qad t (l.take k)) x1).looks.map intA)]),(6,.row V3 45 6 (((plR t.now (l.take k)).map repA)++([[aI ((doF (Qad t (l.take k)).now x1).2.e),aI ((doF (Qad t (l.take k)).now x1).2.a),aI ((doF (Qad t (l.take k)).now x1).2.b),aI ((doF (Qad t (l.take k)).now x1).2.n),aS ((doF (Qad t (l.take k)).now x1).2.text),.sl 1 false ((doF (Qad t (l.take k)).now x1).2.names.map txA)]])))] ⟨sR,sR,sR,sO,Sub.of_eq (congrArg (AV.rw 6 V3) (by rw [Qcm hx1];simp)),trivial⟩ ⟨⟨_,rfl,SubB.of_eq (by rw [Qec hx1])⟩,sB,⟨_,rfl,SubB.of_eq (by rw [Qcm hx1];simp [repA])⟩,trivial⟩)
 <| .new fun b9=>.pick [5,6,7,8,11,12]<|.call (Qf8 (Qad t (l.take k)) x1 kp.ok okx1 kp.tree.rows (by omega) (by omega) kp.tree (Qd1 hf (by omega) kp) txx1 (Qf6 _ ha))<|
 .u 5 [b7,b9]<|
 .u 2 [b7,b1]<|
 .u 3 [b9]<|
 .app 72 V ((plR t.now (l.take k)).map repA) ([[aI ((doF (Qad t (l.take k)).now x1).2.e),aI ((doF (Qad t (l.take k)).now x1).2.a),aI ((doF (Qad t (l.take k)).now x1).2.b),aI ((doF (Qad t (l.take k)).now x1).2.n),aS ((doF (Qad t (l.take k)).now x1).2.text),.sl 1 false ((doF (Qad t (l.take k)).now x1).2.names.map txA)]]) (by have hw:=Qa7 (f:=t.now) (l:=l) (k:=k) (by omega);simp only [List.length_map,List.length_cons,List.length_nil];omega) (by have hw:=Qa7 (f:=t.now) (l:=l) (k:=k) (by omega);simp only [List.length_map,List.length_cons,List.length_nil];omega) fun V4=>
 .r 1<|.run 3 [rng .i64 ((k:Int)+1)] ⟨Qaj (by omega) (by omega),trivial⟩<|
 .bk L1 (k,V) ((k+1),V4) (show (k+1)≤l.length from (by show _≤_;omega)) (show l.length-(k+1)<l.length-k from (by omega)) [(7,aI ((k:Int)+1)),(6,.rw 6 V4 (((plR t.now (l.take k)).map repA).length+([[aI ((doF (Qad t (l.take k)).now x1).2.e),aI ((doF (Qad t (l.take k)).now x1).2.a),aI ((doF (Qad t (l.take k)).now x1).2.b),aI ((doF (Qad t (l.take k)).now x1).2.n),aS ((doF (Qad t (l.take k)).now x1).2.text),.sl 1 false ((doF (Qad t (l.take k)).now x1).2.names.map txA)]]:List (List AV)).length))] [(2,.box b1 31 [aI ((Qb1 (Qad t (l.take k)) x1).stamp),.sl 5 false ((Qb1 (Qad t (l.take k)) x1).was.l.map nodA),aI ((Qb1 (Qad t (l.take k)) x1).was.next),.sl 5 false ((Qb1 (Qad t (l.take k)) x1).now.l.map nodA),aI ((Qb1 (Qad t (l.take k)) x1).now.next),.sl 1 false ((Qb1 (Qad t (l.take k)) x1).looks.map intA)]),(6,.row V4 45 6 (((plR t.now (l.take k)).map repA)++([[aI ((doF (Qad t (l.take k)).now x1).2.e),aI ((doF (Qad t (l.take k)).now x1).2.a),aI ((doF (Qad t (l.take k)).now x1).2.b),aI ((doF (Qad t (l.take k)).now x1).2.n),aS ((doF (Qad t (l.take k)).now x1).2.text),.sl 1 false ((doF (Qad t (l.take k)).now x1).2.names.map txA)]])))] ⟨sR,sR,sR,sO,Sub.of_eq (congrArg (AV.rw 6 V4) (by rw [Qcm hx1];simp)),trivial⟩ ⟨⟨_,rfl,SubB.of_eq (by rw [Qec hx1])⟩,sB,⟨_,rfl,SubB.of_eq (by rw [Qcm hx1];simp [repA])⟩,trivial⟩)
 <| .new fun b10=>.fork<|.alt (.call (Qf8 (Qad t (l.take k)) x1 kp.ok okx1 kp.tree.rows (by omega) (by omega) kp.tree (Qd1 hf (by omega) kp) txx1 (Qf6 _ ha))<|
 .pick [6,7,8,9,11,12]<|.r 3<|.new fun b11=>.u 2 [b11,b10]<|
 .u 2 [b11,b1]<|
 .u 3 [b10]<|
 .app 72 V ((plR t.now (l.take k)).map repA) ([[aI ((doF (Qad t (l.take k)).now x1).2.e),aI ((doF (Qad t (l.take k)).now x1).2.a),aI ((doF (Qad t (l.take k)).now x1).2.b),aI ((doF (Qad t (l.take k)).now x1).2.n),aS ((doF (Qad t (l.take k)).now x1).2.text),.sl 1 false ((doF (Qad t (l.take k)).now x1).2.names.map txA)]]) (by have hw:=Qa7 (f:=t.now) (l:=l) (k:=k) (by omega);simp only [List.length_map,List.length_cons,List.length_nil];omega) (by have hw:=Qa7 (f:=t.now) (l:=l) (k:=k) (by omega);simp only [List.length_map,List.length_cons,List.length_nil];omega) fun V5=>
 .r 1<|.run 3 [rng .i64 ((k:Int)+1)] ⟨Qaj (by omega) (by omega),trivial⟩<|
 .bk L1 (k,V) ((k+1),V5) (show (k+1)≤l.length from (by show _≤_;omega)) (show l.length-(k+1)<l.length-k from (by omega)) [(7,aI ((k:Int)+1)),(6,.rw 6 V5 (((plR t.now (l.take k)).map repA).length+([[aI ((doF (Qad t (l.take k)).now x1).2.e),aI ((doF (Qad t (l.take k)).now x1).2.a),aI ((doF (Qad t (l.take k)).now x1).2.b),aI ((doF (Qad t (l.take k)).now x1).2.n),aS ((doF (Qad t (l.take k)).now x1).2.text),.sl 1 false ((doF (Qad t (l.take k)).now x1).2.names.map txA)]]:List (List AV)).length))] [(2,.box b1 31 [aI ((Qb1 (Qad t (l.take k)) x1).stamp),.sl 5 false ((Qb1 (Qad t (l.take k)) x1).was.l.map nodA),aI ((Qb1 (Qad t (l.take k)) x1).was.next),.sl 5 false ((Qb1 (Qad t (l.take k)) x1).now.l.map nodA),aI ((Qb1 (Qad t (l.take k)) x1).now.next),.sl 1 false ((Qb1 (Qad t (l.take k)) x1).looks.map intA)]),(6,.row V5 45 6 (((plR t.now (l.take k)).map repA)++([[aI ((doF (Qad t (l.take k)).now x1).2.e),aI ((doF (Qad t (l.take k)).now x1).2.a),aI ((doF (Qad t (l.take k)).now x1).2.b),aI ((doF (Qad t (l.take k)).now x1).2.n),aS ((doF (Qad t (l.take k)).now x1).2.text),.sl 1 false ((doF (Qad t (l.take k)).now x1).2.names.map txA)]])))] ⟨sR,sR,sR,sO,Sub.of_eq (congrArg (AV.rw 6 V5) (by rw [Qcm hx1];simp)),trivial⟩ ⟨⟨_,rfl,SubB.of_eq (by rw [Qec hx1])⟩,sB,⟨_,rfl,SubB.of_eq (by rw [Qcm hx1];simp [repA])⟩,trivial⟩)
 <| .new fun b12=>.pick [5,6,7,8,11,12]<|.call (Qf8 (Qad t (l.take k)) x1 kp.ok okx1 kp.tree.rows (by omega) (by omega) kp.tree (Qd1 hf (by omega) kp) txx1 (Qf6 _ ha))<|
 .u 5 [b12,b10]<|
 .u 2 [b12,b1]<|
 .u 3 [b10]<|
 .app 72 V ((plR t.now (l.take k)).map repA) ([[aI ((doF (Qad t (l.take k)).now x1).2.e),aI ((doF (Qad t (l.take k)).now x1).2.a),aI ((doF (Qad t (l.take k)).now x1).2.b),aI ((doF (Qad t (l.take k)).now x1).2.n),aS ((doF (Qad t (l.take k)).now x1).2.text),.sl 1 false ((doF (Qad t (l.take k)).now x1).2.names.map txA)]]) (by have hw:=Qa7 (f:=t.now) (l:=l) (k:=k) (by omega);simp only [List.length_map,List.length_cons,List.length_nil];omega) (by have hw:=Qa7 (f:=t.now) (l:=l) (k:=k) (by omega);simp only [List.length_map,List.length_cons,List.length_nil];omega) fun V6=>
 .r 1<|.run 3 [rng .i64 ((k:Int)+1)] ⟨Qaj (by omega) (by omega),trivial⟩<|
 .bk L1 (k,V) ((k+1),V6) (show (k+1)≤l.length from (by show _≤_;omega)) (show l.length-(k+1)<l.length-k from (by omega)) [(7,aI ((k:Int)+1)),(6,.rw 6 V6 (((plR t.now (l.take k)).map repA).length+([[aI ((doF (Qad t (l.take k)).now x1).2.e),aI ((doF (Qad t (l.take k)).now x1).2.a),aI ((doF (Qad t (l.take k)).now x1).2.b),aI ((doF (Qad t (l.take k)).now x1).2.n),aS ((doF (Qad t (l.take k)).now x1).2.text),.sl 1 false ((doF (Qad t (l.take k)).now x1).2.names.map txA)]]:List (List AV)).length))] [(2,.box b1 31 [aI ((Qb1 (Qad t (l.take k)) x1).stamp),.sl 5 false ((Qb1 (Qad t (l.take k)) x1).was.l.map nodA),aI ((Qb1 (Qad t (l.take k)) x1).was.next),.sl 5 false ((Qb1 (Qad t (l.take k)) x1).now.l.map nodA),aI ((Qb1 (Qad t (l.take k)) x1).now.next),.sl 1 false ((Qb1 (Qad t (l.take k)) x1).looks.map intA)]),(6,.row V6 45 6 (((plR t.now (l.take k)).map repA)++([[aI ((doF (Qad t (l.take k)).now x1).2.e),aI ((doF (Qad t (l.take k)).now x1).2.a),aI ((doF (Qad t (l.take k)).now x1).2.b),aI ((doF (Qad t (l.take k)).now x1).2.n),aS ((doF (Qad t (l.take k)).now x1).2.text),.sl 1 false ((doF (Qad t (l.take k)).now x1).2.names.map txA)]])))] ⟨sR,sR,sR,sO,Sub.of_eq (congrArg (AV.rw 6 V6) (by rw [Qcm hx1];simp)),trivial⟩ ⟨⟨_,rfl,SubB.of_eq (by rw [Qec hx1])⟩,sB,⟨_,rfl,SubB.of_eq (by rw [Qcm hx1];simp [repA])⟩,trivial⟩)
 <| fun p1=>.u 4 [b1,b2]<|
 .frz 6 [4,5] [4] [V=V,(plR t.now (l.take k)).length=((plR t.now (l.take k)).map repA).length] ⟨rfl,(by first | rfl | (simp;done) | (simp;omega)),trivial⟩<|
 .f (.tup [.agg (txnA (Qad t l)),.sl 6 false ((plR t.now l).map repA)]) [b2] (.tup [.agg [aI ((Qad t (l.take k)).stamp),.sl 5 false ((Qad t (l.take k)).was.l.map nodA),aI ((Qad t (l.take k)).was.next),.sl 5 false ((Qad t (l.take k)).now.l.map nodA),aI ((Qad t (l.take k)).now.next),.sl 1 false ((Qad t (l.take k)).looks.map intA)],.sl 6 false ((plR t.now (l.take k)).map repA)]) (by
  rw [show l.take k=l from Qav (by omega)]
  first | exact sR | exact Sub.tups ⟨sR,Sub.loose _ _ _,trivial⟩)) a1.1 a1.2 ha1)
theorem Zcg {s:Sto} {g:Fsy} (hp:Qcf s) (hw:Qaq (Qb5 s s.stamp)) (hg:Qaq g) (hx:(Qb5 s s.stamp).next≤g.next):Qb5 (Qc1 s (Qbj (Qb5 s s.stamp) g) g.next) (s.stamp+1)=g:=by
 have h1:=Qjl (Qb5 s s.stamp) g;have hm:=Qjm hw hg;have hn:1≤g.next:=hg.2.1;refine Qn1 (Qml (Qix hp h1 hm hn) _) (Qaf hg) (fun i=>?_) ?_
 ·rw [Zbu hp h1 hm hn];rcases Qrr (f:=Qb5 s s.stamp) hg i with ⟨hc,he⟩ | ⟨c,hc,he,_⟩
  ·rw [hc];exact he
  ·rw [hc];exact he
 ·show Qhx _ _=_;rw [Zd0 hp];have:Qhx s s.stamp≤g.next:=hx;unfold maxD
  split<;>omega
theorem Qn2 {s:Sto} {l:List Cal} (oks:OkS s) (hg:Zav s) (hl:l.length≤30) (ok:∀ c∈l,OkCal c) :
  ∀ t,t=Qad (Qag s) l→KeptT (Qag s) t l.length∧TreeP (Qag s).now∧¬ Qft s t∧(Qbu s t).2=0∧Qb5 (Qbu s t).1 (Qbu s t).1.stamp=t.now∧((Qbu s t).1=s↔t.was=t.now)∧Qcf (Qbu s t).1∧Fit (Qbu s t).1 713∧Qaq t.was:=by
 rintro t rfl;obtain ⟨g1,hp,g3,g4,g5,g6⟩:=hg;have T:TreeP (Qag s).now:=Qvn g4 g5;have K:=Qiv (Qi6 oks) T (l:=l) (by omega) ok (by show (Qb5 s s.stamp).next<_;omega) (by show ([]:List Int).length≤_;simp) (k:=l.length) (Nat.le_refl _);rw [List.take_length] at K;have hwas:(Qad (Qag s) l).was=Qb5 s s.stamp:=K.was;have hw:Qaq (Qad (Qag s) l).was:=by rw [hwas];exact g5.1
 have hst:(Qad (Qag s) l).stamp=s.stamp:=Qc6 l _;have hnc:¬ Qft s (Qad (Qag s) l):=by
  rintro ⟨x,hx,_⟩;rw [hst,Qo8 hp] at hx;cases hx
 have hfit:=Zfl oks g1;refine ⟨K,T,hnc,?_⟩;by_cases hi:(Qad (Qag s) l).was=(Qad (Qag s) l).now
 ·rw [Qg9 (Qax.2 hi)];exact ⟨rfl,hwas.symm.trans hi,⟨fun _=>hi,fun _=>rfl⟩,hp,⟨hfit.ok,Nat.le_trans hfit.l (by omega),Nat.le_trans hfit.n (by omega),fun c hc=>Nat.le_trans (hfit.r c hc) (by omega)⟩,hw⟩
 ·rw [Qfe (Qac.2 hi) (Qac.2 hnc)];have hn:=K.now.tree.rows;have hlen:=Qha (Qad (Qag s) l).was (Qad (Qag s) l).now;have:=hw.1;have:=hn.1;have F:=hfit.inst (Qpz K.ok.was K.ok.now) (next:=(Qad (Qag s) l).now.next) K.ok.now.1 (by omega) (by omega);refine ⟨rfl,?_,⟨fun h=>?_,fun h=>absurd h hi⟩,Qix hp (Qjl _ _) (Qjm hw hn) hn.2.1,⟨F.ok,Nat.le_trans F.l (by omega),Nat.le_trans F.n (by omega),fun c hc=>Nat.le_trans (F.r c hc) (by omega)⟩,hw⟩
  ·show Qb5 (Qc1 s _ _) (s.stamp+1)=_;rw [hwas];exact Zcg hp g5.1 hn (by have:=K.now.next.1;exact this)
  ·have:=congrArg Sto.stamp h;have e:(Qc1 s (Qbj (Qad (Qag s) l).was (Qad (Qag s) l).now) (Qad (Qag s) l).now.next).stamp=s.stamp+1:=rfl;simp only [e] at this;omega
theorem Qsy (s:Sto) (t:Txn) (ms:MidS s) (hp:Qcf s) (okt:OkT t) (hw:Qaq t.was) (hn:Qaq t.now):Qah prog 31 [.agg (stoA s),.agg (txnA t)] (.tup [.agg (stoA (Qbu s t).1),aI (Qbu s t).2]):=by
 exact Qab func31 (
 .new fun b1=>.new fun b2=>.new fun b3=>.r 1<|.u 4 [b2,b2]<|
 .call (Qpo t.was t.now okt.was okt.now)<|
 .r 1<|.r 1<|.br 13 (dP (t.was=t.now)) (fun q1=>have p1:=booT q1;.u 3 [b1,b3]<|
 .f (.tup [.agg (stoA (Qbu s t).1),aI (Qbu s t).2]) [b3] (.tup [.agg (stoA s),aI 0]) (by
  rw [Qg9 q1];exact sR))
 <| fun q1=>have p1:=booF q1;.u 2 [b1,b2]<|
 .call (Qvr s t ms.ok (by have:=ms.l;omega) okt)<|
 .r 1<|.r 1<|.br 18 (dP (Qft s t)) (fun q2=>have p2:=booT q2;.u 3 [b1,b3]<|
 .f (.tup [.agg (stoA (Qbu s t).1),aI (Qbu s t).2]) [b3] (.tup [.agg (stoA s),aI 15]) (by
  rw [Qh6 q1 q2];exact sR))
 <| fun q2=>have p2:=booF q2;.ord [0,1,2,3,4,6,7,8,5,9,10,11]<|.u 8 [b1,b2,b2,b2]<|
 .call (Qql t.was t.now okt.was okt.now (by have:=hw.1;omega) (by have:=hn.1;omega))<|
 .call (Qqi s (Qbj t.was t.now) t.now.next ms.ok hp ms.l (by have:=Qha t.was t.now;have:=hw.1;have:=hn.1;omega) ms.nexts ms.rows ms.stamp)<|
 .u 2 [b3]<|
 .f (.tup [.agg (stoA (Qbu s t).1),aI (Qbu s t).2]) [b3] (.tup [.agg [.sl 2 false ((Qc1 s (Qbj t.was t.now) t.now.next).l.map chnA),.sl 2 false ((Qc1 s (Qbj t.was t.now) t.now.next).nexts.map cntA),aI ((Qc1 s (Qbj t.was t.now) t.now.next).stamp)],aI 0]) (by
  rw [Qfe q1 q2];exact sR))
theorem Zcm (s:Sto) (l:List Cal) (ms:MidS s) (hp:Qcf s) (T:TreeP (Qag s).now) (hf:fewF (Qag s).now) (hl:l.length≤30) (ok:∀ c∈l,OkCal c) (htx:∀ c∈l,c.text.length≤500000) (hx:(Qag s).now.next<1152921504606847976):Qah prog 33 [.agg (stoA s),.sl 8 false (l.map calA)] (.tup [.agg (stoA (runD s l)),.sl 6 false ((plR (Qag s).now l).map repA)]):=by
 have kt:=Qiv (Qi6 ms.ok) T (by omega) ok hx (by show ([]:List Int).length≤_;simp) (Nat.le_refl l.length);rw [List.take_length] at kt;exact Qab func33 (let R:AV:=.tup [.agg (stoA (runD s l)),.sl 6 false ((plR (Qag s).now l).map repA)];
 .new fun b1=>.new fun b2=>.r 1<|.u 1 [b1]<|
 .call (Qvt s ms.ok (by have:=ms.l;omega))<|
 .r 1<|.call (Qm2 (Qag s) l (Qi6 ms.ok) T hf hl ok htx hx (by show ([]:List Int).length≤_;simp) List.Pairwise.nil)<|
 .r 3<|.new fun b3=>.u 2 [b3]<|
 .u 2 [b1,b3]<|
 .call (Qsy s (Qad (Qag s) l) ms hp kt.ok (by rw [kt.was];exact T.rows) kt.now.tree.rows)<|
 .r 3<|.new fun b4=>.u 2 [b4]<|
 .u 4 [b4,b2]<|
 .fi R [b2])
theorem Zhx {s:Sto} {l:List Cal} (oks:OkS s) (hg:Zav s) (hl:l.length≤30) (ok:∀ c∈l,OkCal c):Qb5 (runD s l) s.stamp=Qb5 s s.stamp∧Fit (runD s l) 713:=by
 obtain ⟨K,T,f3,f4,f5,f6,f7,f8,f9⟩:=Qn2 oks hg hl ok _ rfl;refine ⟨?_,f8⟩;unfold runD;by_cases hi:(Qad (Qag s) l).was=(Qad (Qag s) l).now
 ·rw [Qg9 (Qax.2 hi)]
 ·rw [Qfe (Qac.2 hi) (Qac.2 f3)];exact Zbt hg.2.1 (Qjl _ _) (Qjm f9 K.now.tree.rows) K.now.tree.rows.2.1 (Int.le_refl _)
structure Ses where
 s:Sto
 l:List Cal
 o:List Cal
 c:Cal
def sesA (a:Ses):List AV:=[.sl 2 false (a.s.l.map chnA),.sl 2 false (a.s.nexts.map cntA),aI a.s.stamp,.sl 8 false (a.l.map calA),.sl 8 false (a.o.map calA),aI a.c.kind,aI a.c.ino,aI a.c.to,aI a.c.at_,aI a.c.many,aS a.c.name,aS a.c.name2,aS a.c.text]
structure OkSes (a:Ses):Prop where
 s:OkS a.s
 ll:a.l.length≤8796093022207
 l:∀ c∈a.l,OkC0 c
 lo:a.o.length≤8796093022207
 o:∀ c∈a.o,OkC0 c
 c:OkC0 a.c
theorem Zhg (s:Sto) (l:List Cal) (c:Cal):(doF (plF (Qb5 s s.stamp) l) c).2=(doF (Qad (Qag s) l).now c).2:=by rw [Qf5];rfl
theorem Qon (s:Sto) (l o:List Cal) (c:Cal) (oks:OkS s) (hll:l.length≤8796093022207) (okl:∀ c∈l,OkC0 c) (hlo:o.length≤8796093022207) (oklo:∀ c∈o,OkC0 c) (okc0:OkC0 c):Qah prog 10 [.agg [.sl 2 false (s.l.map chnA),.sl 2 false (s.nexts.map cntA),aI s.stamp,.sl 8 false (l.map calA),.sl 8 false (o.map calA),aI c.kind,aI c.ino,aI c.to,aI c.at_,aI c.many,aS c.name,aS c.name2,aS c.text]] (aB true):=by
 exact Qab func10 (
 .new fun b1=>.r 1<|.u 2 [b1]<|
 .new fun b2=>.u 1 [b2]<|
 .u 3 [b1]<|
 .u 3 [b1]<|
 .u 2 [b1]<|
 .new fun b3=>.u 1 [b3]<|
 .call (Zls)<|
 .r 1<|.u 1 [b2]<|
 .call (Qz0 s oks)<|
 .r 2<|.br 30 (!(dP (Zav s))) (fun q1=>have q1:=notT q1;have p1:=booF q1;.r 15<|.r 2<|.f (aB true) [] (aB true) (by exact Sub.of_eq (by first | rfl | exact congrArg aB (Qax.2 (by rw [Qc6];exact ff.1.was.trans rp.1.symm)) | (refine congrArg aB ?_;simp_all;done))))
 <| fun q1=>have q1:=notF q1;have p1:=booT q1;have hgd:=Qax.1 q1;have hfit:=Zfl oks hgd.1;have ms:MidS s:=Zd9 hfit (by omega) (by have:=hgd.2.2.1;omega);have hx0:(Qag s).now.next<1152921504606847976:=(by have:=hgd.2.2.2.2.2;show (Qb5 s s.stamp).next<_;omega);.r 1<|.call (Qk3 l hll okl)<|
 .r 3<|.br 35 (!(dP (Qe7 l))) (fun q2=>have q2:=notT q2;have p2:=booF q2;.r 10<|.r 2<|.f (aB true) [] (aB true) (by exact Sub.of_eq (by first | rfl | exact congrArg aB (Qax.2 (by rw [Qc6];exact ff.1.was.trans rp.1.symm)) | (refine congrArg aB ?_;simp_all;done))))
 <| fun q2=>have q2:=notF q2;have p2:=booT q2;have hsm:=Qax.1 q2;have hl30:l.length≤30:=hsm.2;have ok:∀ c∈l,OkCal c:=fun c hc=>Qp6 hsm hc (okl c hc);have htx:∀ c∈l,c.text.length≤500000:=fun c hc=>(by have:=(Qmw hsm hc).2.2;omega);have ff:=Qn2 oks hgd hl30 ok _ rfl;have kf:=ff.2.2.2.2.2.2.2.1;have hle:=ff.1.len;have hle0:(Qag s).looks.length=0:=rfl;have hnx:=ff.1.now.next;have kpl:KeptN (Qb5 s s.stamp) (plF (Qb5 s s.stamp) l) l.length:=(by have h:=ff.1.now;rw [Qf5] at h;exact h);have hpl:=kpl.tree.rows;have hnx2:=kpl.next;have hx1:(Qb5 s s.stamp).next<1152921504606846976:=hgd.2.2.2.2.2;.r 1<|.call (Qk3 o hlo oklo)<|
 .r 3<|.br 40 (!(dP (Qe7 o))) (fun q3=>have q3:=notT q3;have p3:=booF q3;.r 5<|.r 2<|.f (aB true) [] (aB true) (by exact Sub.of_eq (by first | rfl | exact congrArg aB (Qax.2 (by rw [Qc6];exact ff.1.was.trans rp.1.symm)) | (refine congrArg aB ?_;simp_all;done))))
 <| fun q3=>have q3:=notF q3;have p3:=booT q3;have hsmo:=Qax.1 q3;have ho30:o.length≤30:=hsmo.2;have oko:∀ c∈o,OkCal c:=fun c hc=>Qp6 hsmo hc (oklo c hc);have txo:∀ c∈o,c.text.length≤500000:=fun c hc=>(by have:=(Qmw hsmo hc).2.2;omega);have rp:=Zhx oks hgd ho30 oko;.u 2 [b3]<|
 .cs (args0:=[.sl 8 true ([(calA c)])]) (Qk3 [c] (by show 1≤_;omega) (fun x hx=>by rw [List.mem_singleton.1 hx];exact okc0)) ⟨Sub.loose _ _ _,trivial⟩<|
 .r 2<|.br 45 (!(dP (Qe7 [c]))) (fun q4=>have q4:=notT q4;have p4:=booF q4;.r 2<|.f (aB true) [] (aB true) (by exact Sub.of_eq (by first | rfl | exact congrArg aB (Qax.2 (by rw [Qc6];exact ff.1.was.trans rp.1.symm)) | (refine congrArg aB ?_;simp_all;done))))
 <| fun q4=>have q4:=notF q4;have p4:=booT q4;have okc:=Qp6 (Qax.1 q4) (List.mem_singleton.2 rfl) okc0;have htc:=(Qmw (Qax.1 q4) (List.mem_singleton.2 rfl)).2.2;.u 1 [b2]<|
 .call (Qej s oks (by have:=hfit.l;omega))<|
 .r 1<|.call (Qm2 (Qag s) l (Qi6 oks) ff.2.1 hgd.2.2.2.1 hl30 ok htx hx0 (by show ([]:List Int).length≤_;simp) List.Pairwise.nil)<|
 .r 3<|.new fun b4=>.u 2 [b4]<|
 .u 3 [b2,b2]<|
 .call (Qij s s.stamp oks (by have:=hfit.l;omega))<|
 .r 1<|.call (Qzu (Qb5 s s.stamp) l (Qi6 oks).now ff.2.1 hgd.2.2.2.1 hl30 ok htx hx0)<|
 .r 3<|.new fun b5=>.u 2 [b5]<|
 .u 2 [b2]<|
 .call (Zcm s o ms hgd.2.1 ff.2.1 hgd.2.2.2.1 ho30 oko txo hx0)<|
 .r 3<|.new fun b6=>.u 2 [b6]<|
 .u 2 [b4,b3]<|
 .call (Qmu (Qad (Qag s) l) c ff.1.ok.now okc ff.1.now.tree.rows (by omega) (by omega))<|
 .r 3<|.new fun b7=>.new fun b8=>.u 2 [b7,b8]<|
 .u 2 [b5,b3]<|
 .call (Qgz (plF (Qb5 s s.stamp) l) c kpl.ok okc hpl (by omega) kpl.tree (Qd1 hgd.2.2.2.1 hl30 kpl) (by omega))<|
 .r 3<|.new fun b9=>.new fun b10=>.u 2 [b9,b10]<|
 .ord [0,1,2,3,4,5,6,7,8,9,10,11,12,13,14,15]<|.u 4 [b8,b10]<|
 .call (Qvd (doF (Qad (Qag s) l).now c).2 (doF (plF (Qb5 s s.stamp) l) c).2 (Qn8 ff.1.now.tree.rows) (Nat.le_trans (Qn8 hpl) (by decide)))<|
 .r 2<|.is 87 (show (dP ((doF (Qad (Qag s) l).now c).2=(doF (plF (Qb5 s s.stamp) l) c).2))=true from (Qax.2 (Zhg s l c).symm))<|.u 5 [b4,b6,b4]<|
 .call (Qij (runD s o) (Qad (Qag s) l).stamp rp.2.ok (by have:=rp.2.l;omega))<|
 .call (Qpo (Qad (Qag s) l).was (Qb5 (runD s o) (Qad (Qag s) l).stamp) ff.1.ok.was (Qmm rp.2.ok _))<|
 .r 2<|.f (aB true) [] (aB (dP ((Qad (Qag s) l).was=(Qb5 (runD s o) (Qad (Qag s) l).stamp)))) (by exact Sub.of_eq (by first | rfl | exact congrArg aB (Qax.2 (by rw [Qc6];exact ff.1.was.trans rp.1.symm)) | (refine congrArg aB ?_;simp_all;done))))
theorem Qom (a:Ses) (h:OkSes a):Qah prog 10 [.agg (sesA a)] (aB true):=Qon a.s a.l a.o a.c h.s h.ll h.l h.lo h.o h.c
end Go.Proofs.YtahlldgocpabjaaGreat

namespace Copyhold
open Go Go.RowKit Go.ChangeShapes Go.WideShapes Go.ChangeAt Go.Deep
structure Opn {α:Type} (P:Program) (W:World) (t:TypeId) (en:α→List AV) (ok:α→Prop):Prop where
 run:∀ (H:Type) (enc:TypeId × Value→H) (fuel:Nat) (cs:List Value) (x:DataW H × List MemPlace),
  DataW.trod enc P W 0 (fun _=>true) true fuel t cs=some x→(∀ p∈x.2,p.block<W.heap.size)→(∀ n∈DataW.weights P t x.1,n≤140737488351232) →
  ∃ a,Qkz (·<W.heap.size) W (en a) cs∧(∀ u∈cs,u.oneCell'=true)∧ok a
section
variable {P:Program} {W:World} {t:TypeId}
theorem Opn.map {α β:Type} {en:α→List AV} {ok:α→Prop} {en':β→List AV} {ok':β→Prop} (h:Opn P W t en ok) (f:α→β) (he:∀ a,en' (f a)=en a) (ho:∀ a,ok a→ok' (f a)):Opn P W t en' ok':=Opn.mk fun H enc fuel cs x h1 h2 h3=>by
 obtain ⟨a,g1,g2,g3⟩:=h.run H enc fuel cs x h1 h2 h3;exact ⟨f a,by rw [he];exact g1,g2,ho a g3⟩
theorem Qkr {D:Nat→Prop} {w:World} {a:AV} {v:Value} (h:Ra D w a v):Qkz D w [a] [v]:=⟨rfl,fun j x u hx hu=>by
 match j,hx,hu with
 | 0,hx,hu=>simp at hx hu;subst hx hu;exact h
 | j+1,hx,_=>simp at hx⟩
theorem wf_i64 {z:Int} (w:(Lit.int .i64 z).wf=true):-9223372036854775808≤z∧z≤9223372036854775807:=by
 simpa [Lit.wf,IntKind.min,IntKind.max,IntKind.signed,IntKind.bits] using w
theorem Qdz (hu:P.underlying t=some (.int .i64)):Opn P W t (fun n:Int=>[aI n]) (fun n=>-9223372036854775808≤n∧n≤9223372036854775807):=Opn.mk fun H enc fuel cs x h1 h2 h3=>by
 obtain ⟨n,rfl,rfl,hw⟩:=DataW.trod_int hu h1;exact ⟨n,Qkr (.val _),fun u hu=>by obtain rfl:=List.mem_singleton.1 hu;rfl,wf_i64 hw⟩
theorem Zih (hu:P.underlying t=some .bool):Opn P W t (fun n:Bool=>[aB n]) (fun _=>True):=Opn.mk fun H enc fuel cs x h1 h2 h3=>by
 obtain ⟨n,rfl,rfl⟩:=DataW.trod_bool hu h1;exact ⟨n,Qkr (.val _),fun u hu=>by obtain rfl:=List.mem_singleton.1 hu;rfl,trivial⟩
theorem Qgg (hu:P.underlying t=some .string):Opn P W t (fun n:List UInt8=>[aS n]) (fun n=>n.length≤140737488351232):=Opn.mk fun H enc fuel cs x h1 h2 h3=>by
 obtain ⟨s,rfl,rfl,_⟩:=DataW.trod_string hu h1;exact ⟨s.data.toList,Qkr (.val _),fun u hu=>by obtain rfl:=List.mem_singleton.1 hu;rfl,h3 _ (by simp [DataW.weights])⟩
theorem Qhw {α:Type} {en:α→List AV} {ok:α→Prop} {e:TypeId} {k:Nat} (h:Opn P W e en ok) (a0:α) (hu:P.underlying t=some (.slice e)) (hc:P.cellsOf e=k) (hk:0<k) (hb:16≤P.bytesOf e) :
  Opn P W t (fun l:List α=>[.sl k false (l.map en)]) (fun l=>l.length≤8796093022207∧∀ a∈l,ok a):=Opn.mk fun H enc fuel cs x h1 h2 h3=>by
 obtain ⟨v,rs,rfl,hr,hd⟩:=Qqr (k:=k) (R:=fun a cs=>Qkz (·<W.heap.size) W (en a) cs∧(∀ u∈cs,u.oneCell'=true)∧ok a) hu hc hk a0 (fun n cs' y hy hl hcl hww=>h.run H enc n cs' y hy hl hww) h1 h2 h3;have hsz:=Qzv hu hd h3;have:=Nat.le_trans (Nat.mul_le_mul_left rs.length hb) hsz;have hra:Ra (·<W.heap.size) W (.sl k false (rs.map en)) v:=Zac hr (·<W.heap.size) (fun _ h=>h) (fun a _ cs _ hR=>⟨hR.2.1,hR.1⟩);obtain ⟨A,c,rfl⟩:=hr.shape;refine ⟨rs,Qkr hra,fun u hu=>by obtain rfl:=List.mem_singleton.1 hu;rfl,by omega,fun a ha=>?_⟩;obtain ⟨css,g1,g2,g3⟩:=hr;obtain ⟨i,hi,rfl⟩:=List.mem_iff_getElem.1 ha;exact (g3 i _ _ (List.getElem?_eq_getElem (by omega)) (List.getElem?_eq_getElem hi)).2.2.2
structure OpnFs {γ:Type} (P:Program) (W:World) (N:Nat) (fs:List Field) (off:Nat) (en:γ→List AV) (ok:γ→Prop):Prop where
 run:∀ (H:Type) (enc:TypeId × Value→H) (m:Nat) (cs:List Value) (xs:List (DataW H × List MemPlace)),cs.length=N→xs.length=fs.length →
  (∀ (i:Nat) (f:Field),fs[i]?=some f→DataW.trod enc P W 0 (fun _=>true) true m f.type ((cs.drop f.offset).take (P.cellsOf f.type))=xs[i]?) →
  (∀ x∈xs,∀ p∈x.2,p.block<W.heap.size)→(∀ n∈DataW.weightsEach P (fs.map (·.type)) (xs.map (·.1)),n≤140737488351232) →
  ∃ g,Qkz (·<W.heap.size) W (en g) (cs.drop off)∧(∀ u∈cs.drop off,u.oneCell'=true)∧ok g
theorem Qfp (N:Nat):OpnFs P W N [] N (fun _:Unit=>[]) (fun _=>True):=OpnFs.mk fun H enc m cs xs h1 h2 h3 h4 h5=>by
 have:cs.drop N=[]:=List.drop_eq_nil_of_le (by omega);rw [this];exact ⟨(),⟨rfl,fun j a u ha=>by simp at ha⟩,fun u hu=>by simp at hu,trivial⟩
theorem Quc {D:Nat→Prop} {w:World} {xs ys:List AV} {cs ds:List Value} (h:Qkz D w xs cs) (k:Qkz D w ys ds):Qkz D w (xs++ys) (cs++ds):=by
 refine ⟨by simp [h.1,k.1],fun j a u ha hu=>?_⟩;by_cases hj:j<xs.length
 ·rw [List.getElem?_append_left hj] at ha;rw [List.getElem?_append_left (by rw [h.1];exact hj)] at hu;exact h.2 j a u ha hu
 ·rw [List.getElem?_append_right (by omega)] at ha;rw [List.getElem?_append_right (by rw [h.1];omega),h.1] at hu;exact k.2 _ a u ha hu
theorem Qbc {α γ:Type} {N off k:Nat} {f:Field} {fs:List Field} {en:α→List AV} {ok:α→Prop} {en2:γ→List AV} {ok2:γ→Prop} (h:Opn P W f.type en ok) (ho:f.offset=off) (hk:P.cellsOf f.type=k)
  (hr:OpnFs P W N fs (off+k) en2 ok2):OpnFs P W N (f :: fs) off (fun g:α × γ=>en g.1++en2 g.2) (fun g=>ok g.1∧ok2 g.2):=OpnFs.mk fun H enc m cs xs h1 h2 h3 h4 h5=>by
 obtain ⟨x0,xr,rfl⟩:∃ a r,xs=a :: r:=by
  cases xs with
  | nil=>simp at h2
  | cons a r=>exact ⟨a,r,rfl⟩
 have g0:=h3 0 f rfl;rw [ho,hk] at g0;simp only [List.map_cons,DataW.weightsEach] at h5;obtain ⟨a,ha,ha2,ha3⟩:=h.run H enc m _ x0 (by simpa using g0) (h4 x0 (by simp)) (fun n hn=>h5 n (by simp [hn]));obtain ⟨g,hg,hg2,hg3⟩:=hr.run H enc m cs xr h1 (by simpa using h2) (fun i f' hf=>by have:=h3 (i+1) f' (by simpa using hf);simpa using this) (fun x hx=>h4 x (by simp [hx])) (fun n hn=>h5 n (by simp [hn]));have e:cs.drop off=(cs.drop off).take k++cs.drop (off+k):=by
  rw [← List.drop_drop,List.take_append_drop]
 refine ⟨(a,g),?_,?_,ha3,hg3⟩
 ·rw [e];exact Quc ha hg
 ·intro u hu;rw [e] at hu;rcases List.mem_append.1 hu with h | h
  ·exact ha2 u h
  ·exact hg2 u h
theorem Qds {γ:Type} {N:Nat} {fs:Array Field} {en:γ→List AV} {ok:γ→Prop} (hu:P.underlying t=some (.struct fs)) (hc:P.cellsOf t=N) (h:OpnFs P W N fs.toList 0 en ok):Opn P W t en ok:=Opn.mk fun H enc fuel cs x h1 h2 h3=>by
 obtain ⟨xs,m,_,rfl,hl,hlen,hfl⟩:=DataW.trod_struct hu h1;obtain ⟨g,g1,g2,g3⟩:=h.run H enc m cs xs (by rw [hl,hc]) (by simpa using hlen) (fun i f hf=>hfl i f (by simpa using hf)) (fun x hx p hp=>h2 p (by simp only [List.mem_flatMap];exact ⟨x,hx,hp⟩))
  (fun n hn=>h3 n (by simp only [DataW.weights,hu];exact hn))
 exact ⟨g,by simpa using g1,by simpa using g2,g3⟩
theorem Zbi {α:Type} {en:α→List AV} {ok:α→Prop} {fs:Array Field} {H:Type} {enc:TypeId × Value→H} {base:Nat} {v:Value} {d:DataW H} {p:List MemPlace} (h:Opn P W t en ok) (hu:P.underlying t=some (.struct fs)) (hv:Value.okWide P W .any base t v)
  (ht:∃ fuel,DataW.trod enc P W 0 (fun _=>true) true fuel t v.cells.toList=some (d,p)) (hlt:∀ x∈p,x.block<W.heap.size) (hw:∀ n∈DataW.weights P t d,n≤140737488351232):∃ a,Ra (·<W.heap.size) W (.agg (en a)) v∧ok a:=by
 obtain ⟨cs,rfl,_⟩:=okWide_struct hu hv;obtain ⟨fuel,ht⟩:=ht;obtain ⟨a,g1,g2,g3⟩:=h.run H enc fuel _ _ ht hlt hw;refine ⟨a,.agg _ _ (by have:=g1.1;simp [Value.cells] at this;omega) (fun j u hj=>g2 u (by have:=Array.mem_of_getElem? hj;simpa [Value.cells] using this)) (fun j x u hx hj=>g1.2 j x u hx (by simpa [Value.cells] using hj)),g3⟩
def RaL (D:Nat→Prop) (w:World):List AV→List Value→Prop
 | [],[]=>True
 | x :: xs,v :: vs=>Ra D w x v∧RaL D w xs vs
 | _,_=>False
theorem Zkk {D:Nat→Prop} {w:World}:∀ (xs:List AV) (vs:List Value),RaL D w xs vs→Qde D w xs vs.toArray
 | [],[],_=>⟨rfl,fun j a u ha=>by simp at ha⟩
 | x :: xs,v :: vs,h=>by
  have ih:=Zkk xs vs h.2;refine ⟨by have:=ih.1;simp at this ⊢;exact this,fun j a u ha hu=>?_⟩;cases j with
  | zero=>simp at ha hu;subst ha hu;exact h.1
  | succ j=>exact ih.2 j a u (by simpa using ha) (by simpa using hu)
 | [],_ :: _,h=>h.elim
 | _ :: _,[],h=>h.elim
theorem Zar {f:FuncId} {args:List AV} {vs:Array Value} {w:World} (h:Qah P f args (aB true)) (hv:Qde (·<w.heap.size) w args vs) :
  Calls P f vs w (fun e w'=>e=.returned (.bool true)∧Below w.heap.size w w'):=by
 refine (h _ w vs (fun _ h=>h) hv).mono ?_;rintro e w' ⟨v,D',rfl,hb,_,_,hr⟩;cases hr;exact ⟨rfl,hb⟩
end
end Copyhold

namespace Go.Proofs.YtahlldgocpabjaaGreat
open Go Go.RowKit Copyhold Go.Proofs.Tryz
theorem Zmh (W:World):Opn prog W 128 entA OkE:=
 (Qds (N:=2) Tryz.underlying128 (by kernel_rfl) (Qbc (k:=1) (Qgg Tryz.underlying9) rfl (by kernel_rfl) (Qbc (k:=1) (Qdz Tryz.underlying3) rfl (by kernel_rfl) (Qfp 2)))).map (fun g=>⟨g.1,g.2.1⟩) (fun _=>rfl) (fun a h=>⟨h.1,h.2.1⟩)
theorem Zie (W:World):Opn prog W 82 (fun l:List (Ent)=>[.sl 2 false (l.map entA)]) (fun l=>l.length≤8796093022207∧∀ a∈l,OkE a):=Qhw (Zmh W) (⟨[],0⟩) Tryz.underlying82 (by kernel_rfl) (by decide) (Nat.le_of_ble_eq_true (by kernel_rfl))
theorem Zmg (W:World):Opn prog W 84 nodA OkN:=
 (Qds (N:=5) Tryz.underlying84 (by kernel_rfl) (Qbc (k:=1) (Qdz Tryz.underlying3) rfl (by kernel_rfl) (Qbc (k:=1) (Qdz Tryz.underlying3) rfl (by kernel_rfl) (Qbc (k:=1) (Qdz Tryz.underlying3) rfl (by kernel_rfl) (Qbc (k:=1) (Qgg Tryz.underlying9) rfl (by kernel_rfl) (Qbc (k:=1) (Zie W) rfl (by kernel_rfl) (Qfp 5))))))).map (fun g=>⟨g.1,g.2.1,g.2.2.1,g.2.2.2.1,g.2.2.2.2.1⟩) (fun _=>rfl) (fun a h=>⟨h.1,h.2.1,h.2.2.1,h.2.2.2.1,h.2.2.2.2.1.1,h.2.2.2.2.1.2⟩)
end Go.Proofs.YtahlldgocpabjaaGreat
