import Derived.Test.YtahlldgocpabjaaGreatMrgAL
import Derived.Test.YtahlldgocpabjaaGreatMrgAE
import Derived.Test.YtahlldgocpabjaaGreatMrgAC
import Derived.Test.YtahlldgocpabjaaGreatMrgY
import Derived.Test.YtahlldgocpabjaaGreatMrgJ
set_option maxRecDepth 100000
set_option maxHeartbeats 8000000
set_option linter.unusedVariables false
set_option linter.unusedSimpArgs false
namespace Go.Proofs.YtahlldgocpabjaaGreat
open Go Go.RowKit Copyhold Go.Proofs.Tryz
theorem Qx9 :Qai prog 43 [] (.agg (stoA newS)):=by
 exact Qad func43 (
 .new fun b1=>.call (Za3)<|
 .new fun b2=>.u 1 [b2]<|
 .u 2 [b2]<|
 .idxM newF.l nodA 0 (m:=0) (show (0:Int)=((0:Nat):Int) from rfl) (by decide) fun x1 hx1=>
 have ex1:=Zk1 hx1;.u 9 [b1]<|
 .f (.agg (stoA newS)) [b1] (.agg [.sl 2 true ([[aI 1,.sl 7 true ([[aI 1,aB false,aI x1.ino,aI x1.kind,aI x1.links,aS x1.text,.sl 2 false (x1.l.map entA)]])]]),.sl 2 true ([[aI 1,aI 2]]),aI 1]) (by
  obtain rfl:=ex1
  first | exact sR | exact Sub.aggs ⟨Qvq ⟨sR,Qvq sr7,trivial⟩,Qvq sr2,sR,trivial⟩))
theorem Zj8 :Qai prog 11 [] (aB true):=by
 exact Qad func11 (
 .r 1<|.call (Qx9)<|
 .new fun b1=>.u 1 [b1]<|
 .r 1<|.new fun b2=>.u 1 [b2]<|
 .u 3 [b1,b2]<|
 .cs (args0:=[.agg (stoA newS),.sl 8 true ([[aI 6,aI 1,aI 0,aI 0,aI 0,aS ([97]),aS ([]),aS ([])]])]) (Zas) ⟨sR,Sub.loose _ _ _,trivial⟩<|
 .r 3<|.new fun b3=>.u 2 [b3]<|
 let J1:Jn (Nat):=⟨fun j1=>⟨[(0,aB false),(3,.ptr 3 b3 0),(4,.sl 6 false ([rA].map repA)),(5,.ptr 5 j1 0)],[(3,.box b3 25 (stoA kA)),(5,.box j1 31 (txnA tA))]⟩,fun _=>True⟩
 .cut J1 (.pick [0,2]<|.u 2 [b1,b2]<|
 .fork<|.alt (.call (Qd4 newS Qkf (by decide))<|
 .fork<|.alt (.cs (args0:=[.agg [aI ((Qag newS).stamp),.sl 5 false ((Qag newS).was.l.map nodA),aI ((Qag newS).was.next),.sl 5 false ((Qag newS).now.l.map nodA),aI ((Qag newS).now.next),.sl 1 false ((Qag newS).looks.map intA)],.agg [aI 6,aI 1,aI 0,aI 0,aI 0,aS ([97]),aS ([]),aS ([])]]) (Qcf) sr2<|
 .pick [4,5,6]<|.r 3<|.fork<|.alt (.new fun b4=>.pick [8,9,10]<|.new fun b5=>.u 2 [b4,b5]<|
 .jo J1 b4 [] [] sr4 bb2)
 <| .new fun b6=>.pick [7,9,10]<|.new fun b7=>.u 2 [b7,b6]<|
 .jo J1 b7 [] [] sr4 bb2)
 <| .alt (.new fun b8=>.fork<|.alt (.cs (args0:=[.agg [aI ((Qag newS).stamp),.sl 5 false ((Qag newS).was.l.map nodA),aI ((Qag newS).was.next),.sl 5 false ((Qag newS).now.l.map nodA),aI ((Qag newS).now.next),.sl 1 false ((Qag newS).looks.map intA)],.agg [aI 6,aI 1,aI 0,aI 0,aI 0,aS ([97]),aS ([]),aS ([])]]) (Qcf) sr2<|
 .pick [4,5,6,8,9,10]<|.r 3<|.new fun b9=>.u 2 [b8,b9]<|
 .jo J1 b8 [] [] sr4 bb2)
 <| .new fun b10=>.pick [3,4,5,6,9,10]<|.cs (args0:=[.agg [aI ((Qag newS).stamp),.sl 5 false ((Qag newS).was.l.map nodA),aI ((Qag newS).was.next),.sl 5 false ((Qag newS).now.l.map nodA),aI ((Qag newS).now.next),.sl 1 false ((Qag newS).looks.map intA)],.agg [aI 6,aI 1,aI 0,aI 0,aI 0,aS ([97]),aS ([]),aS ([])]]) (Qcf) sr2<|
 .u 5 [b8,b10]<|
 .jo J1 b8 [] [] sr4 bb2)
 <| .new fun b11=>.fork<|.alt (.cs (args0:=[.agg [aI ((Qag newS).stamp),.sl 5 false ((Qag newS).was.l.map nodA),aI ((Qag newS).was.next),.sl 5 false ((Qag newS).now.l.map nodA),aI ((Qag newS).now.next),.sl 1 false ((Qag newS).looks.map intA)],.agg [aI 6,aI 1,aI 0,aI 0,aI 0,aS ([97]),aS ([]),aS ([])]]) (Qcf) sr2<|
 .pick [4,5,6,7,9,10]<|.r 3<|.new fun b12=>.u 2 [b12,b11]<|
 .jo J1 b12 [] [] sr4 bb2)
 <| .new fun b13=>.pick [3,4,5,6,9,10]<|.cs (args0:=[.agg [aI ((Qag newS).stamp),.sl 5 false ((Qag newS).was.l.map nodA),aI ((Qag newS).was.next),.sl 5 false ((Qag newS).now.l.map nodA),aI ((Qag newS).now.next),.sl 1 false ((Qag newS).looks.map intA)],.agg [aI 6,aI 1,aI 0,aI 0,aI 0,aS ([97]),aS ([]),aS ([])]]) (Qcf) sr2<|
 .u 5 [b13,b11]<|
 .jo J1 b13 [] [] sr4 bb2)
 <| .alt (.new fun b14=>.fork<|.alt (.call (Qd4 newS Qkf (by decide))<|
 .fork<|.alt (.cs (args0:=[.agg [aI ((Qag newS).stamp),.sl 5 false ((Qag newS).was.l.map nodA),aI ((Qag newS).was.next),.sl 5 false ((Qag newS).now.l.map nodA),aI ((Qag newS).now.next),.sl 1 false ((Qag newS).looks.map intA)],.agg [aI 6,aI 1,aI 0,aI 0,aI 0,aS ([97]),aS ([]),aS ([])]]) (Qcf) sr2<|
 .pick [4,5,6,8,9,10]<|.r 3<|.new fun b15=>.u 2 [b14,b15]<|
 .jo J1 b14 [] [] sr4 bb2)
 <| .new fun b16=>.pick [3,4,5,6,9,10]<|.cs (args0:=[.agg [aI ((Qag newS).stamp),.sl 5 false ((Qag newS).was.l.map nodA),aI ((Qag newS).was.next),.sl 5 false ((Qag newS).now.l.map nodA),aI ((Qag newS).now.next),.sl 1 false ((Qag newS).looks.map intA)],.agg [aI 6,aI 1,aI 0,aI 0,aI 0,aS ([97]),aS ([]),aS ([])]]) (Qcf) sr2<|
 .u 5 [b14,b16]<|
 .jo J1 b14 [] [] sr4 bb2)
 <| .new fun b17=>.pick [1,3,4,5,6,9,10]<|.call (Qd4 newS Qkf (by decide))<|
 .cs (args0:=[.agg [aI ((Qag newS).stamp),.sl 5 false ((Qag newS).was.l.map nodA),aI ((Qag newS).was.next),.sl 5 false ((Qag newS).now.l.map nodA),aI ((Qag newS).now.next),.sl 1 false ((Qag newS).looks.map intA)],.agg [aI 6,aI 1,aI 0,aI 0,aI 0,aS ([97]),aS ([]),aS ([])]]) (Qcf) sr2<|
 .u 5 [b14,b17]<|
 .jo J1 b14 [] [] sr4 bb2)
 <| .new fun b18=>.fork<|.alt (.call (Qd4 newS Qkf (by decide))<|
 .fork<|.alt (.cs (args0:=[.agg [aI ((Qag newS).stamp),.sl 5 false ((Qag newS).was.l.map nodA),aI ((Qag newS).was.next),.sl 5 false ((Qag newS).now.l.map nodA),aI ((Qag newS).now.next),.sl 1 false ((Qag newS).looks.map intA)],.agg [aI 6,aI 1,aI 0,aI 0,aI 0,aS ([97]),aS ([]),aS ([])]]) (Qcf) sr2<|
 .pick [4,5,6,7,9,10]<|.r 3<|.new fun b19=>.u 2 [b19,b18]<|
 .jo J1 b19 [] [] sr4 bb2)
 <| .new fun b20=>.pick [3,4,5,6,9,10]<|.cs (args0:=[.agg [aI ((Qag newS).stamp),.sl 5 false ((Qag newS).was.l.map nodA),aI ((Qag newS).was.next),.sl 5 false ((Qag newS).now.l.map nodA),aI ((Qag newS).now.next),.sl 1 false ((Qag newS).looks.map intA)],.agg [aI 6,aI 1,aI 0,aI 0,aI 0,aS ([97]),aS ([]),aS ([])]]) (Qcf) sr2<|
 .u 5 [b20,b18]<|
 .jo J1 b20 [] [] sr4 bb2)
 <| .new fun b21=>.pick [1,3,4,5,6,9,10]<|.call (Qd4 newS Qkf (by decide))<|
 .cs (args0:=[.agg [aI ((Qag newS).stamp),.sl 5 false ((Qag newS).was.l.map nodA),aI ((Qag newS).was.next),.sl 5 false ((Qag newS).now.l.map nodA),aI ((Qag newS).now.next),.sl 1 false ((Qag newS).looks.map intA)],.agg [aI 6,aI 1,aI 0,aI 0,aI 0,aS ([97]),aS ([]),aS ([])]]) (Qcf) sr2<|
 .u 5 [b21,b18]<|
 .jo J1 b21 [] [] sr4 bb2)
 <| fun j1 _=>(fun (b22:Nat)=>.u 2 [b3,b22]<|
 .call (Qsp)<|
 .r 3<|.new fun b23=>.u 2 [b23]<|
 .u 4 [b3]<|
 .is 34 (show (kA.stamp==2)=true from (by rw [Zha];rfl))<|.r 2<|.lm 36 ([rA]) repA<|.r 3<|.is 39 (show ((([rA]).length:Int)==1)=true from rfl)<|.r 1<|.idxM ([rA]) repA 0 (m:=0) (show (0:Int)=((0:Nat):Int) from rfl) (by decide) fun x1 hx1=>
 have ex1:=(Option.some.inj (show some rA=some x1 from hx1));.r 5<|.is 46 (show (x1.a==2)=true from (by rw [← ex1];rfl))<|.r 4<|.is 50 (show (15==15)=true from rfl)<|.u 2 [b3,b22]<|
 .call (Qkq kA tA Zc3.ok (by have:=Zc3.l;omega) Zj0)<|
 .r 2<|.is 55 (show (dP (Qgm kA tA))=true from (Qa0.2 Qwk))<|.u 1 [b22]<|
 .call (Qm1 tA Zj0)<|
 .r 3<|.f (aB true) [] (aB (!(dP (tA.was=tA.now)))) (by exact Sub.of_eq (congrArg aB (by first | rfl | (rw [Qac.2 Zaa];rfl))))) j1)
theorem Qjg {f g:Fsy} {k:Nat} (hf:fewF f) (hk:k≤30) (K:KeptN f g k):midF g:=by
 have h:=K.few;rw [wF_eq,wF_eq] at h;have:=hf.1;unfold midF;omega
theorem Qb2 {f:Fsy} {l:List Cal} {k:Nat} (h:k≤l.length):(plR f (l.take k)).length=k:=by rw [Qg0,List.length_take];omega
structure Pls where
 f:Fsy
 l:List Cal
 g:Fsy
 next:Int
structure OkPls (a:Pls):Prop where
 f:OkF a.f
 len:a.l.length≤8796093022207
 l:∀ c∈a.l,OkC0 c
 g:OkF a.g
 next:I64 a.next
theorem Qfk:∀ (l:List Cal) {t:Txn},Asc t.looks→Asc (Qab t l).looks
 | [],_,h=>h
 | c :: r,t,_=>Qfk r (Zae t c)
theorem Qtr (t:Txn) (l:List Cal) (okt:OkT t) (T:TreeP t.now) (hf:fewF t.now) (hl:l.length≤30) (ok:∀ c∈l,OkCal c) (htx:∀ c∈l,c.text.length≤500000) (hx:t.now.next<1152921504606847976) (hk0:t.looks.length≤1000) (ha:Asc t.looks):Qai prog 41 [.agg (txnA t),.sl 8 false (l.map calA)] (.tup [.agg (txnA (Qab t l)),.sl 6 false ((plR t.now l).map repA)]):=by
 exact Qad func41 (
 .new fun b1=>.new fun b2=>.r 1<|.r 1<|.rowNil 6 6 45 6<|.r 1<|let L1:Lp (Nat × Value):=⟨fun a1=>⟨[(1,.sl 8 false (l.map calA)),(2,.ptr 2 b1 0),(4,.ptr 4 b2 0),(7,aI (a1.1:Int)),(6,.rw 6 a1.2 ((plR t.now (l.take a1.1)).length))],[(2,.box b1 31 [aI ((Qab t (l.take a1.1)).stamp),.sl 5 false ((Qab t (l.take a1.1)).was.l.map nodA),aI ((Qab t (l.take a1.1)).was.next),.sl 5 false ((Qab t (l.take a1.1)).now.l.map nodA),aI ((Qab t (l.take a1.1)).now.next),.sl 1 false ((Qab t (l.take a1.1)).looks.map intA)]),(4,.box b2 31 [aI 0,aN,aI 0,aN,aI 0,aN]),(6,.row a1.2 45 6 ((plR t.now (l.take a1.1)).map repA))]⟩,fun a1=>l.length-a1.1,fun a1=>a1.1≤l.length⟩
 .lp L1 (0,.slice none 0 0) (show 0≤l.length from Nat.zero_le _) [(7,aI 0),(6,.rw 6 (.slice none 0 0) 0)] [(2,.box b1 31 (txnA t)),(6,.row (.slice none 0 0) 45 6 ([]))] ⟨sR,sR,sR,sO,Sub.of_eq rfl,trivial⟩ ⟨⟨_,rfl,SubB.of_eq rfl⟩,sB,⟨_,rfl,SubB.of_eq rfl⟩,trivial⟩ fun a1 ha1=>
 (fun (k:Nat) (V:Value) (hH1:k≤l.length)=>have kt:=Qkl okt T (by omega) ok hx hk0 (k:=k) (by omega);have kp:=kt.now;have kp2:=kp.next;have kl:=kt.len;.r 3<|.lm 12 l calA<|.r 1<|.bd 13 ((k:Int)<(l.length:Int)) (fun p1=>.pick [0,1,2,3,4]<|.u 3 [b1]<|
 .idxM l calA k (m:=(k:Int)) rfl (by omega) fun x1 hx1=>
 have okx1:=ok x1 (List.mem_of_getElem? hx1);have txx1:=htx x1 (List.mem_of_getElem? hx1);.r 1<|.fork<|.alt (.call (Qfn (Qab t (l.take k)) x1 kp.ok okx1 kp.tree.rows (by omega) (by omega) kp.tree (Qjg hf (by omega) kp) txx1 (Qfk _ ha))<|
 .pick [6,7,8]<|.r 3<|.fork<|.alt (.new fun b3=>.pick [10,11,12]<|.new fun b4=>.u 2 [b3,b4]<|
 .u 2 [b3,b1]<|
 .u 3 [b4]<|
 .app 72 V ((plR t.now (l.take k)).map repA) ([[aI ((doF (Qab t (l.take k)).now x1).2.e),aI ((doF (Qab t (l.take k)).now x1).2.a),aI ((doF (Qab t (l.take k)).now x1).2.b),aI ((doF (Qab t (l.take k)).now x1).2.n),aS ((doF (Qab t (l.take k)).now x1).2.text),.sl 1 false ((doF (Qab t (l.take k)).now x1).2.names.map txA)]]) (by have hw:=Qb2 (f:=t.now) (l:=l) (k:=k) (by omega);simp only [List.length_map,List.length_cons,List.length_nil];omega) (by have hw:=Qb2 (f:=t.now) (l:=l) (k:=k) (by omega);simp only [List.length_map,List.length_cons,List.length_nil];omega) fun V1=>
 .r 1<|.run 3 [rng .i64 ((k:Int)+1)] ⟨Qam (by omega) (by omega),trivial⟩<|
 .bk L1 (k,V) ((k+1),V1) (show (k+1)≤l.length from (by show _≤_;omega)) (show l.length-(k+1)<l.length-k from (by omega)) [(7,aI ((k:Int)+1)),(6,.rw 6 V1 (((plR t.now (l.take k)).map repA).length+([[aI ((doF (Qab t (l.take k)).now x1).2.e),aI ((doF (Qab t (l.take k)).now x1).2.a),aI ((doF (Qab t (l.take k)).now x1).2.b),aI ((doF (Qab t (l.take k)).now x1).2.n),aS ((doF (Qab t (l.take k)).now x1).2.text),.sl 1 false ((doF (Qab t (l.take k)).now x1).2.names.map txA)]]:List (List AV)).length))] [(2,.box b1 31 [aI ((Qbw (Qab t (l.take k)) x1).stamp),.sl 5 false ((Qbw (Qab t (l.take k)) x1).was.l.map nodA),aI ((Qbw (Qab t (l.take k)) x1).was.next),.sl 5 false ((Qbw (Qab t (l.take k)) x1).now.l.map nodA),aI ((Qbw (Qab t (l.take k)) x1).now.next),.sl 1 false ((Qbw (Qab t (l.take k)) x1).looks.map intA)]),(6,.row V1 45 6 (((plR t.now (l.take k)).map repA)++([[aI ((doF (Qab t (l.take k)).now x1).2.e),aI ((doF (Qab t (l.take k)).now x1).2.a),aI ((doF (Qab t (l.take k)).now x1).2.b),aI ((doF (Qab t (l.take k)).now x1).2.n),aS ((doF (Qab t (l.take k)).now x1).2.text),.sl 1 false ((doF (Qab t (l.take k)).now x1).2.names.map txA)]])))] ⟨sR,sR,sR,sO,Sub.of_eq (congrArg (AV.rw 6 V1) (by rw [Qcd hx1];simp)),trivial⟩ ⟨⟨_,rfl,SubB.of_eq (by rw [Qdx hx1])⟩,sB,⟨_,rfl,SubB.of_eq (by rw [Qcd hx1];simp [repA])⟩,trivial⟩)
 <| .new fun b5=>.pick [9,11,12]<|.new fun b6=>.u 2 [b6,b5]<|
 .u 2 [b6,b1]<|
 .u 3 [b5]<|
 .app 72 V ((plR t.now (l.take k)).map repA) ([[aI ((doF (Qab t (l.take k)).now x1).2.e),aI ((doF (Qab t (l.take k)).now x1).2.a),aI ((doF (Qab t (l.take k)).now x1).2.b),aI ((doF (Qab t (l.take k)).now x1).2.n),aS ((doF (Qab t (l.take k)).now x1).2.text),.sl 1 false ((doF (Qab t (l.take k)).now x1).2.names.map txA)]]) (by have hw:=Qb2 (f:=t.now) (l:=l) (k:=k) (by omega);simp only [List.length_map,List.length_cons,List.length_nil];omega) (by have hw:=Qb2 (f:=t.now) (l:=l) (k:=k) (by omega);simp only [List.length_map,List.length_cons,List.length_nil];omega) fun V2=>
 .r 1<|.run 3 [rng .i64 ((k:Int)+1)] ⟨Qam (by omega) (by omega),trivial⟩<|
 .bk L1 (k,V) ((k+1),V2) (show (k+1)≤l.length from (by show _≤_;omega)) (show l.length-(k+1)<l.length-k from (by omega)) [(7,aI ((k:Int)+1)),(6,.rw 6 V2 (((plR t.now (l.take k)).map repA).length+([[aI ((doF (Qab t (l.take k)).now x1).2.e),aI ((doF (Qab t (l.take k)).now x1).2.a),aI ((doF (Qab t (l.take k)).now x1).2.b),aI ((doF (Qab t (l.take k)).now x1).2.n),aS ((doF (Qab t (l.take k)).now x1).2.text),.sl 1 false ((doF (Qab t (l.take k)).now x1).2.names.map txA)]]:List (List AV)).length))] [(2,.box b1 31 [aI ((Qbw (Qab t (l.take k)) x1).stamp),.sl 5 false ((Qbw (Qab t (l.take k)) x1).was.l.map nodA),aI ((Qbw (Qab t (l.take k)) x1).was.next),.sl 5 false ((Qbw (Qab t (l.take k)) x1).now.l.map nodA),aI ((Qbw (Qab t (l.take k)) x1).now.next),.sl 1 false ((Qbw (Qab t (l.take k)) x1).looks.map intA)]),(6,.row V2 45 6 (((plR t.now (l.take k)).map repA)++([[aI ((doF (Qab t (l.take k)).now x1).2.e),aI ((doF (Qab t (l.take k)).now x1).2.a),aI ((doF (Qab t (l.take k)).now x1).2.b),aI ((doF (Qab t (l.take k)).now x1).2.n),aS ((doF (Qab t (l.take k)).now x1).2.text),.sl 1 false ((doF (Qab t (l.take k)).now x1).2.names.map txA)]])))] ⟨sR,sR,sR,sO,Sub.of_eq (congrArg (AV.rw 6 V2) (by rw [Qcd hx1];simp)),trivial⟩ ⟨⟨_,rfl,SubB.of_eq (by rw [Qdx hx1])⟩,sB,⟨_,rfl,SubB.of_eq (by rw [Qcd hx1];simp [repA])⟩,trivial⟩)
 <| .alt (.new fun b7=>.fork<|.alt (.call (Qfn (Qab t (l.take k)) x1 kp.ok okx1 kp.tree.rows (by omega) (by omega) kp.tree (Qjg hf (by omega) kp) txx1 (Qfk _ ha))<|
 .pick [6,7,8,10,11,12]<|.r 3<|.new fun b8=>.u 2 [b7,b8]<|
 .u 2 [b7,b1]<|
 .u 3 [b8]<|
 .app 72 V ((plR t.now (l.take k)).map repA) ([[aI ((doF (Qab t (l.take k)).now x1).2.e),aI ((doF (Qab t (l.take k)).now x1).2.a),aI ((doF (Qab t (l.take k)).now x1).2.b),aI ((doF (Qab t (l.take k)).now x1).2.n),aS ((doF (Qab t (l.take k)).now x1).2.text),.sl 1 false ((doF (Qab t (l.take k)).now x1).2.names.map txA)]]) (by have hw:=Qb2 (f:=t.now) (l:=l) (k:=k) (by omega);simp only [List.length_map,List.length_cons,List.length_nil];omega) (by have hw:=Qb2 (f:=t.now) (l:=l) (k:=k) (by omega);simp only [List.length_map,List.length_cons,List.length_nil];omega) fun V3=>
 .r 1<|.run 3 [rng .i64 ((k:Int)+1)] ⟨Qam (by omega) (by omega),trivial⟩<|
 .bk L1 (k,V) ((k+1),V3) (show (k+1)≤l.length from (by show _≤_;omega)) (show l.length-(k+1)<l.length-k from (by omega)) [(7,aI ((k:Int)+1)),(6,.rw 6 V3 (((plR t.now (l.take k)).map repA).length+([[aI ((doF (Qab t (l.take k)).now x1).2.e),aI ((doF (Qab t (l.take k)).now x1).2.a),aI ((doF (Qab t (l.take k)).now x1).2.b),aI ((doF (Qab t (l.take k)).now x1).2.n),aS ((doF (Qab t (l.take k)).now x1).2.text),.sl 1 false ((doF (Qab t (l.take k)).now x1).2.names.map txA)]]:List (List AV)).length))] [(2,.box b1 31 [aI ((Qbw (Qab t (l.take k)) x1).stamp),.sl 5 false ((Qbw (Qab t (l.take k)) x1).was.l.map nodA),aI ((Qbw (Qab t (l.take k)) x1).was.next),.sl 5 false ((Qbw (Qab t (l.take k)) x1).now.l.map nodA),aI ((Qbw (Qab t (l.take k)) x1).now.next),.sl 1 false ((Qbw (Qab t (l.take k)) x1).looks.map intA)]),(6,.row V3 45 6 (((plR t.now (l.take k)).map repA)++([[aI ((doF (Qab t (l.take k)).now x1).2.e),aI ((doF (Qab t (l.take k)).now x1).2.a),aI ((doF (Qab t (l.take k)).now x1).2.b),aI ((doF (Qab t (l.take k)).now x1).2.n),aS ((doF (Qab t (l.take k)).now x1).2.text),.sl 1 false ((doF (Qab t (l.take k)).now x1).2.names.map txA)]])))] ⟨sR,sR,sR,sO,Sub.of_eq (congrArg (AV.rw 6 V3) (by rw [Qcd hx1];simp)),trivial⟩ ⟨⟨_,rfl,SubB.of_eq (by rw [Qdx hx1])⟩,sB,⟨_,rfl,SubB.of_eq (by rw [Qcd hx1];simp [repA])⟩,trivial⟩)
 <| .new fun b9=>.pick [5,6,7,8,11,12]<|.call (Qfn (Qab t (l.take k)) x1 kp.ok okx1 kp.tree.rows (by omega) (by omega) kp.tree (Qjg hf (by omega) kp) txx1 (Qfk _ ha))<|
 .u 5 [b7,b9]<|
 .u 2 [b7,b1]<|
 .u 3 [b9]<|
 .app 72 V ((plR t.now (l.take k)).map repA) ([[aI ((doF (Qab t (l.take k)).now x1).2.e),aI ((doF (Qab t (l.take k)).now x1).2.a),aI ((doF (Qab t (l.take k)).now x1).2.b),aI ((doF (Qab t (l.take k)).now x1).2.n),aS ((doF (Qab t (l.take k)).now x1).2.text),.sl 1 false ((doF (Qab t (l.take k)).now x1).2.names.map txA)]]) (by have hw:=Qb2 (f:=t.now) (l:=l) (k:=k) (by omega);simp only [List.length_map,List.length_cons,List.length_nil];omega) (by have hw:=Qb2 (f:=t.now) (l:=l) (k:=k) (by omega);simp only [List.length_map,List.length_cons,List.length_nil];omega) fun V4=>
 .r 1<|.run 3 [rng .i64 ((k:Int)+1)] ⟨Qam (by omega) (by omega),trivial⟩<|
 .bk L1 (k,V) ((k+1),V4) (show (k+1)≤l.length from (by show _≤_;omega)) (show l.length-(k+1)<l.length-k from (by omega)) [(7,aI ((k:Int)+1)),(6,.rw 6 V4 (((plR t.now (l.take k)).map repA).length+([[aI ((doF (Qab t (l.take k)).now x1).2.e),aI ((doF (Qab t (l.take k)).now x1).2.a),aI ((doF (Qab t (l.take k)).now x1).2.b),aI ((doF (Qab t (l.take k)).now x1).2.n),aS ((doF (Qab t (l.take k)).now x1).2.text),.sl 1 false ((doF (Qab t (l.take k)).now x1).2.names.map txA)]]:List (List AV)).length))] [(2,.box b1 31 [aI ((Qbw (Qab t (l.take k)) x1).stamp),.sl 5 false ((Qbw (Qab t (l.take k)) x1).was.l.map nodA),aI ((Qbw (Qab t (l.take k)) x1).was.next),.sl 5 false ((Qbw (Qab t (l.take k)) x1).now.l.map nodA),aI ((Qbw (Qab t (l.take k)) x1).now.next),.sl 1 false ((Qbw (Qab t (l.take k)) x1).looks.map intA)]),(6,.row V4 45 6 (((plR t.now (l.take k)).map repA)++([[aI ((doF (Qab t (l.take k)).now x1).2.e),aI ((doF (Qab t (l.take k)).now x1).2.a),aI ((doF (Qab t (l.take k)).now x1).2.b),aI ((doF (Qab t (l.take k)).now x1).2.n),aS ((doF (Qab t (l.take k)).now x1).2.text),.sl 1 false ((doF (Qab t (l.take k)).now x1).2.names.map txA)]])))] ⟨sR,sR,sR,sO,Sub.of_eq (congrArg (AV.rw 6 V4) (by rw [Qcd hx1];simp)),trivial⟩ ⟨⟨_,rfl,SubB.of_eq (by rw [Qdx hx1])⟩,sB,⟨_,rfl,SubB.of_eq (by rw [Qcd hx1];simp [repA])⟩,trivial⟩)
 <| .new fun b10=>.fork<|.alt (.call (Qfn (Qab t (l.take k)) x1 kp.ok okx1 kp.tree.rows (by omega) (by omega) kp.tree (Qjg hf (by omega) kp) txx1 (Qfk _ ha))<|
 .pick [6,7,8,9,11,12]<|.r 3<|.new fun b11=>.u 2 [b11,b10]<|
 .u 2 [b11,b1]<|
 .u 3 [b10]<|
 .app 72 V ((plR t.now (l.take k)).map repA) ([[aI ((doF (Qab t (l.take k)).now x1).2.e),aI ((doF (Qab t (l.take k)).now x1).2.a),aI ((doF (Qab t (l.take k)).now x1).2.b),aI ((doF (Qab t (l.take k)).now x1).2.n),aS ((doF (Qab t (l.take k)).now x1).2.text),.sl 1 false ((doF (Qab t (l.take k)).now x1).2.names.map txA)]]) (by have hw:=Qb2 (f:=t.now) (l:=l) (k:=k) (by omega);simp only [List.length_map,List.length_cons,List.length_nil];omega) (by have hw:=Qb2 (f:=t.now) (l:=l) (k:=k) (by omega);simp only [List.length_map,List.length_cons,List.length_nil];omega) fun V5=>
 .r 1<|.run 3 [rng .i64 ((k:Int)+1)] ⟨Qam (by omega) (by omega),trivial⟩<|
 .bk L1 (k,V) ((k+1),V5) (show (k+1)≤l.length from (by show _≤_;omega)) (show l.length-(k+1)<l.length-k from (by omega)) [(7,aI ((k:Int)+1)),(6,.rw 6 V5 (((plR t.now (l.take k)).map repA).length+([[aI ((doF (Qab t (l.take k)).now x1).2.e),aI ((doF (Qab t (l.take k)).now x1).2.a),aI ((doF (Qab t (l.take k)).now x1).2.b),aI ((doF (Qab t (l.take k)).now x1).2.n),aS ((doF (Qab t (l.take k)).now x1).2.text),.sl 1 false ((doF (Qab t (l.take k)).now x1).2.names.map txA)]]:List (List AV)).length))] [(2,.box b1 31 [aI ((Qbw (Qab t (l.take k)) x1).stamp),.sl 5 false ((Qbw (Qab t (l.take k)) x1).was.l.map nodA),aI ((Qbw (Qab t (l.take k)) x1).was.next),.sl 5 false ((Qbw (Qab t (l.take k)) x1).now.l.map nodA),aI ((Qbw (Qab t (l.take k)) x1).now.next),.sl 1 false ((Qbw (Qab t (l.take k)) x1).looks.map intA)]),(6,.row V5 45 6 (((plR t.now (l.take k)).map repA)++([[aI ((doF (Qab t (l.take k)).now x1).2.e),aI ((doF (Qab t (l.take k)).now x1).2.a),aI ((doF (Qab t (l.take k)).now x1).2.b),aI ((doF (Qab t (l.take k)).now x1).2.n),aS ((doF (Qab t (l.take k)).now x1).2.text),.sl 1 false ((doF (Qab t (l.take k)).now x1).2.names.map txA)]])))] ⟨sR,sR,sR,sO,Sub.of_eq (congrArg (AV.rw 6 V5) (by rw [Qcd hx1];simp)),trivial⟩ ⟨⟨_,rfl,SubB.of_eq (by rw [Qdx hx1])⟩,sB,⟨_,rfl,SubB.of_eq (by rw [Qcd hx1];simp [repA])⟩,trivial⟩)
 <| .new fun b12=>.pick [5,6,7,8,11,12]<|.call (Qfn (Qab t (l.take k)) x1 kp.ok okx1 kp.tree.rows (by omega) (by omega) kp.tree (Qjg hf (by omega) kp) txx1 (Qfk _ ha))<|
 .u 5 [b12,b10]<|
 .u 2 [b12,b1]<|
 .u 3 [b10]<|
 .app 72 V ((plR t.now (l.take k)).map repA) ([[aI ((doF (Qab t (l.take k)).now x1).2.e),aI ((doF (Qab t (l.take k)).now x1).2.a),aI ((doF (Qab t (l.take k)).now x1).2.b),aI ((doF (Qab t (l.take k)).now x1).2.n),aS ((doF (Qab t (l.take k)).now x1).2.text),.sl 1 false ((doF (Qab t (l.take k)).now x1).2.names.map txA)]]) (by have hw:=Qb2 (f:=t.now) (l:=l) (k:=k) (by omega);simp only [List.length_map,List.length_cons,List.length_nil];omega) (by have hw:=Qb2 (f:=t.now) (l:=l) (k:=k) (by omega);simp only [List.length_map,List.length_cons,List.length_nil];omega) fun V6=>
 .r 1<|.run 3 [rng .i64 ((k:Int)+1)] ⟨Qam (by omega) (by omega),trivial⟩<|
 .bk L1 (k,V) ((k+1),V6) (show (k+1)≤l.length from (by show _≤_;omega)) (show l.length-(k+1)<l.length-k from (by omega)) [(7,aI ((k:Int)+1)),(6,.rw 6 V6 (((plR t.now (l.take k)).map repA).length+([[aI ((doF (Qab t (l.take k)).now x1).2.e),aI ((doF (Qab t (l.take k)).now x1).2.a),aI ((doF (Qab t (l.take k)).now x1).2.b),aI ((doF (Qab t (l.take k)).now x1).2.n),aS ((doF (Qab t (l.take k)).now x1).2.text),.sl 1 false ((doF (Qab t (l.take k)).now x1).2.names.map txA)]]:List (List AV)).length))] [(2,.box b1 31 [aI ((Qbw (Qab t (l.take k)) x1).stamp),.sl 5 false ((Qbw (Qab t (l.take k)) x1).was.l.map nodA),aI ((Qbw (Qab t (l.take k)) x1).was.next),.sl 5 false ((Qbw (Qab t (l.take k)) x1).now.l.map nodA),aI ((Qbw (Qab t (l.take k)) x1).now.next),.sl 1 false ((Qbw (Qab t (l.take k)) x1).looks.map intA)]),(6,.row V6 45 6 (((plR t.now (l.take k)).map repA)++([[aI ((doF (Qab t (l.take k)).now x1).2.e),aI ((doF (Qab t (l.take k)).now x1).2.a),aI ((doF (Qab t (l.take k)).now x1).2.b),aI ((doF (Qab t (l.take k)).now x1).2.n),aS ((doF (Qab t (l.take k)).now x1).2.text),.sl 1 false ((doF (Qab t (l.take k)).now x1).2.names.map txA)]])))] ⟨sR,sR,sR,sO,Sub.of_eq (congrArg (AV.rw 6 V6) (by rw [Qcd hx1];simp)),trivial⟩ ⟨⟨_,rfl,SubB.of_eq (by rw [Qdx hx1])⟩,sB,⟨_,rfl,SubB.of_eq (by rw [Qcd hx1];simp [repA])⟩,trivial⟩)
 <| fun p1=>.u 4 [b1,b2]<|
 .frz 6 [4,5] [4] [V=V,(plR t.now (l.take k)).length=((plR t.now (l.take k)).map repA).length] ⟨rfl,(by first | rfl | (simp;done) | (simp;omega)),trivial⟩<|
 .f (.tup [.agg (txnA (Qab t l)),.sl 6 false ((plR t.now l).map repA)]) [b2] (.tup [.agg [aI ((Qab t (l.take k)).stamp),.sl 5 false ((Qab t (l.take k)).was.l.map nodA),aI ((Qab t (l.take k)).was.next),.sl 5 false ((Qab t (l.take k)).now.l.map nodA),aI ((Qab t (l.take k)).now.next),.sl 1 false ((Qab t (l.take k)).looks.map intA)],.sl 6 false ((plR t.now (l.take k)).map repA)]) (by
  rw [show l.take k=l from Qaw (by omega)]
  first | exact sR | exact Sub.tups ⟨sR,Sub.loose _ _ _,trivial⟩)) a1.1 a1.2 ha1)
theorem Zar {s:Sto} {g:Fsy} (hp:Qce s) (hw:Qaq (Qcm s s.stamp)) (hg:Qaq g) (hx:(Qcm s s.stamp).next≤g.next):Qcm (Qef s (Qbr (Qcm s s.stamp) g) g.next) (s.stamp+1)=g:=by
 have h1:=Qnf (Qcm s s.stamp) g;have hm:=Qng hw hg;have hn:1≤g.next:=hg.2.1;refine Qp5 (Qz2 (Qkm hp h1 hm hn) _) (Qaf hg) (fun i=>?_) ?_
 ·rw [Qz3 hp h1 hm hn];rcases Qqi (f:=Qcm s s.stamp) hg i with ⟨hc,he⟩ | ⟨c,hc,he,_⟩
  ·rw [hc];exact he
  ·rw [hc];exact he
 ·show Qja _ _=_;rw [Zb8 hp];have:Qja s s.stamp≤g.next:=hx;unfold maxD
  split<;>omega
theorem Qup {s:Sto} {l:List Cal} (oks:OkS s) (hg:Zdg s) (hl:l.length≤30) (ok:∀ c∈l,OkCal c) :
  ∀ t,t=Qab (Qag s) l→KeptT (Qag s) t l.length∧TreeP (Qag s).now∧¬ Qgm s t∧(Qbi s t).2=0∧Qcm (Qbi s t).1 (Qbi s t).1.stamp=t.now∧((Qbi s t).1=s↔t.was=t.now)∧Qce (Qbi s t).1∧Fit (Qbi s t).1 713∧Qaq t.was:=by
 rintro t rfl;obtain ⟨g1,hp,g3,g4,g5,g6⟩:=hg;have T:TreeP (Qag s).now:=Qt0 g4 g5;have K:=Qkl (Qqk oks) T (l:=l) (by omega) ok (by show (Qcm s s.stamp).next<_;omega) (by show ([]:List Int).length≤_;simp) (k:=l.length) (Nat.le_refl _);rw [List.take_length] at K;have hwas:(Qab (Qag s) l).was=Qcm s s.stamp:=K.was;have hw:Qaq (Qab (Qag s) l).was:=by rw [hwas];exact g5.1
 have hst:(Qab (Qag s) l).stamp=s.stamp:=Qif l _;have hnc:¬ Qgm s (Qab (Qag s) l):=by
  rintro ⟨x,hx,_⟩;rw [hst,Qn8 hp] at hx;cases hx
 have hfit:=Zdu oks g1;refine ⟨K,T,hnc,?_⟩;by_cases hi:(Qab (Qag s) l).was=(Qab (Qag s) l).now
 ·rw [Qnd (Qa0.2 hi)];exact ⟨rfl,hwas.symm.trans hi,⟨fun _=>hi,fun _=>rfl⟩,hp,⟨hfit.ok,Nat.le_trans hfit.l (by omega),Nat.le_trans hfit.n (by omega),fun c hc=>Nat.le_trans (hfit.r c hc) (by omega)⟩,hw⟩
 ·rw [Qin (Qac.2 hi) (Qac.2 hnc)];have hn:=K.now.tree.rows;have hlen:=Qip (Qab (Qag s) l).was (Qab (Qag s) l).now;have:=hw.1;have:=hn.1;have F:=hfit.inst (Qow K.ok.was K.ok.now) (next:=(Qab (Qag s) l).now.next) K.ok.now.1 (by omega) (by omega);refine ⟨rfl,?_,⟨fun h=>?_,fun h=>absurd h hi⟩,Qkm hp (Qnf _ _) (Qng hw hn) hn.2.1,⟨F.ok,Nat.le_trans F.l (by omega),Nat.le_trans F.n (by omega),fun c hc=>Nat.le_trans (F.r c hc) (by omega)⟩,hw⟩
  ·show Qcm (Qef s _ _) (s.stamp+1)=_;rw [hwas];exact Zar hp g5.1 hn (by have:=K.now.next.1;exact this)
  ·have:=congrArg Sto.stamp h;have e:(Qef s (Qbr (Qab (Qag s) l).was (Qab (Qag s) l).now) (Qab (Qag s) l).now.next).stamp=s.stamp+1:=rfl;simp only [e] at this;omega
theorem Qlz (s:Sto) (l:List Cal) (oks:OkS s) (hll:l.length≤8796093022207) (okl:∀ c∈l,OkC0 c):Qai prog 7 [.agg (stoA s),.sl 8 false (l.map calA)] (aB true):=by
 exact Qad func7 (
 .new fun b1=>.r 1<|.call (Zj8)<|
 .r 1<|.u 1 [b1]<|
 .call (Qyc s oks)<|
 .r 2<|.br 15 (!(dP (Zdg s))) (fun q1=>have q1:=notT q1;have p1:=booF q1;.r 4<|.r 2<|.f (aB true) [] (aB true) (by exact Sub.of_eq (by first | rfl | (refine congrArg aB ?_;simp_all;done))))
 <| fun q1=>have q1:=notF q1;have p1:=booT q1;have hgd:=Qa0.1 q1;have hfit:=Zdu oks hgd.1;have ms:MidS s:=Zcg hfit (by omega) (by have:=hgd.2.2.1;omega);have hx0:(Qag s).now.next<1152921504606847976:=(by have:=hgd.2.2.2.2.2;show (Qcm s s.stamp).next<_;omega);.r 1<|.call (Qxy l hll okl)<|
 .r 2<|.br 19 (!(dP (Qfm l))) (fun q2=>have q2:=notT q2;have p2:=booF q2;.r 2<|.f (aB true) [] (aB true) (by exact Sub.of_eq (by first | rfl | (refine congrArg aB ?_;simp_all;done))))
 <| fun q2=>have q2:=notF q2;have p2:=booT q2;have hsm:=Qa0.1 q2;have hl30:l.length≤30:=hsm.2;have ok:∀ c∈l,OkCal c:=fun c hc=>Zfx hsm hc (okl c hc);have htx:∀ c∈l,c.text.length≤500000:=fun c hc=>(by have:=(Zak hsm hc).2.2;omega);have ff:=Qup oks hgd hl30 ok _ rfl;have kf:=ff.2.2.2.2.2.2.2.1;.u 1 [b1]<|
 .call (Qd4 s oks (by have:=hfit.l;omega))<|
 .r 1<|.call (Qtr (Qag s) l (Qqk oks) ff.2.1 hgd.2.2.2.1 hl30 ok htx hx0 (by show ([]:List Int).length≤_;simp) List.Pairwise.nil)<|
 .r 3<|.new fun b2=>.u 2 [b2]<|
 .u 2 [b1,b2]<|
 .call (Qim s (Qab (Qag s) l) ms ff.1.ok ff.2.2.2.2.2.2.2.2 ff.1.now.tree.rows)<|
 .r 3<|.new fun b3=>.u 2 [b3]<|
 .u 3 [b3,b3]<|
 .call (Qn9 (Qbi s (Qab (Qag s) l)).1 (Qbi s (Qab (Qag s) l)).1.stamp kf.ok (by have:=kf.l;omega))<|
 .new fun b4=>.u 1 [b4]<|
 .ord [0,1,2,3,4,5,6,7,8,9,10,11,12,13,14,15,16,17,18,20,21,19,22,23,24,25,26,27,28,29]<|.u 4 [b1,b2]<|
 .call (Qkq s (Qab (Qag s) l) oks (by have:=hfit.l;omega) ff.1.ok)<|
 .r 3<|.is 45 (show (!(dP (Qgm s (Qab (Qag s) l))))=true from (by rw [show (dP (Qgm s (Qab (Qag s) l)))=false from (Qac.2 ff.2.2.1)];rfl))<|.r 4<|.is 49 (show (((Qbi s (Qab (Qag s) l)).2)==0)=true from (by rw [ff.2.2.2.1];rfl))<|.u 3 [b4,b2]<|
 .call (Qy6 (Qcm (Qbi s (Qab (Qag s) l)).1 (Qbi s (Qab (Qag s) l)).1.stamp) (Qab (Qag s) l).now (Qlv kf.ok _) ff.1.ok.now)<|
 .r 2<|.is 55 (show (dP ((Qcm (Qbi s (Qab (Qag s) l)).1 (Qbi s (Qab (Qag s) l)).1.stamp)=(Qab (Qag s) l).now))=true from (Qa0.2 ff.2.2.2.2.1))<|.u 3 [b2,b3,b1]<|
 .call (Qm1 (Qab (Qag s) l) ff.1.ok)<|
 .call (Qx5 (Qbi s (Qab (Qag s) l)).1 s kf.ok oks)<|
 .r 3<|.is 63 (show ((dP ((Qab (Qag s) l).was=(Qab (Qag s) l).now))==(dP ((Qbi s (Qab (Qag s) l)).1=s)))=true from (by rw [show dP ((Qbi s (Qab (Qag s) l)).1=s)=dP ((Qab (Qag s) l).was=(Qab (Qag s) l).now) from by rw [show ((Qbi s (Qab (Qag s) l)).1=s)=((Qab (Qag s) l).was=(Qab (Qag s) l).now) from propext ff.2.2.2.2.2.1]];simp))<|.u 1 [b3]<|
 .call (Ql9 (Qbi s (Qab (Qag s) l)).1 kf.ok)<|
 .r 2<|.f (aB true) [] (aB (dP (Qce (Qbi s (Qab (Qag s) l)).1))) (by exact Sub.of_eq (by first | rfl | (refine congrArg aB ?_;simp_all;done))))
end Go.Proofs.YtahlldgocpabjaaGreat
