import Derived.Test.YtahlldgocpabjaaGreatMrgAL
import Derived.Test.YtahlldgocpabjaaGreatMrgAE
import Derived.Test.YtahlldgocpabjaaGreatMrgAC
import Derived.Test.YtahlldgocpabjaaGreatMrgY
import Derived.Test.YtahlldgocpabjaaGreatMrgJ
import Derived.Test.YtahlldgocpabjaaGreatMrgAD
set_option maxRecDepth 100000
set_option maxHeartbeats 8000000
set_option linter.unusedVariables false
set_option linter.unusedSimpArgs false
namespace Go.Proofs.YtahlldgocpabjaaGreat
open Go Go.RowKit Copyhold Go.Proofs.Tryz
theorem Qzl :Qaj prog 43 [] (.agg (stoA newS)):=by
 exact Qad func43 (
 .new fun b1=>.call (Zce)<|
 .new fun b2=>.u 1 [b2]<|
 .u 2 [b2]<|
 .idxM newF.l nodA 0 (m:=0) (show (0:Int)=((0:Nat):Int) from rfl) (by decide) fun x1 hx1=>
 have ex1:=Zly hx1;.u 9 [b1]<|
 .f (.agg (stoA newS)) [b1] (.agg [.sl 2 true ([[aI 1,.sl 7 true ([[aI 1,aB false,aI x1.ino,aI x1.kind,aI x1.links,aS x1.text,.sl 2 false (x1.l.map entA)]])]]),.sl 2 true ([[aI 1,aI 2]]),aI 1]) (by
  obtain rfl:=ex1
  first | exact sR | exact Sub.aggs ⟨Qwx ⟨sR,Qwx sr7,trivial⟩,Qwx sr2,sR,trivial⟩))
theorem Zk7 :Qaj prog 11 [] (aB true):=by
 exact Qad func11 (
 .r 1<|.call (Qzl)<|
 .new fun b1=>.u 1 [b1]<|
 .r 1<|.new fun b2=>.u 1 [b2]<|
 .u 3 [b1,b2]<|
 .cs (args0:=[.agg (stoA newS),.sl 8 true ([[aI 6,aI 1,aI 0,aI 0,aI 0,aS ([97]),aS ([]),aS ([])]])]) (Zb3) ⟨sR,Sub.loose _ _ _,trivial⟩<|
 .r 3<|.new fun b3=>.u 2 [b3]<|
 let J1:Jn (Nat):=⟨fun j1=>⟨[(0,aB false),(3,.ptr 3 b3 0),(4,.sl 6 false ([rA].map repA)),(5,.ptr 5 j1 0)],[(3,.box b3 25 (stoA kA)),(5,.box j1 31 (txnA tA))]⟩,fun _=>True⟩
 .cut J1 (.pick [0,2]<|.u 2 [b1,b2]<|
 .fork<|.alt (.call (Qdr newS Qk8 (by decide))<|
 .fork<|.alt (.cs (args0:=[.agg [aI ((Qag newS).stamp),.sl 5 false ((Qag newS).was.l.map nodA),aI ((Qag newS).was.next),.sl 5 false ((Qag newS).now.l.map nodA),aI ((Qag newS).now.next),.sl 1 false ((Qag newS).looks.map intA)],.agg [aI 6,aI 1,aI 0,aI 0,aI 0,aS ([97]),aS ([]),aS ([])]]) (Qci) sr2<|
 .pick [4,5,6]<|.r 3<|.fork<|.alt (.new fun b4=>.pick [8,9,10]<|.new fun b5=>.u 2 [b4,b5]<|
 .jo J1 b4 [] [] sr4 bb2)
 <| .new fun b6=>.pick [7,9,10]<|.new fun b7=>.u 2 [b7,b6]<|
 .jo J1 b7 [] [] sr4 bb2)
 <| .alt (.new fun b8=>.fork<|.alt (.cs (args0:=[.agg [aI ((Qag newS).stamp),.sl 5 false ((Qag newS).was.l.map nodA),aI ((Qag newS).was.next),.sl 5 false ((Qag newS).now.l.map nodA),aI ((Qag newS).now.next),.sl 1 false ((Qag newS).looks.map intA)],.agg [aI 6,aI 1,aI 0,aI 0,aI 0,aS ([97]),aS ([]),aS ([])]]) (Qci) sr2<|
 .pick [4,5,6,8,9,10]<|.r 3<|.new fun b9=>.u 2 [b8,b9]<|
 .jo J1 b8 [] [] sr4 bb2)
 <| .new fun b10=>.pick [3,4,5,6,9,10]<|.cs (args0:=[.agg [aI ((Qag newS).stamp),.sl 5 false ((Qag newS).was.l.map nodA),aI ((Qag newS).was.next),.sl 5 false ((Qag newS).now.l.map nodA),aI ((Qag newS).now.next),.sl 1 false ((Qag newS).looks.map intA)],.agg [aI 6,aI 1,aI 0,aI 0,aI 0,aS ([97]),aS ([]),aS ([])]]) (Qci) sr2<|
 .u 5 [b8,b10]<|
 .jo J1 b8 [] [] sr4 bb2)
 <| .new fun b11=>.fork<|.alt (.cs (args0:=[.agg [aI ((Qag newS).stamp),.sl 5 false ((Qag newS).was.l.map nodA),aI ((Qag newS).was.next),.sl 5 false ((Qag newS).now.l.map nodA),aI ((Qag newS).now.next),.sl 1 false ((Qag newS).looks.map intA)],.agg [aI 6,aI 1,aI 0,aI 0,aI 0,aS ([97]),aS ([]),aS ([])]]) (Qci) sr2<|
 .pick [4,5,6,7,9,10]<|.r 3<|.new fun b12=>.u 2 [b12,b11]<|
 .jo J1 b12 [] [] sr4 bb2)
 <| .new fun b13=>.pick [3,4,5,6,9,10]<|.cs (args0:=[.agg [aI ((Qag newS).stamp),.sl 5 false ((Qag newS).was.l.map nodA),aI ((Qag newS).was.next),.sl 5 false ((Qag newS).now.l.map nodA),aI ((Qag newS).now.next),.sl 1 false ((Qag newS).looks.map intA)],.agg [aI 6,aI 1,aI 0,aI 0,aI 0,aS ([97]),aS ([]),aS ([])]]) (Qci) sr2<|
 .u 5 [b13,b11]<|
 .jo J1 b13 [] [] sr4 bb2)
 <| .alt (.new fun b14=>.fork<|.alt (.call (Qdr newS Qk8 (by decide))<|
 .fork<|.alt (.cs (args0:=[.agg [aI ((Qag newS).stamp),.sl 5 false ((Qag newS).was.l.map nodA),aI ((Qag newS).was.next),.sl 5 false ((Qag newS).now.l.map nodA),aI ((Qag newS).now.next),.sl 1 false ((Qag newS).looks.map intA)],.agg [aI 6,aI 1,aI 0,aI 0,aI 0,aS ([97]),aS ([]),aS ([])]]) (Qci) sr2<|
 .pick [4,5,6,8,9,10]<|.r 3<|.new fun b15=>.u 2 [b14,b15]<|
 .jo J1 b14 [] [] sr4 bb2)
 <| .new fun b16=>.pick [3,4,5,6,9,10]<|.cs (args0:=[.agg [aI ((Qag newS).stamp),.sl 5 false ((Qag newS).was.l.map nodA),aI ((Qag newS).was.next),.sl 5 false ((Qag newS).now.l.map nodA),aI ((Qag newS).now.next),.sl 1 false ((Qag newS).looks.map intA)],.agg [aI 6,aI 1,aI 0,aI 0,aI 0,aS ([97]),aS ([]),aS ([])]]) (Qci) sr2<|
 .u 5 [b14,b16]<|
 .jo J1 b14 [] [] sr4 bb2)
 <| .new fun b17=>.pick [1,3,4,5,6,9,10]<|.call (Qdr newS Qk8 (by decide))<|
 .cs (args0:=[.agg [aI ((Qag newS).stamp),.sl 5 false ((Qag newS).was.l.map nodA),aI ((Qag newS).was.next),.sl 5 false ((Qag newS).now.l.map nodA),aI ((Qag newS).now.next),.sl 1 false ((Qag newS).looks.map intA)],.agg [aI 6,aI 1,aI 0,aI 0,aI 0,aS ([97]),aS ([]),aS ([])]]) (Qci) sr2<|
 .u 5 [b14,b17]<|
 .jo J1 b14 [] [] sr4 bb2)
 <| .new fun b18=>.fork<|.alt (.call (Qdr newS Qk8 (by decide))<|
 .fork<|.alt (.cs (args0:=[.agg [aI ((Qag newS).stamp),.sl 5 false ((Qag newS).was.l.map nodA),aI ((Qag newS).was.next),.sl 5 false ((Qag newS).now.l.map nodA),aI ((Qag newS).now.next),.sl 1 false ((Qag newS).looks.map intA)],.agg [aI 6,aI 1,aI 0,aI 0,aI 0,aS ([97]),aS ([]),aS ([])]]) (Qci) sr2<|
 .pick [4,5,6,7,9,10]<|.r 3<|.new fun b19=>.u 2 [b19,b18]<|
 .jo J1 b19 [] [] sr4 bb2)
 <| .new fun b20=>.pick [3,4,5,6,9,10]<|.cs (args0:=[.agg [aI ((Qag newS).stamp),.sl 5 false ((Qag newS).was.l.map nodA),aI ((Qag newS).was.next),.sl 5 false ((Qag newS).now.l.map nodA),aI ((Qag newS).now.next),.sl 1 false ((Qag newS).looks.map intA)],.agg [aI 6,aI 1,aI 0,aI 0,aI 0,aS ([97]),aS ([]),aS ([])]]) (Qci) sr2<|
 .u 5 [b20,b18]<|
 .jo J1 b20 [] [] sr4 bb2)
 <| .new fun b21=>.pick [1,3,4,5,6,9,10]<|.call (Qdr newS Qk8 (by decide))<|
 .cs (args0:=[.agg [aI ((Qag newS).stamp),.sl 5 false ((Qag newS).was.l.map nodA),aI ((Qag newS).was.next),.sl 5 false ((Qag newS).now.l.map nodA),aI ((Qag newS).now.next),.sl 1 false ((Qag newS).looks.map intA)],.agg [aI 6,aI 1,aI 0,aI 0,aI 0,aS ([97]),aS ([]),aS ([])]]) (Qci) sr2<|
 .u 5 [b21,b18]<|
 .jo J1 b21 [] [] sr4 bb2)
 <| fun j1 _=>(fun (b22:Nat)=>.u 2 [b3,b22]<|
 .call (Qtp)<|
 .r 3<|.new fun b23=>.u 2 [b23]<|
 .u 4 [b3]<|
 .is 34 (show (kA.stamp==2)=true from (by rw [Zh7];rfl))<|.r 2<|.lm 36 ([rA]) repA<|.r 3<|.is 39 (show ((([rA]).length:Int)==1)=true from rfl)<|.r 1<|.idxM ([rA]) repA 0 (m:=0) (show (0:Int)=((0:Nat):Int) from rfl) (by decide) fun x1 hx1=>
 have ex1:=(Option.some.inj (show some rA=some x1 from hx1));.r 5<|.is 46 (show (x1.a==2)=true from (by rw [← ex1];rfl))<|.r 4<|.is 50 (show (15==15)=true from rfl)<|.u 2 [b3,b22]<|
 .call (Qpo kA tA Zeb.ok (by have:=Zeb.l;omega) Zk0)<|
 .r 2<|.is 55 (show (dP (Qfo kA tA))=true from (Qaw.2 Qxs))<|.u 1 [b22]<|
 .call (Qs9 tA Zk0)<|
 .r 3<|.f (aB true) [] (aB (!(dP (tA.was=tA.now)))) (by exact Sub.of_eq (congrArg aB (by first | rfl | (rw [Qac.2 Zbk];rfl))))) j1)
theorem Qj3 {f g:Fsy} {k:Nat} (hf:fewF f) (hk:k≤30) (K:KeptN f g k):midF g:=by
 have h:=K.few;rw [wF_eq,wF_eq] at h;have:=hf.1;unfold midF;omega
theorem Qb6 {f:Fsy} {l:List Cal} {k:Nat} (h:k≤l.length):(plR f (l.take k)).length=k:=by rw [Qhi,List.length_take];omega
structure Pls where
 f:Fsy
 l:List Cal
 g:Fsy
 next:Int
structure OkPls (a:Pls):Prop where
 f:OkF a.f
 len:a.l.length≤8796093022207
 l:∀ c∈a.l,OkC0 c
 g:OkF a.g
 next:I64 a.next
theorem Qfz:∀ (l:List Cal) {t:Txn},Asc t.looks→Asc (Qab t l).looks
 | [],_,h=>h
 | c :: r,t,_=>Qfz r (Zbo t c)
theorem Qmz (t:Txn) (l:List Cal) (okt:OkT t) (T:TreeP t.now) (hf:fewF t.now) (hl:l.length≤30) (ok:∀ c∈l,OkCal c) (htx:∀ c∈l,c.text.length≤500000) (hx:t.now.next<1152921504606847976) (hk0:t.looks.length≤1000) (ha:Asc t.looks):Qaj prog 41 [.agg (txnA t),.sl 8 false (l.map calA)] (.tup [.agg (txnA (Qab t l)),.sl 6 false ((plR t.now l).map repA)]):=by
 exact Qad func41 (
 .new fun b1=>.new fun b2=>.r 1<|.r 1<|.rowNil 6 6 45 6<|.r 1<|let L1:Lp (Nat × Value):=⟨fun a1=>⟨[(1,.sl 8 false (l.map calA)),(2,.ptr 2 b1 0),(4,.ptr 4 b2 0),(7,aI (a1.1:Int)),(6,.rw 6 a1.2 ((plR t.now (l.take a1.1)).length))],[(2,.box b1 31 [aI ((Qab t (l.take a1.1)).stamp),.sl 5 false ((Qab t (l.take a1.1)).was.l.map nodA),aI ((Qab t (l.take a1.1)).was.next),.sl 5 false ((Qab t (l.take a1.1)).now.l.map nodA),aI ((Qab t (l.take a1.1)).now.next),.sl 1 false ((Qab t (l.take a1.1)).looks.map intA)]),(4,.box b2 31 [aI 0,aN,aI 0,aN,aI 0,aN]),(6,.row a1.2 45 6 ((plR t.now (l.take a1.1)).map repA))]⟩,fun a1=>l.length-a1.1,fun a1=>a1.1≤l.length⟩
 .lp L1 (0,.slice none 0 0) (show 0≤l.length from Nat.zero_le _) [(7,aI 0),(6,.rw 6 (.slice none 0 0) 0)] [(2,.box b1 31 (txnA t)),(6,.row (.slice none 0 0) 45 6 ([]))] ⟨sR,sR,sR,sO,Sub.of_eq rfl,trivial⟩ ⟨⟨_,rfl,SubB.of_eq rfl⟩,sB,⟨_,rfl,SubB.of_eq rfl⟩,trivial⟩ fun a1 ha1=>
 (fun (k:Nat) (V:Value) (hH1:k≤l.length)=>have kt:=Qle okt T (by omega) ok hx hk0 (k:=k) (by omega);have kp:=kt.now;have kp2:=kp.next;have kl:=kt.len;.r 3<|.lm 12 l calA<|.r 1<|.bd 13 ((k:Int)<(l.length:Int)) (fun p1=>.pick [0,1,2,3,4]<|.u 3 [b1]<|
 .idxM l calA k (m:=(k:Int)) rfl (by omega) fun x1 hx1=>
 have okx1:=ok x1 (List.mem_of_getElem? hx1);have txx1:=htx x1 (List.mem_of_getElem? hx1);.r 1<|.fork<|.alt (.call (Qf1 (Qab t (l.take k)) x1 kp.ok okx1 kp.tree.rows (by omega) (by omega) kp.tree (Qj3 hf (by omega) kp) txx1 (Qfz _ ha))<|
 .pick [6,7,8]<|.r 3<|.fork<|.alt (.new fun b3=>.pick [10,11,12]<|.new fun b4=>.u 2 [b3,b4]<|
 .u 2 [b3,b1]<|
 .u 3 [b4]<|
 .app 72 V ((plR t.now (l.take k)).map repA) ([[aI ((doF (Qab t (l.take k)).now x1).2.e),aI ((doF (Qab t (l.take k)).now x1).2.a),aI ((doF (Qab t (l.take k)).now x1).2.b),aI ((doF (Qab t (l.take k)).now x1).2.n),aS ((doF (Qab t (l.take k)).now x1).2.text),.sl 1 false ((doF (Qab t (l.take k)).now x1).2.names.map txA)]]) (by have hw:=Qb6 (f:=t.now) (l:=l) (k:=k) (by omega);simp only [List.length_map,List.length_cons,List.length_nil];omega) (by have hw:=Qb6 (f:=t.now) (l:=l) (k:=k) (by omega);simp only [List.length_map,List.length_cons,List.length_nil];omega) fun V1=>
 .r 1<|.run 3 [rng .i64 ((k:Int)+1)] ⟨Qaq (by omega) (by omega),trivial⟩<|
 .bk L1 (k,V) ((k+1),V1) (show (k+1)≤l.length from (by show _≤_;omega)) (show l.length-(k+1)<l.length-k from (by omega)) [(7,aI ((k:Int)+1)),(6,.rw 6 V1 (((plR t.now (l.take k)).map repA).length+([[aI ((doF (Qab t (l.take k)).now x1).2.e),aI ((doF (Qab t (l.take k)).now x1).2.a),aI ((doF (Qab t (l.take k)).now x1).2.b),aI ((doF (Qab t (l.take k)).now x1).2.n),aS ((doF (Qab t (l.take k)).now x1).2.text),.sl 1 false ((doF (Qab t (l.take k)).now x1).2.names.map txA)]]:List (List AV)).length))] [(2,.box b1 31 [aI ((Qbw (Qab t (l.take k)) x1).stamp),.sl 5 false ((Qbw (Qab t (l.take k)) x1).was.l.map nodA),aI ((Qbw (Qab t (l.take k)) x1).was.next),.sl 5 false ((Qbw (Qab t (l.take k)) x1).now.l.map nodA),aI ((Qbw (Qab t (l.take k)) x1).now.next),.sl 1 false ((Qbw (Qab t (l.take k)) x1).looks.map intA)]),(6,.row V1 45 6 (((plR t.now (l.take k)).map repA)++([[aI ((doF (Qab t (l.take k)).now x1).2.e),aI ((doF (Qab t (l.take k)).now x1).2.a),aI ((doF (Qab t (l.take k)).now x1).2.b),aI ((doF (Qab t (l.take k)).now x1).2.n),aS ((doF (Qab t (l.take k)).now x1).2.text),.sl 1 false ((doF (Qab t (l.take k)).now x1).2.names.map txA)]])))] ⟨sR,sR,sR,sO,Sub.of_eq (congrArg (AV.rw 6 V1) (by rw [Qch hx1];simp)),trivial⟩ ⟨⟨_,rfl,SubB.of_eq (by rw [Qd8 hx1])⟩,sB,⟨_,rfl,SubB.of_eq (by rw [Qch hx1];simp [repA])⟩,trivial⟩)
 <| .new fun b5=>.pick [9,11,12]<|.new fun b6=>.u 2 [b6,b5]<|
 .u 2 [b6,b1]<|
 .u 3 [b5]<|
 .app 72 V ((plR t.now (l.take k)).map repA) ([[aI ((doF (Qab t (l.take k)).now x1).2.e),aI ((doF (Qab t (l.take k)).now x1).2.a),aI ((doF (Qab t (l.take k)).now x1).2.b),aI ((doF (Qab t (l.take k)).now x1).2.n),aS ((doF (Qab t (l.take k)).now x1).2.text),.sl 1 false ((doF (Qab t (l.take k)).now x1).2.names.map txA)]]) (by have hw:=Qb6 (f:=t.now) (l:=l) (k:=k) (by omega);simp only [List.length_map,List.length_cons,List.length_nil];omega) (by have hw:=Qb6 (f:=t.now) (l:=l) (k:=k) (by omega);simp only [List.length_map,List.length_cons,List.length_nil];omega) fun V2=>
 .r 1<|.run 3 [rng .i64 ((k:Int)+1)] ⟨Qaq (by omega) (by omega),trivial⟩<|
 .bk L1 (k,V) ((k+1),V2) (show (k+1)≤l.length from (by show _≤_;omega)) (show l.length-(k+1)<l.length-k from (by omega)) [(7,aI ((k:Int)+1)),(6,.rw 6 V2 (((plR t.now (l.take k)).map repA).length+([[aI ((doF (Qab t (l.take k)).now x1).2.e),aI ((doF (Qab t (l.take k)).now x1).2.a),aI ((doF (Qab t (l.take k)).now x1).2.b),aI ((doF (Qab t (l.take k)).now x1).2.n),aS ((doF (Qab t (l.take k)).now x1).2.text),.sl 1 false ((doF (Qab t (l.take k)).now x1).2.names.map txA)]]:List (List AV)).length))] [(2,.box b1 31 [aI ((Qbw (Qab t (l.take k)) x1).stamp),.sl 5 false ((Qbw (Qab t (l.take k)) x1).was.l.map nodA),aI ((Qbw (Qab t (l.take k)) x1).was.next),.sl 5 false ((Qbw (Qab t (l.take k)) x1).now.l.map nodA),aI ((Qbw (Qab t (l.take k)) x1).now.next),.sl 1 false ((Qbw (Qab t (l.take k)) x1).looks.map intA)]),(6,.row V2 45 6 (((plR t.now (l.take k)).map repA)++([[aI ((doF (Qab t (l.take k)).now x1).2.e),aI ((doF (Qab t (l.take k)).now x1).2.a),aI ((doF (Qab t (l.take k)).now x1).2.b),aI ((doF (Qab t (l.take k)).now x1).2.n),aS ((doF (Qab t (l.take k)).now x1).2.text),.sl 1 false ((doF (Qab t (l.take k)).now x1).2.names.map txA)]])))] ⟨sR,sR,sR,sO,Sub.of_eq (congrArg (AV.rw 6 V2) (by rw [Qch hx1];simp)),trivial⟩ ⟨⟨_,rfl,SubB.of_eq (by rw [Qd8 hx1])⟩,sB,⟨_,rfl,SubB.of_eq (by rw [Qch hx1];simp [repA])⟩,trivial⟩)
 <| .alt (.new fun b7=>.fork<|.alt (.call (Qf1 (Qab t (l.take k)) x1 kp.ok okx1 kp.tree.rows (by omega) (by omega) kp.tree (Qj3 hf (by omega) kp) txx1 (Qfz _ ha))<|
 .pick [6,7,8,10,11,12]<|.r 3<|.new fun b8=>.u 2 [b7,b8]<|
 .u 2 [b7,b1]<|
 .u 3 [b8]<|
 .app 72 V ((plR t.now (l.take k)).map repA) ([[aI ((doF (Qab t (l.take k)).now x1).2.e),aI ((doF (Qab t (l.take k)).now x1).2.a),aI ((doF (Qab t (l.take k)).now x1).2.b),aI ((doF (Qab t (l.take k)).now x1).2.n),aS ((doF (Qab t (l.take k)).now x1).2.text),.sl 1 false ((doF (Qab t (l.take k)).now x1).2.names.map txA)]]) (by have hw:=Qb6 (f:=t.now) (l:=l) (k:=k) (by omega);simp only [List.length_map,List.length_cons,List.length_nil];omega) (by have hw:=Qb6 (f:=t.now) (l:=l) (k:=k) (by omega);simp only [List.length_map,List.length_cons,List.length_nil];omega) fun V3=>
 .r 1<|.run 3 [rng .i64 ((k:Int)+1)] ⟨Qaq (by omega) (by omega),trivial⟩<|
 .bk L1 (k,V) ((k+1),V3) (show (k+1)≤l.length from (by show _≤_;omega)) (show l.length-(k+1)<l.length-k from (by omega)) [(7,aI ((k:Int)+1)),(6,.rw 6 V3 (((plR t.now (l.take k)).map repA).length+([[aI ((doF (Qab t (l.take k)).now x1).2.e),aI ((doF (Qab t (l.take k)).now x1).2.a),aI ((doF (Qab t (l.take k)).now x1).2.b),aI ((doF (Qab t (l.take k)).now x1).2.n),aS ((doF (Qab t (l.take k)).now x1).2.text),.sl 1 false ((doF (Qab t (l.take k)).now x1).2.names.map txA)]]:List (List AV)).length))] [(2,.box b1 31 [aI ((Qbw (Qab t (l.take k)) x1).stamp),.sl 5 false ((Qbw (Qab t (l.take k)) x1).was.l.map nodA),aI ((Qbw (Qab t (l.take k)) x1).was.next),.sl 5 false ((Qbw (Qab t (l.take k)) x1).now.l.map nodA),aI ((Qbw (Qab t (l.take k)) x1).now.next),.sl 1 false ((Qbw (Qab t (l.take k)) x1).looks.map intA)]),(6,.row V3 45 6 (((plR t.now (l.take k)).map repA)++([[aI ((doF (Qab t (l.take k)).now x1).2.e),aI ((doF (Qab t (l.take k)).now x1).2.a),aI ((doF (Qab t (l.take k)).now x1).2.b),aI ((doF (Qab t (l.take k)).now x1).2.n),aS ((doF (Qab t (l.take k)).now x1).2.text),.sl 1 false ((doF (Qab t (l.take k)).now x1).2.names.map txA)]])))] ⟨sR,sR,sR,sO,Sub.of_eq (congrArg (AV.rw 6 V3) (by rw [Qch hx1];simp)),trivial⟩ ⟨⟨_,rfl,SubB.of_eq (by rw [Qd8 hx1])⟩,sB,⟨_,rfl,SubB.of_eq (by rw [Qch hx1];simp [repA])⟩,trivial⟩)
 <| .new fun b9=>.pick [5,6,7,8,11,12]<|.call (Qf1 (Qab t (l.take k)) x1 kp.ok okx1 kp.tree.rows (by omega) (by omega) kp.tree (Qj3 hf (by omega) kp) txx1 (Qfz _ ha))<|
 .u 5 [b7,b9]<|
 .u 2 [b7,b1]<|
 .u 3 [b9]<|
 .app 72 V ((plR t.now (l.take k)).map repA) ([[aI ((doF (Qab t (l.take k)).now x1).2.e),aI ((doF (Qab t (l.take k)).now x1).2.a),aI ((doF (Qab t (l.take k)).now x1).2.b),aI ((doF (Qab t (l.take k)).now x1).2.n),aS ((doF (Qab t (l.take k)).now x1).2.text),.sl 1 false ((doF (Qab t (l.take k)).now x1).2.names.map txA)]]) (by have hw:=Qb6 (f:=t.now) (l:=l) (k:=k) (by omega);simp only [List.length_map,List.length_cons,List.length_nil];omega) (by have hw:=Qb6 (f:=t.now) (l:=l) (k:=k) (by omega);simp only [List.length_map,List.length_cons,List.length_nil];omega) fun V4=>
 .r 1<|.run 3 [rng .i64 ((k:Int)+1)] ⟨Qaq (by omega) (by omega),trivial⟩<|
 .bk L1 (k,V) ((k+1),V4) (show (k+1)≤l.length from (by show _≤_;omega)) (show l.length-(k+1)<l.length-k from (by omega)) [(7,aI ((k:Int)+1)),(6,.rw 6 V4 (((plR t.now (l.take k)).map repA).length+([[aI ((doF (Qab t (l.take k)).now x1).2.e),aI ((doF (Qab t (l.take k)).now x1).2.a),aI ((doF (Qab t (l.take k)).now x1).2.b),aI ((doF (Qab t (l.take k)).now x1).2.n),aS ((doF (Qab t (l.take k)).now x1).2.text),.sl 1 false ((doF (Qab t (l.take k)).now x1).2.names.map txA)]]:List (List AV)).length))] [(2,.box b1 31 [aI ((Qbw (Qab t (l.take k)) x1).stamp),.sl 5 false ((Qbw (Qab t (l.take k)) x1).was.l.map nodA),aI ((Qbw (Qab t (l.take k)) x1).was.next),.sl 5 false ((Qbw (Qab t (l.take k)) x1).now.l.map nodA),aI ((Qbw (Qab t (l.take k)) x1).now.next),.sl 1 false ((Qbw (Qab t (l.take k)) x1).looks.map intA)]),(6,.row V4 45 6 (((plR t.now (l.take k)).map repA)++([[aI ((doF (Qab t (l.take k)).now x1).2.e),aI ((doF (Qab t (l.take k)).now x1).2.a),aI ((doF (Qab t (l.take k)).now x1).2.b),aI ((doF (Qab t (l.take k)).now x1).2.n),aS ((doF (Qab t (l.take k)).now x1).2.text),.sl 1 false ((doF (Qab t (l.take k)).now x1).2.names.map txA)]])))] ⟨sR,sR,sR,sO,Sub.of_eq (congrArg (AV.rw 6 V4) (by rw [Qch hx1];simp)),trivial⟩ ⟨⟨_,rfl,SubB.of_eq (by rw [Qd8 hx1])⟩,sB,⟨_,rfl,SubB.of_eq (by rw [Qch hx1];simp [repA])⟩,trivial⟩)
 <| .new fun b10=>.fork<|.alt (.call (Qf1 (Qab t (l.take k)) x1 kp.ok okx1 kp.tree.rows (by omega) (by omega) kp.tree (Qj3 hf (by omega) kp) txx1 (Qfz _ ha))<|
 .pick [6,7,8,9,11,12]<|.r 3<|.new fun b11=>.u 2 [b11,b10]<|
 .u 2 [b11,b1]<|
 .u 3 [b10]<|
 .app 72 V ((plR t.now (l.take k)).map repA) ([[aI ((doF (Qab t (l.take k)).now x1).2.e),aI ((doF (Qab t (l.take k)).now x1).2.a),aI ((doF (Qab t (l.take k)).now x1).2.b),aI ((doF (Qab t (l.take k)).now x1).2.n),aS ((doF (Qab t (l.take k)).now x1).2.text),.sl 1 false ((doF (Qab t (l.take k)).now x1).2.names.map txA)]]) (by have hw:=Qb6 (f:=t.now) (l:=l) (k:=k) (by omega);simp only [List.length_map,List.length_cons,List.length_nil];omega) (by have hw:=Qb6 (f:=t.now) (l:=l) (k:=k) (by omega);simp only [List.length_map,List.length_cons,List.length_nil];omega) fun V5=>
 .r 1<|.run 3 [rng .i64 ((k:Int)+1)] ⟨Qaq (by omega) (by omega),trivial⟩<|
 .bk L1 (k,V) ((k+1),V5) (show (k+1)≤l.length from (by show _≤_;omega)) (show l.length-(k+1)<l.length-k from (by omega)) [(7,aI ((k:Int)+1)),(6,.rw 6 V5 (((plR t.now (l.take k)).map repA).length+([[aI ((doF (Qab t (l.take k)).now x1).2.e),aI ((doF (Qab t (l.take k)).now x1).2.a),aI ((doF (Qab t (l.take k)).now x1).2.b),aI ((doF (Qab t (l.take k)).now x1).2.n),aS ((doF (Qab t (l.take k)).now x1).2.text),.sl 1 false ((doF (Qab t (l.take k)).now x1).2.names.map txA)]]:List (List AV)).length))] [(2,.box b1 31 [aI ((Qbw (Qab t (l.take k)) x1).stamp),.sl 5 false ((Qbw (Qab t (l.take k)) x1).was.l.map nodA),aI ((Qbw (Qab t (l.take k)) x1).was.next),.sl 5 false ((Qbw (Qab t (l.take k)) x1).now.l.map nodA),aI ((Qbw (Qab t (l.take k)) x1).now.next),.sl 1 false ((Qbw (Qab t (l.take k)) x1).looks.map intA)]),(6,.row V5 45 6 (((plR t.now (l.take k)).map repA)++([[aI ((doF (Qab t (l.take k)).now x1).2.e),aI ((doF (Qab t (l.take k)).now x1).2.a),aI ((doF (Qab t (l.take k)).now x1).2.b),aI ((doF (Qab t (l.take k)).now x1).2.n),aS ((doF (Qab t (l.take k)).now x1).2.text),.sl 1 false ((doF (Qab t (l.take k)).now x1).2.names.map txA)]])))] ⟨sR,sR,sR,sO,Sub.of_eq (congrArg (AV.rw 6 V5) (by rw [Qch hx1];simp)),trivial⟩ ⟨⟨_,rfl,SubB.of_eq (by rw [Qd8 hx1])⟩,sB,⟨_,rfl,SubB.of_eq (by rw [Qch hx1];simp [repA])⟩,trivial⟩)
 <| .new fun b12=>.pick [5,6,7,8,11,12]<|.call (Qf1 (Qab t (l.take k)) x1 kp.ok okx1 kp.tree.rows (by omega) (by omega) kp.tree (Qj3 hf (by omega) kp) txx1 (Qfz _ ha))<|
 .u 5 [b12,b10]<|
 .u 2 [b12,b1]<|
 .u 3 [b10]<|
 .app 72 V ((plR t.now (l.take k)).map repA) ([[aI ((doF (Qab t (l.take k)).now x1).2.e),aI ((doF (Qab t (l.take k)).now x1).2.a),aI ((doF (Qab t (l.take k)).now x1).2.b),aI ((doF (Qab t (l.take k)).now x1).2.n),aS ((doF (Qab t (l.take k)).now x1).2.text),.sl 1 false ((doF (Qab t (l.take k)).now x1).2.names.map txA)]]) (by have hw:=Qb6 (f:=t.now) (l:=l) (k:=k) (by omega);simp only [List.length_map,List.length_cons,List.length_nil];omega) (by have hw:=Qb6 (f:=t.now) (l:=l) (k:=k) (by omega);simp only [List.length_map,List.length_cons,List.length_nil];omega) fun V6=>
 .r 1<|.run 3 [rng .i64 ((k:Int)+1)] ⟨Qaq (by omega) (by omega),trivial⟩<|
 .bk L1 (k,V) ((k+1),V6) (show (k+1)≤l.length from (by show _≤_;omega)) (show l.length-(k+1)<l.length-k from (by omega)) [(7,aI ((k:Int)+1)),(6,.rw 6 V6 (((plR t.now (l.take k)).map repA).length+([[aI ((doF (Qab t (l.take k)).now x1).2.e),aI ((doF (Qab t (l.take k)).now x1).2.a),aI ((doF (Qab t (l.take k)).now x1).2.b),aI ((doF (Qab t (l.take k)).now x1).2.n),aS ((doF (Qab t (l.take k)).now x1).2.text),.sl 1 false ((doF (Qab t (l.take k)).now x1).2.names.map txA)]]:List (List AV)).length))] [(2,.box b1 31 [aI ((Qbw (Qab t (l.take k)) x1).stamp),.sl 5 false ((Qbw (Qab t (l.take k)) x1).was.l.map nodA),aI ((Qbw (Qab t (l.take k)) x1).was.next),.sl 5 false ((Qbw (Qab t (l.take k)) x1).now.l.map nodA),aI ((Qbw (Qab t (l.take k)) x1).now.next),.sl 1 false ((Qbw (Qab t (l.take k)) x1).looks.map intA)]),(6,.row V6 45 6 (((plR t.now (l.take k)).map repA)++([[aI ((doF (Qab t (l.take k)).now x1).2.e),aI ((doF (Qab t (l.take k)).now x1).2.a),aI ((doF (Qab t (l.take k)).now x1).2.b),aI ((doF (Qab t (l.take k)).now x1).2.n),aS ((doF (Qab t (l.take k)).now x1).2.text),.sl 1 false ((doF (Qab t (l.take k)).now x1).2.names.map txA)]])))] ⟨sR,sR,sR,sO,Sub.of_eq (congrArg (AV.rw 6 V6) (by rw [Qch hx1];simp)),trivial⟩ ⟨⟨_,rfl,SubB.of_eq (by rw [Qd8 hx1])⟩,sB,⟨_,rfl,SubB.of_eq (by rw [Qch hx1];simp [repA])⟩,trivial⟩)
 <| fun p1=>.u 4 [b1,b2]<|
 .frz 6 [4,5] [4] [V=V,(plR t.now (l.take k)).length=((plR t.now (l.take k)).map repA).length] ⟨rfl,(by first | rfl | (simp;done) | (simp;omega)),trivial⟩<|
 .f (.tup [.agg (txnA (Qab t l)),.sl 6 false ((plR t.now l).map repA)]) [b2] (.tup [.agg [aI ((Qab t (l.take k)).stamp),.sl 5 false ((Qab t (l.take k)).was.l.map nodA),aI ((Qab t (l.take k)).was.next),.sl 5 false ((Qab t (l.take k)).now.l.map nodA),aI ((Qab t (l.take k)).now.next),.sl 1 false ((Qab t (l.take k)).looks.map intA)],.sl 6 false ((plR t.now (l.take k)).map repA)]) (by
  rw [show l.take k=l from Qa0 (by omega)]
  first | exact sR | exact Sub.tups ⟨sR,Sub.loose _ _ _,trivial⟩)) a1.1 a1.2 ha1)
theorem Zb2 {s:Sto} {g:Fsy} (hp:Qcc s) (hw:Qal (Qbq s s.stamp)) (hg:Qal g) (hx:(Qbq s s.stamp).next≤g.next):Qbq (Qdb s (Qbn (Qbq s s.stamp) g) g.next) (s.stamp+1)=g:=by
 have h1:=Qeh (Qbq s s.stamp) g;have hm:=Qei hw hg;have hn:1≤g.next:=hg.2.1;refine Qlg (Qg7 (Qey hp h1 hm hn) _) (Qae hg) (fun i=>?_) ?_
 ·rw [Qry hp h1 hm hn];rcases Qgv (f:=Qbq s s.stamp) hg i with ⟨hc,he⟩ | ⟨c,hc,he,_⟩
  ·rw [hc];exact he
  ·rw [hc];exact he
 ·show Qe6 _ _=_;rw [Qne hp];have:Qe6 s s.stamp≤g.next:=hx;unfold maxD
  split<;>omega
theorem Qfa {s:Sto} {l:List Cal} (oks:OkS s) (hg:Qvu s) (hl:l.length≤30) (ok:∀ c∈l,OkCal c) :
  ∀ t,t=Qab (Qag s) l→KeptT (Qag s) t l.length∧TreeP (Qag s).now∧¬ Qfo s t∧(Qao s t).2=0∧Qbq (Qao s t).1 (Qao s t).1.stamp=t.now∧((Qao s t).1=s↔t.was=t.now)∧Qcc (Qao s t).1∧Fit (Qao s t).1 713∧Qal t.was:=by
 rintro t rfl;obtain ⟨g1,hp,g3,g4,g5,g6⟩:=hg;have T:TreeP (Qag s).now:=Qm0 g4 g5;have K:=Qle (Qis oks) T (l:=l) (by omega) ok (by show (Qbq s s.stamp).next<_;omega) (by show ([]:List Int).length≤_;simp) (k:=l.length) (Nat.le_refl _);rw [List.take_length] at K;have hwas:(Qab (Qag s) l).was=Qbq s s.stamp:=K.was;have hw:Qal (Qab (Qag s) l).was:=by rw [hwas];exact g5.1
 have hst:(Qab (Qag s) l).stamp=s.stamp:=Qgj l _;have hnc:¬ Qfo s (Qab (Qag s) l):=by
  rintro ⟨x,hx,_⟩;rw [hst,Qo0 hp] at hx;cases hx
 have hfit:=Ze0 oks g1;refine ⟨K,T,hnc,?_⟩;by_cases hi:(Qab (Qag s) l).was=(Qab (Qag s) l).now
 ·rw [Qdk (Qaw.2 hi)];exact ⟨rfl,hwas.symm.trans hi,⟨fun _=>hi,fun _=>rfl⟩,hp,⟨hfit.ok,Nat.le_trans hfit.l (by omega),Nat.le_trans hfit.n (by omega),fun c hc=>Nat.le_trans (hfit.r c hc) (by omega)⟩,hw⟩
 ·rw [Qdj (Qac.2 hi) (Qac.2 hnc)];have hn:=K.now.tree.rows;have hlen:=Qgw (Qab (Qag s) l).was (Qab (Qag s) l).now;have:=hw.1;have:=hn.1;have F:=hfit.inst (Qlk K.ok.was K.ok.now) (next:=(Qab (Qag s) l).now.next) K.ok.now.1 (by omega) (by omega);refine ⟨rfl,?_,⟨fun h=>?_,fun h=>absurd h hi⟩,Qey hp (Qeh _ _) (Qei hw hn) hn.2.1,⟨F.ok,Nat.le_trans F.l (by omega),Nat.le_trans F.n (by omega),fun c hc=>Nat.le_trans (F.r c hc) (by omega)⟩,hw⟩
  ·show Qbq (Qdb s _ _) (s.stamp+1)=_;rw [hwas];exact Zb2 hp g5.1 hn (by have:=K.now.next.1;exact this)
  ·have:=congrArg Sto.stamp h;have e:(Qdb s (Qbn (Qab (Qag s) l).was (Qab (Qag s) l).now) (Qab (Qag s) l).now.next).stamp=s.stamp+1:=rfl;simp only [e] at this;omega
theorem Qky:∀ (l:List Cal) {t:Txn} {x:Int},x∈t.looks→x∈(Qab t l).looks
 | [],_,_,h=>h
 | c :: r,t,x,h=>Qky r (t:=Qbw t c) (Qel.2 (List.mem_append_left _ h))
theorem Qou {t:Txn} {c:Cal} {x:Int} (h:x∈Qbh t.now c):x∈(Qbw t c).looks:=Qel.2 (List.mem_append_right _ h)
theorem Zkt {f:Fsy} {i:Int} (hp:Qal f) (h:¬ 1≤i):atF f i=none:=by
 cases hn:atF f i with
 | none=>rfl
 | some n=>
  have:=Qbc hp hn;have h1:=this.1.1;have h2:=this.2.2;exact absurd (by omega) h
theorem Qi4:∀ (l:List Cal) {t:Txn},OkF t.now→TreeP t.now→(∀ c∈l,OkCal c)→t.now.next+l.length<4611686018427387904→¬ (0:Int)∈(Qab t l).looks →
  (Qab t l).now.next=t.now.next∧∀ i,atF (Qab t l).now i=atF t.now i∨i∈(Qab t l).looks
 | [],t,_,_,_,_,_=>⟨rfl,fun i=>.inl rfl⟩
 | c :: r,t,okf,T,ok,hx,h0=>by
  have hl:((c :: r).length:Int)=(r.length:Int)+1:=by rw [List.length_cons];omega
  have okc:=ok c (by simp);have hw:¬ Qg1 c:=fun hw=>h0 (Qky r (Qou (Qjj.2 (.inl ⟨rfl,hw⟩))));have K:=Zd9 okf okc T (by omega);obtain ⟨u,A⟩:=Zit okf okf T.rows T.rows okc hw (fun i _=>rfl);have ih:=Qi4 r (t:=Qbw t c) K.ok K.tree (fun c hc=>ok c (by simp [hc])) (by have:=A.nextf;show (doF t.now c).1.next+_<_;omega) h0;refine ⟨ih.1.trans A.nextf,fun i=>?_⟩;rcases ih.2 i with h | h
  ·by_cases hi:∃ p∈u,p.1=i
   ·obtain ⟨p,hp,rfl⟩:=hi;by_cases h1:1≤p.1
    ·right;refine Qky r (Qou (Qjj.2 (.inr ⟨?_,h1⟩)));unfold Qam;rw [if_neg (fun e=>hw (.inr (.inr (.inr (.inr e)))))];exact Qel.2 (A.looks p hp)
    ·left;exact h.trans ((Zkt K.tree.rows h1).trans (Zkt T.rows h1).symm)
   ·left;exact h.trans (A.updf.out (fun p hp e=>hi ⟨p,hp,e⟩))
  ·exact .inr h
theorem Zbv {s:Sto} {st:Int} (hle:st≤s.stamp) (h:Qcf s st=[]):Qbq s st=Qbq s s.stamp:=by
 unfold Qcf at h
 split at h
 ·cases h
 ·rename_i hc;have hL:(Qb1 s st s.l.length).length=0:=by
   have:¬ 1≤(Qb1 s st s.l.length).length:=fun e=>hc (.inl e);omega
  have h1:∀ c∈s.l,Qi0 st c=false:=fun c hm=>by
   cases hb:Qi0 st c with
   | false=>rfl
   | true=>
    have:c.ino∈Qb1 s st s.l.length:=by
     unfold Qb1;rw [List.take_length];exact List.mem_map.2 ⟨c,List.mem_filter.2 ⟨hm,hb⟩,rfl⟩
    rw [List.eq_nil_of_length_eq_zero hL] at this;cases this
  have h2:∀ c∈s.nexts,c.stamp≤st:=fun c hm=>by
   have:¬ Qz8 s st=true:=fun e=>hc (.inr e);by_cases hg:c.stamp>st
   ·exact absurd (by unfold Qz8;exact List.any_eq_true.2 ⟨c,hm,by simpa using hg⟩) this
   ·omega
  have e1:s.l.filterMap (Qbs st)=s.l.filterMap (Qbs s.stamp):=Qi2 fun c hm=>Qmk hle (h1 c hm);have e2:Qe6 s st=Qe6 s s.stamp:=(Qqo h2).trans (Qqo (fun c hm=>by have:=h2 c hm;omega)).symm;unfold Qbq;rw [e1,e2]
theorem Qzb {s:Sto} {st:Int} (hle:st≤s.stamp) (h:¬ Qbq s st=Qbq s s.stamp):(0:Int)∈Qcf s st:=by
 by_cases e:Qcf s st=[]
 ·exact absurd (Zbv hle e) h
 ·unfold Qcf at e ⊢
  split
  ·simp
  ·rename_i hc;rw [if_neg hc] at e;exact absurd rfl e
theorem Zbx {s:Sto} {st i:Int} (hp:Qcc s) (hle:st≤s.stamp) (hg:Qal (Qbq s s.stamp)) (h:¬ atF (Qbq s st) i=atF (Qbq s s.stamp) i):i∈Qcf s st:=by
 rcases Qgv (f:=Qbq s st) hg i with ⟨_,he⟩ | ⟨c,hc,_,_⟩
 ·exact absurd he h
 ·obtain ⟨h1,h2⟩:=Qn9 hc;have:=Qpx hp hle c h2;rw [h1] at this;exact this
theorem Qsb {k:Sto} {f g:Fsy} (hp:Qcc k) (hf:Qal f) (hg:Qal g) (i:Int):atF (Qbq (Qdb k (Qbn f g) g.next) (k.stamp+1)) i=if atF f i=atF g i then atF (Qbq k k.stamp) i else atF g i:=by
 rw [Qry hp (Qeh f g) (Qei hf hg) hg.2.1];rcases Qgv (f:=f) hg i with ⟨hc,he⟩ | ⟨c,hc,he,hne⟩
 ·rw [hc,if_pos he]
 ·rw [hc,if_neg hne];exact he
end Go.Proofs.YtahlldgocpabjaaGreat
