import Derived.Test.YtahlldgocpabjaaGreatAl
import Derived.Test.YtahlldgocpabjaaGreatMrgAG
import Derived.Test.YtahlldgocpabjaaGreatMrgZ
import Derived.Test.YtahlldgocpabjaaGreatMrgW
import Derived.Test.YtahlldgocpabjaaGreatMrgT
import Derived.Test.YtahlldgocpabjaaGreatMrgH
import Derived.Test.YtahlldgocpabjaaGreatMrgAF
import Derived.Test.YtahlldgocpabjaaGreatMrgX
set_option maxRecDepth 100000
set_option maxHeartbeats 8000000
set_option linter.unusedVariables false
set_option linter.unusedSimpArgs false
namespace Go.Proofs.YtahlldgocpabjaaGreat
open Go Go.RowKit Copyhold Go.Proofs.Tryz
theorem Zbj :Qai prog 43 [] (.agg (stoA newS)):=by
 exact Qae func43 (
 .new fun b1=>.call (Zec)<|
 .new fun b2=>.u 1 [b2]<|
 .u 2 [b2]<|
 .idxM newF.l nodA 0 (m:=0) (show (0:Int)=((0:Nat):Int) from rfl) (by decide) fun x1 hx1=>
 have ex1:=Zn0 hx1;.u 9 [b1]<|
 .f (.agg (stoA newS)) [b1] (.agg [.sl 2 true ([[aI 1,.sl 7 true ([[aI 1,aB false,aI x1.ino,aI x1.kind,aI x1.links,aS x1.text,.sl 2 false (x1.l.map entA)]])]]),.sl 2 true ([[aI 1,aI 2]]),aI 1]) (by
  obtain rfl:=ex1
  first | exact sR | exact W2t ⟨Qyp ⟨sR,Qyp sr7,trivial⟩,Qyp sr2,sR,trivial⟩))
theorem Zm8 :Qai prog 11 [] (aB true):=by
 exact Qae func11 (
 .r 1<|.call (Zbj)<|
 .new fun b1=>.u 1 [b1]<|
 .r 1<|.new fun b2=>.u 1 [b2]<|
 .u 3 [b1,b2]<|
 .cs (args0:=[.agg (stoA newS),.sl 8 true ([[aI 6,aI 1,aI 0,aI 0,aI 0,aS ([97]),aS ([]),aS ([])]])]) (Zd0) ⟨sR,W2r _ _ _,trivial⟩<|
 .r 3<|.new fun b3=>.u 2 [b3]<|
 let J1:Jn (Nat):=⟨fun j1=>⟨[(0,aB false),(3,.ptr 3 b3 0),(4,.sl 6 false ([rA].map repA)),(5,.ptr 5 j1 0)],[(3,.box b3 25 (stoA kA)),(5,.box j1 31 (txnA tA))]⟩,fun _=>True⟩
 .cut J1 (.pick [0,2]<|.u 2 [b1,b2]<|
 .fork<|.alt (.call (Qeu newS Qlt (by decide))<|
 .fork<|.alt (.cs (args0:=[.agg [aI ((Qac newS).stamp),.sl 5 false ((Qac newS).was.l.map nodA),aI ((Qac newS).was.next),.sl 5 false ((Qac newS).now.l.map nodA),aI ((Qac newS).now.next),.sl 1 false ((Qac newS).looks.map intA)],.agg [aI 6,aI 1,aI 0,aI 0,aI 0,aS ([97]),aS ([]),aS ([])]]) (Qcq) sr2<|
 .pick [4,5,6]<|.r 3<|.fork<|.alt (.new fun b4=>.pick [8,9,10]<|.new fun b5=>.u 2 [b4,b5]<|
 .jo J1 b4 [] [] sr4 bb2)
 <| .new fun b6=>.pick [7,9,10]<|.new fun b7=>.u 2 [b7,b6]<|
 .jo J1 b7 [] [] sr4 bb2)
 <| .alt (.new fun b8=>.fork<|.alt (.cs (args0:=[.agg [aI ((Qac newS).stamp),.sl 5 false ((Qac newS).was.l.map nodA),aI ((Qac newS).was.next),.sl 5 false ((Qac newS).now.l.map nodA),aI ((Qac newS).now.next),.sl 1 false ((Qac newS).looks.map intA)],.agg [aI 6,aI 1,aI 0,aI 0,aI 0,aS ([97]),aS ([]),aS ([])]]) (Qcq) sr2<|
 .pick [4,5,6,8,9,10]<|.r 3<|.new fun b9=>.u 2 [b8,b9]<|
 .jo J1 b8 [] [] sr4 bb2)
 <| .new fun b10=>.pick [3,4,5,6,9,10]<|.cs (args0:=[.agg [aI ((Qac newS).stamp),.sl 5 false ((Qac newS).was.l.map nodA),aI ((Qac newS).was.next),.sl 5 false ((Qac newS).now.l.map nodA),aI ((Qac newS).now.next),.sl 1 false ((Qac newS).looks.map intA)],.agg [aI 6,aI 1,aI 0,aI 0,aI 0,aS ([97]),aS ([]),aS ([])]]) (Qcq) sr2<|
 .u 5 [b8,b10]<|
 .jo J1 b8 [] [] sr4 bb2)
 <| .new fun b11=>.fork<|.alt (.cs (args0:=[.agg [aI ((Qac newS).stamp),.sl 5 false ((Qac newS).was.l.map nodA),aI ((Qac newS).was.next),.sl 5 false ((Qac newS).now.l.map nodA),aI ((Qac newS).now.next),.sl 1 false ((Qac newS).looks.map intA)],.agg [aI 6,aI 1,aI 0,aI 0,aI 0,aS ([97]),aS ([]),aS ([])]]) (Qcq) sr2<|
 .pick [4,5,6,7,9,10]<|.r 3<|.new fun b12=>.u 2 [b12,b11]<|
 .jo J1 b12 [] [] sr4 bb2)
 <| .new fun b13=>.pick [3,4,5,6,9,10]<|.cs (args0:=[.agg [aI ((Qac newS).stamp),.sl 5 false ((Qac newS).was.l.map nodA),aI ((Qac newS).was.next),.sl 5 false ((Qac newS).now.l.map nodA),aI ((Qac newS).now.next),.sl 1 false ((Qac newS).looks.map intA)],.agg [aI 6,aI 1,aI 0,aI 0,aI 0,aS ([97]),aS ([]),aS ([])]]) (Qcq) sr2<|
 .u 5 [b13,b11]<|
 .jo J1 b13 [] [] sr4 bb2)
 <| .alt (.new fun b14=>.fork<|.alt (.call (Qeu newS Qlt (by decide))<|
 .fork<|.alt (.cs (args0:=[.agg [aI ((Qac newS).stamp),.sl 5 false ((Qac newS).was.l.map nodA),aI ((Qac newS).was.next),.sl 5 false ((Qac newS).now.l.map nodA),aI ((Qac newS).now.next),.sl 1 false ((Qac newS).looks.map intA)],.agg [aI 6,aI 1,aI 0,aI 0,aI 0,aS ([97]),aS ([]),aS ([])]]) (Qcq) sr2<|
 .pick [4,5,6,8,9,10]<|.r 3<|.new fun b15=>.u 2 [b14,b15]<|
 .jo J1 b14 [] [] sr4 bb2)
 <| .new fun b16=>.pick [3,4,5,6,9,10]<|.cs (args0:=[.agg [aI ((Qac newS).stamp),.sl 5 false ((Qac newS).was.l.map nodA),aI ((Qac newS).was.next),.sl 5 false ((Qac newS).now.l.map nodA),aI ((Qac newS).now.next),.sl 1 false ((Qac newS).looks.map intA)],.agg [aI 6,aI 1,aI 0,aI 0,aI 0,aS ([97]),aS ([]),aS ([])]]) (Qcq) sr2<|
 .u 5 [b14,b16]<|
 .jo J1 b14 [] [] sr4 bb2)
 <| .new fun b17=>.pick [1,3,4,5,6,9,10]<|.call (Qeu newS Qlt (by decide))<|
 .cs (args0:=[.agg [aI ((Qac newS).stamp),.sl 5 false ((Qac newS).was.l.map nodA),aI ((Qac newS).was.next),.sl 5 false ((Qac newS).now.l.map nodA),aI ((Qac newS).now.next),.sl 1 false ((Qac newS).looks.map intA)],.agg [aI 6,aI 1,aI 0,aI 0,aI 0,aS ([97]),aS ([]),aS ([])]]) (Qcq) sr2<|
 .u 5 [b14,b17]<|
 .jo J1 b14 [] [] sr4 bb2)
 <| .new fun b18=>.fork<|.alt (.call (Qeu newS Qlt (by decide))<|
 .fork<|.alt (.cs (args0:=[.agg [aI ((Qac newS).stamp),.sl 5 false ((Qac newS).was.l.map nodA),aI ((Qac newS).was.next),.sl 5 false ((Qac newS).now.l.map nodA),aI ((Qac newS).now.next),.sl 1 false ((Qac newS).looks.map intA)],.agg [aI 6,aI 1,aI 0,aI 0,aI 0,aS ([97]),aS ([]),aS ([])]]) (Qcq) sr2<|
 .pick [4,5,6,7,9,10]<|.r 3<|.new fun b19=>.u 2 [b19,b18]<|
 .jo J1 b19 [] [] sr4 bb2)
 <| .new fun b20=>.pick [3,4,5,6,9,10]<|.cs (args0:=[.agg [aI ((Qac newS).stamp),.sl 5 false ((Qac newS).was.l.map nodA),aI ((Qac newS).was.next),.sl 5 false ((Qac newS).now.l.map nodA),aI ((Qac newS).now.next),.sl 1 false ((Qac newS).looks.map intA)],.agg [aI 6,aI 1,aI 0,aI 0,aI 0,aS ([97]),aS ([]),aS ([])]]) (Qcq) sr2<|
 .u 5 [b20,b18]<|
 .jo J1 b20 [] [] sr4 bb2)
 <| .new fun b21=>.pick [1,3,4,5,6,9,10]<|.call (Qeu newS Qlt (by decide))<|
 .cs (args0:=[.agg [aI ((Qac newS).stamp),.sl 5 false ((Qac newS).was.l.map nodA),aI ((Qac newS).was.next),.sl 5 false ((Qac newS).now.l.map nodA),aI ((Qac newS).now.next),.sl 1 false ((Qac newS).looks.map intA)],.agg [aI 6,aI 1,aI 0,aI 0,aI 0,aS ([97]),aS ([]),aS ([])]]) (Qcq) sr2<|
 .u 5 [b21,b18]<|
 .jo J1 b21 [] [] sr4 bb2)
 <| fun j1 _=>(fun (b22:Nat)=>.u 2 [b3,b22]<|
 .call (Qvd)<|
 .r 3<|.new fun b23=>.u 2 [b23]<|
 .u 4 [b3]<|
 .is 34 (show (kA.stamp==2)=true from (by rw [Zj5];rfl))<|.r 2<|.lm 36 ([rA]) repA<|.r 3<|.is 39 (show ((([rA]).length:Int)==1)=true from rfl)<|.r 1<|.idxM ([rA]) repA 0 (m:=0) (show (0:Int)=((0:Nat):Int) from rfl) (by decide) fun x1 hx1=>
 have ex1:=(W0c (show some rA=some x1 from hx1));.r 5<|.is 46 (show (x1.a==2)=true from (by rw [← ex1];rfl))<|.r 4<|.is 50 (show (15==15)=true from rfl)<|.u 2 [b3,b22]<|
 .call (Qqr kA tA Zga.ok (by have:=Zga.l;omega) Zm1)<|
 .r 2<|.is 55 (show (dP (Qeg kA tA))=true from (Qau.2 Qzo))<|.u 1 [b22]<|
 .call (Qoo tA Zm1)<|
 .r 3<|.f (aB true) [] (aB (!(dP (tA.was=tA.now)))) (by exact W2p (W1z aB (by first | rfl | (rw [Qad.2 Zdh];rfl))))) j1)
theorem Qkt {f g:Fsy} {k:Nat} (hf:fewF f) (hk:k≤30) (K:KeptN f g k):midF g:=by
 have h:=K.few;rw [Zau,Zau] at h;have:=hf.1;unfold midF;omega
def Zat (f:Fsy):Prop:=f.l.length+(f.l.map wN).sum≤900
theorem Qks {f g:Fsy} {k:Nat} (hf:Zat f) (hk:k≤30) (K:KeptN f g k):midF g:=by
 have h:=K.few;rw [Zau,Zau] at h;have:=K.tree.rows.1;unfold Zat at hf;unfold midF;omega
theorem Qa7 {f:Fsy} {l:List Cal} {k:Nat} (h:k≤l.length):(plR f (l.take k)).length=k:=by rw [Qhc,W0g];omega
theorem Zbg (f:Fsy) (l:List Cal) (okf:OkF f) (T:TreeP f) (hf:fewF f) (hl:l.length≤30) (ok:∀ c∈l,OkCal c) (htx:∀ c∈l,c.text.length≤500000) (hx:f.next<1152921504606847976):Qai prog 38 [.agg (fsyA f),.sl 8 false (l.map calA)] (.tup [.agg (fsyA (plF f l)),.sl 6 false ((plR f l).map repA)]):=by
 exact Qae func38 (
 .new fun b1=>.new fun b2=>.r 1<|.r 1<|.rowNil 6 6 45 6<|.r 1<|let L1:Lp (Nat × Value):=⟨fun a1=>⟨[(1,.sl 8 false (l.map calA)),(2,.ptr 2 b1 0),(4,.ptr 4 b2 0),(7,aI (a1.1:Int)),(6,.rw 6 a1.2 ((plR f (l.take a1.1)).length))],[(2,.box b1 28 [.sl 5 false ((plF f (l.take a1.1)).l.map nodA),aI ((plF f (l.take a1.1)).next)]),(4,.box b2 28 [aN,aI 0]),(6,.row a1.2 45 6 ((plR f (l.take a1.1)).map repA))]⟩,fun a1=>l.length-a1.1,fun a1=>a1.1≤l.length⟩
 .lp L1 (0,.slice none 0 0) (show 0≤l.length from W0j _) [(7,aI 0),(6,.rw 6 (.slice none 0 0) 0)] [(2,.box b1 28 (fsyA f)),(6,.row (.slice none 0 0) 45 6 ([]))] ⟨sR,sR,sR,sO,W2p rfl,trivial⟩ ⟨⟨_,rfl,W2q rfl⟩,sB,⟨_,rfl,W2q rfl⟩,trivial⟩ fun a1 ha1=>
 (fun (k:Nat) (V:Value) (hH1:k≤l.length)=>have kp:=Qly okf T (by omega) ok hx k (by omega);have kp2:=kp.next;.r 3<|.lm 12 l calA<|.r 1<|.bd 13 ((k:Int)<(l.length:Int)) (fun p1=>.pick [0,1,2,3,4]<|.u 3 [b1]<|
 .idxM l calA k (m:=(k:Int)) rfl (by omega) fun x1 hx1=>
 have okx1:=ok x1 (W0h hx1);have txx1:=htx x1 (W0h hx1);.r 1<|.fork<|.alt (.call (Qi2 (plF f (l.take k)) x1 kp.ok okx1 kp.tree.rows (by omega) kp.tree (Qkt hf (by omega) kp) txx1)<|
 .pick [6,7,8]<|.r 3<|.fork<|.alt (.new fun b3=>.pick [10,11,12]<|.new fun b4=>.u 2 [b3,b4]<|
 .u 2 [b3,b1]<|
 .u 3 [b4]<|
 .app 72 V ((plR f (l.take k)).map repA) ([[aI ((doF (plF f (l.take k)) x1).2.e),aI ((doF (plF f (l.take k)) x1).2.a),aI ((doF (plF f (l.take k)) x1).2.b),aI ((doF (plF f (l.take k)) x1).2.n),aS ((doF (plF f (l.take k)) x1).2.text),.sl 1 false ((doF (plF f (l.take k)) x1).2.names.map txA)]]) (by have hw:=Qa7 (f:=f) (l:=l) (k:=k) (by omega);simp only [W0a,W0b,W0f];omega) (by have hw:=Qa7 (f:=f) (l:=l) (k:=k) (by omega);simp only [W0a,W0b,W0f];omega) fun V1=>
 .r 1<|.run 3 [rng .i64 ((k:Int)+1)] ⟨Qah,trivial⟩<|
 .bk L1 (k,V) ((k+1),V1) (show (k+1)≤l.length from (by show _≤_;omega)) (show l.length-(k+1)<l.length-k from (by omega)) [(7,aI ((k:Int)+1)),(6,.rw 6 V1 (((plR f (l.take k)).map repA).length+([[aI ((doF (plF f (l.take k)) x1).2.e),aI ((doF (plF f (l.take k)) x1).2.a),aI ((doF (plF f (l.take k)) x1).2.b),aI ((doF (plF f (l.take k)) x1).2.n),aS ((doF (plF f (l.take k)) x1).2.text),.sl 1 false ((doF (plF f (l.take k)) x1).2.names.map txA)]]:List (List AV)).length))] [(2,.box b1 28 [.sl 5 false ((doF (plF f (l.take k)) x1).1.l.map nodA),aI ((doF (plF f (l.take k)) x1).1.next)]),(6,.row V1 45 6 (((plR f (l.take k)).map repA)++([[aI ((doF (plF f (l.take k)) x1).2.e),aI ((doF (plF f (l.take k)) x1).2.a),aI ((doF (plF f (l.take k)) x1).2.b),aI ((doF (plF f (l.take k)) x1).2.n),aS ((doF (plF f (l.take k)) x1).2.text),.sl 1 false ((doF (plF f (l.take k)) x1).2.names.map txA)]])))] ⟨sR,sR,sR,sO,W2p (W1z (AV.rw 6 V1) (by rw [Qdh hx1];simp)),trivial⟩ ⟨⟨_,rfl,W2q (by rw [Qhd hx1])⟩,sB,⟨_,rfl,W2q (by rw [Qdh hx1];simp [repA])⟩,trivial⟩)
 <| .new fun b5=>.pick [9,11,12]<|.new fun b6=>.u 2 [b6,b5]<|
 .u 2 [b6,b1]<|
 .u 3 [b5]<|
 .app 72 V ((plR f (l.take k)).map repA) ([[aI ((doF (plF f (l.take k)) x1).2.e),aI ((doF (plF f (l.take k)) x1).2.a),aI ((doF (plF f (l.take k)) x1).2.b),aI ((doF (plF f (l.take k)) x1).2.n),aS ((doF (plF f (l.take k)) x1).2.text),.sl 1 false ((doF (plF f (l.take k)) x1).2.names.map txA)]]) (by have hw:=Qa7 (f:=f) (l:=l) (k:=k) (by omega);simp only [W0a,W0b,W0f];omega) (by have hw:=Qa7 (f:=f) (l:=l) (k:=k) (by omega);simp only [W0a,W0b,W0f];omega) fun V2=>
 .r 1<|.run 3 [rng .i64 ((k:Int)+1)] ⟨Qah,trivial⟩<|
 .bk L1 (k,V) ((k+1),V2) (show (k+1)≤l.length from (by show _≤_;omega)) (show l.length-(k+1)<l.length-k from (by omega)) [(7,aI ((k:Int)+1)),(6,.rw 6 V2 (((plR f (l.take k)).map repA).length+([[aI ((doF (plF f (l.take k)) x1).2.e),aI ((doF (plF f (l.take k)) x1).2.a),aI ((doF (plF f (l.take k)) x1).2.b),aI ((doF (plF f (l.take k)) x1).2.n),aS ((doF (plF f (l.take k)) x1).2.text),.sl 1 false ((doF (plF f (l.take k)) x1).2.names.map txA)]]:List (List AV)).length))] [(2,.box b1 28 [.sl 5 false ((doF (plF f (l.take k)) x1).1.l.map nodA),aI ((doF (plF f (l.take k)) x1).1.next)]),(6,.row V2 45 6 (((plR f (l.take k)).map repA)++([[aI ((doF (plF f (l.take k)) x1).2.e),aI ((doF (plF f (l.take k)) x1).2.a),aI ((doF (plF f (l.take k)) x1).2.b),aI ((doF (plF f (l.take k)) x1).2.n),aS ((doF (plF f (l.take k)) x1).2.text),.sl 1 false ((doF (plF f (l.take k)) x1).2.names.map txA)]])))] ⟨sR,sR,sR,sO,W2p (W1z (AV.rw 6 V2) (by rw [Qdh hx1];simp)),trivial⟩ ⟨⟨_,rfl,W2q (by rw [Qhd hx1])⟩,sB,⟨_,rfl,W2q (by rw [Qdh hx1];simp [repA])⟩,trivial⟩)
 <| .alt (.new fun b7=>.fork<|.alt (.call (Qi2 (plF f (l.take k)) x1 kp.ok okx1 kp.tree.rows (by omega) kp.tree (Qkt hf (by omega) kp) txx1)<|
 .pick [6,7,8,10,11,12]<|.r 3<|.new fun b8=>.u 2 [b7,b8]<|
 .u 2 [b7,b1]<|
 .u 3 [b8]<|
 .app 72 V ((plR f (l.take k)).map repA) ([[aI ((doF (plF f (l.take k)) x1).2.e),aI ((doF (plF f (l.take k)) x1).2.a),aI ((doF (plF f (l.take k)) x1).2.b),aI ((doF (plF f (l.take k)) x1).2.n),aS ((doF (plF f (l.take k)) x1).2.text),.sl 1 false ((doF (plF f (l.take k)) x1).2.names.map txA)]]) (by have hw:=Qa7 (f:=f) (l:=l) (k:=k) (by omega);simp only [W0a,W0b,W0f];omega) (by have hw:=Qa7 (f:=f) (l:=l) (k:=k) (by omega);simp only [W0a,W0b,W0f];omega) fun V3=>
 .r 1<|.run 3 [rng .i64 ((k:Int)+1)] ⟨Qah,trivial⟩<|
 .bk L1 (k,V) ((k+1),V3) (show (k+1)≤l.length from (by show _≤_;omega)) (show l.length-(k+1)<l.length-k from (by omega)) [(7,aI ((k:Int)+1)),(6,.rw 6 V3 (((plR f (l.take k)).map repA).length+([[aI ((doF (plF f (l.take k)) x1).2.e),aI ((doF (plF f (l.take k)) x1).2.a),aI ((doF (plF f (l.take k)) x1).2.b),aI ((doF (plF f (l.take k)) x1).2.n),aS ((doF (plF f (l.take k)) x1).2.text),.sl 1 false ((doF (plF f (l.take k)) x1).2.names.map txA)]]:List (List AV)).length))] [(2,.box b1 28 [.sl 5 false ((doF (plF f (l.take k)) x1).1.l.map nodA),aI ((doF (plF f (l.take k)) x1).1.next)]),(6,.row V3 45 6 (((plR f (l.take k)).map repA)++([[aI ((doF (plF f (l.take k)) x1).2.e),aI ((doF (plF f (l.take k)) x1).2.a),aI ((doF (plF f (l.take k)) x1).2.b),aI ((doF (plF f (l.take k)) x1).2.n),aS ((doF (plF f (l.take k)) x1).2.text),.sl 1 false ((doF (plF f (l.take k)) x1).2.names.map txA)]])))] ⟨sR,sR,sR,sO,W2p (W1z (AV.rw 6 V3) (by rw [Qdh hx1];simp)),trivial⟩ ⟨⟨_,rfl,W2q (by rw [Qhd hx1])⟩,sB,⟨_,rfl,W2q (by rw [Qdh hx1];simp [repA])⟩,trivial⟩)
 <| .new fun b9=>.pick [5,6,7,8,11,12]<|.call (Qi2 (plF f (l.take k)) x1 kp.ok okx1 kp.tree.rows (by omega) kp.tree (Qkt hf (by omega) kp) txx1)<|
 .u 5 [b7,b9]<|
 .u 2 [b7,b1]<|
 .u 3 [b9]<|
 .app 72 V ((plR f (l.take k)).map repA) ([[aI ((doF (plF f (l.take k)) x1).2.e),aI ((doF (plF f (l.take k)) x1).2.a),aI ((doF (plF f (l.take k)) x1).2.b),aI ((doF (plF f (l.take k)) x1).2.n),aS ((doF (plF f (l.take k)) x1).2.text),.sl 1 false ((doF (plF f (l.take k)) x1).2.names.map txA)]]) (by have hw:=Qa7 (f:=f) (l:=l) (k:=k) (by omega);simp only [W0a,W0b,W0f];omega) (by have hw:=Qa7 (f:=f) (l:=l) (k:=k) (by omega);simp only [W0a,W0b,W0f];omega) fun V4=>
 .r 1<|.run 3 [rng .i64 ((k:Int)+1)] ⟨Qah,trivial⟩<|
 .bk L1 (k,V) ((k+1),V4) (show (k+1)≤l.length from (by show _≤_;omega)) (show l.length-(k+1)<l.length-k from (by omega)) [(7,aI ((k:Int)+1)),(6,.rw 6 V4 (((plR f (l.take k)).map repA).length+([[aI ((doF (plF f (l.take k)) x1).2.e),aI ((doF (plF f (l.take k)) x1).2.a),aI ((doF (plF f (l.take k)) x1).2.b),aI ((doF (plF f (l.take k)) x1).2.n),aS ((doF (plF f (l.take k)) x1).2.text),.sl 1 false ((doF (plF f (l.take k)) x1).2.names.map txA)]]:List (List AV)).length))] [(2,.box b1 28 [.sl 5 false ((doF (plF f (l.take k)) x1).1.l.map nodA),aI ((doF (plF f (l.take k)) x1).1.next)]),(6,.row V4 45 6 (((plR f (l.take k)).map repA)++([[aI ((doF (plF f (l.take k)) x1).2.e),aI ((doF (plF f (l.take k)) x1).2.a),aI ((doF (plF f (l.take k)) x1).2.b),aI ((doF (plF f (l.take k)) x1).2.n),aS ((doF (plF f (l.take k)) x1).2.text),.sl 1 false ((doF (plF f (l.take k)) x1).2.names.map txA)]])))] ⟨sR,sR,sR,sO,W2p (W1z (AV.rw 6 V4) (by rw [Qdh hx1];simp)),trivial⟩ ⟨⟨_,rfl,W2q (by rw [Qhd hx1])⟩,sB,⟨_,rfl,W2q (by rw [Qdh hx1];simp [repA])⟩,trivial⟩)
 <| .new fun b10=>.fork<|.alt (.call (Qi2 (plF f (l.take k)) x1 kp.ok okx1 kp.tree.rows (by omega) kp.tree (Qkt hf (by omega) kp) txx1)<|
 .pick [6,7,8,9,11,12]<|.r 3<|.new fun b11=>.u 2 [b11,b10]<|
 .u 2 [b11,b1]<|
 .u 3 [b10]<|
 .app 72 V ((plR f (l.take k)).map repA) ([[aI ((doF (plF f (l.take k)) x1).2.e),aI ((doF (plF f (l.take k)) x1).2.a),aI ((doF (plF f (l.take k)) x1).2.b),aI ((doF (plF f (l.take k)) x1).2.n),aS ((doF (plF f (l.take k)) x1).2.text),.sl 1 false ((doF (plF f (l.take k)) x1).2.names.map txA)]]) (by have hw:=Qa7 (f:=f) (l:=l) (k:=k) (by omega);simp only [W0a,W0b,W0f];omega) (by have hw:=Qa7 (f:=f) (l:=l) (k:=k) (by omega);simp only [W0a,W0b,W0f];omega) fun V5=>
 .r 1<|.run 3 [rng .i64 ((k:Int)+1)] ⟨Qah,trivial⟩<|
 .bk L1 (k,V) ((k+1),V5) (show (k+1)≤l.length from (by show _≤_;omega)) (show l.length-(k+1)<l.length-k from (by omega)) [(7,aI ((k:Int)+1)),(6,.rw 6 V5 (((plR f (l.take k)).map repA).length+([[aI ((doF (plF f (l.take k)) x1).2.e),aI ((doF (plF f (l.take k)) x1).2.a),aI ((doF (plF f (l.take k)) x1).2.b),aI ((doF (plF f (l.take k)) x1).2.n),aS ((doF (plF f (l.take k)) x1).2.text),.sl 1 false ((doF (plF f (l.take k)) x1).2.names.map txA)]]:List (List AV)).length))] [(2,.box b1 28 [.sl 5 false ((doF (plF f (l.take k)) x1).1.l.map nodA),aI ((doF (plF f (l.take k)) x1).1.next)]),(6,.row V5 45 6 (((plR f (l.take k)).map repA)++([[aI ((doF (plF f (l.take k)) x1).2.e),aI ((doF (plF f (l.take k)) x1).2.a),aI ((doF (plF f (l.take k)) x1).2.b),aI ((doF (plF f (l.take k)) x1).2.n),aS ((doF (plF f (l.take k)) x1).2.text),.sl 1 false ((doF (plF f (l.take k)) x1).2.names.map txA)]])))] ⟨sR,sR,sR,sO,W2p (W1z (AV.rw 6 V5) (by rw [Qdh hx1];simp)),trivial⟩ ⟨⟨_,rfl,W2q (by rw [Qhd hx1])⟩,sB,⟨_,rfl,W2q (by rw [Qdh hx1];simp [repA])⟩,trivial⟩)
 <| .new fun b12=>.pick [5,6,7,8,11,12]<|.call (Qi2 (plF f (l.take k)) x1 kp.ok okx1 kp.tree.rows (by omega) kp.tree (Qkt hf (by omega) kp) txx1)<|
 .u 5 [b12,b10]<|
 .u 2 [b12,b1]<|
 .u 3 [b10]<|
 .app 72 V ((plR f (l.take k)).map repA) ([[aI ((doF (plF f (l.take k)) x1).2.e),aI ((doF (plF f (l.take k)) x1).2.a),aI ((doF (plF f (l.take k)) x1).2.b),aI ((doF (plF f (l.take k)) x1).2.n),aS ((doF (plF f (l.take k)) x1).2.text),.sl 1 false ((doF (plF f (l.take k)) x1).2.names.map txA)]]) (by have hw:=Qa7 (f:=f) (l:=l) (k:=k) (by omega);simp only [W0a,W0b,W0f];omega) (by have hw:=Qa7 (f:=f) (l:=l) (k:=k) (by omega);simp only [W0a,W0b,W0f];omega) fun V6=>
 .r 1<|.run 3 [rng .i64 ((k:Int)+1)] ⟨Qah,trivial⟩<|
 .bk L1 (k,V) ((k+1),V6) (show (k+1)≤l.length from (by show _≤_;omega)) (show l.length-(k+1)<l.length-k from (by omega)) [(7,aI ((k:Int)+1)),(6,.rw 6 V6 (((plR f (l.take k)).map repA).length+([[aI ((doF (plF f (l.take k)) x1).2.e),aI ((doF (plF f (l.take k)) x1).2.a),aI ((doF (plF f (l.take k)) x1).2.b),aI ((doF (plF f (l.take k)) x1).2.n),aS ((doF (plF f (l.take k)) x1).2.text),.sl 1 false ((doF (plF f (l.take k)) x1).2.names.map txA)]]:List (List AV)).length))] [(2,.box b1 28 [.sl 5 false ((doF (plF f (l.take k)) x1).1.l.map nodA),aI ((doF (plF f (l.take k)) x1).1.next)]),(6,.row V6 45 6 (((plR f (l.take k)).map repA)++([[aI ((doF (plF f (l.take k)) x1).2.e),aI ((doF (plF f (l.take k)) x1).2.a),aI ((doF (plF f (l.take k)) x1).2.b),aI ((doF (plF f (l.take k)) x1).2.n),aS ((doF (plF f (l.take k)) x1).2.text),.sl 1 false ((doF (plF f (l.take k)) x1).2.names.map txA)]])))] ⟨sR,sR,sR,sO,W2p (W1z (AV.rw 6 V6) (by rw [Qdh hx1];simp)),trivial⟩ ⟨⟨_,rfl,W2q (by rw [Qhd hx1])⟩,sB,⟨_,rfl,W2q (by rw [Qdh hx1];simp [repA])⟩,trivial⟩)
 <| fun p1=>.u 4 [b1,b2]<|
 .frz 6 [4,5] [4] [V=V,(plR f (l.take k)).length=((plR f (l.take k)).map repA).length] ⟨rfl,(by first | rfl | (simp;done) | (simp;omega)),trivial⟩<|
 .f (.tup [.agg (fsyA (plF f l)),.sl 6 false ((plR f l).map repA)]) [b2] (.tup [.agg [.sl 5 false ((plF f (l.take k)).l.map nodA),aI ((plF f (l.take k)).next)],.sl 6 false ((plR f (l.take k)).map repA)]) (by
  rw [show l.take k=l from Qat (by omega)]
  first | exact sR | exact W2s ⟨sR,W2r _ _ _,trivial⟩)) a1.1 a1.2 ha1)
structure Pls where
 f:Fsy
 l:List Cal
 g:Fsy
 next:Int
structure OkPls (a:Pls):Prop where
 f:OkF a.f
 len:a.l.length≤8796093022207
 l:∀ c∈a.l,OkC0 c
 g:OkF a.g
 next:I64 a.next
theorem Qgg:∀ (l:List Cal) {t:Txn},Asc t.looks→Asc (Qab t l).looks
 | [],_,h=>h
 | c :: r,t,_=>Qgg r (Zdl t c)
theorem Qwi (t:Txn) (l:List Cal) (okt:OkT t) (T:TreeP t.now) (hf:Zat t.now) (hl:l.length≤30) (ok:∀ c∈l,OkCal c) (htx:∀ c∈l,c.text.length≤500000) (hx:t.now.next<1152921504606847976) (hk0:t.looks.length≤1000) (ha:Asc t.looks):Qai prog 41 [.agg (txnA t),.sl 8 false (l.map calA)] (.tup [.agg (txnA (Qab t l)),.sl 6 false ((plR t.now l).map repA)]):=by
 exact Qae func41 (
 .new fun b1=>.new fun b2=>.r 1<|.r 1<|.rowNil 6 6 45 6<|.r 1<|let L1:Lp (Nat × Value):=⟨fun a1=>⟨[(1,.sl 8 false (l.map calA)),(2,.ptr 2 b1 0),(4,.ptr 4 b2 0),(7,aI (a1.1:Int)),(6,.rw 6 a1.2 ((plR t.now (l.take a1.1)).length))],[(2,.box b1 31 [aI ((Qab t (l.take a1.1)).stamp),.sl 5 false ((Qab t (l.take a1.1)).was.l.map nodA),aI ((Qab t (l.take a1.1)).was.next),.sl 5 false ((Qab t (l.take a1.1)).now.l.map nodA),aI ((Qab t (l.take a1.1)).now.next),.sl 1 false ((Qab t (l.take a1.1)).looks.map intA)]),(4,.box b2 31 [aI 0,aN,aI 0,aN,aI 0,aN]),(6,.row a1.2 45 6 ((plR t.now (l.take a1.1)).map repA))]⟩,fun a1=>l.length-a1.1,fun a1=>a1.1≤l.length⟩
 .lp L1 (0,.slice none 0 0) (show 0≤l.length from W0j _) [(7,aI 0),(6,.rw 6 (.slice none 0 0) 0)] [(2,.box b1 31 (txnA t)),(6,.row (.slice none 0 0) 45 6 ([]))] ⟨sR,sR,sR,sO,W2p rfl,trivial⟩ ⟨⟨_,rfl,W2q rfl⟩,sB,⟨_,rfl,W2q rfl⟩,trivial⟩ fun a1 ha1=>
 (fun (k:Nat) (V:Value) (hH1:k≤l.length)=>have kt:=Qgv okt T (by omega) ok hx hk0 (k:=k) (by omega);have kp:=kt.now;have kp2:=kp.next;have kl:=kt.len;.r 3<|.lm 12 l calA<|.r 1<|.bd 13 ((k:Int)<(l.length:Int)) (fun p1=>.pick [0,1,2,3,4]<|.u 3 [b1]<|
 .idxM l calA k (m:=(k:Int)) rfl (by omega) fun x1 hx1=>
 have okx1:=ok x1 (W0h hx1);have txx1:=htx x1 (W0h hx1);.r 1<|.fork<|.alt (.call (Qgi (Qab t (l.take k)) x1 kp.ok okx1 kp.tree.rows (by omega) (by omega) kp.tree (Qks hf (by omega) kp) txx1 (Qgg _ ha))<|
 .pick [6,7,8]<|.r 3<|.fork<|.alt (.new fun b3=>.pick [10,11,12]<|.new fun b4=>.u 2 [b3,b4]<|
 .u 2 [b3,b1]<|
 .u 3 [b4]<|
 .app 72 V ((plR t.now (l.take k)).map repA) ([[aI ((doF (Qab t (l.take k)).now x1).2.e),aI ((doF (Qab t (l.take k)).now x1).2.a),aI ((doF (Qab t (l.take k)).now x1).2.b),aI ((doF (Qab t (l.take k)).now x1).2.n),aS ((doF (Qab t (l.take k)).now x1).2.text),.sl 1 false ((doF (Qab t (l.take k)).now x1).2.names.map txA)]]) (by have hw:=Qa7 (f:=t.now) (l:=l) (k:=k) (by omega);simp only [W0a,W0b,W0f];omega) (by have hw:=Qa7 (f:=t.now) (l:=l) (k:=k) (by omega);simp only [W0a,W0b,W0f];omega) fun V1=>
 .r 1<|.run 3 [rng .i64 ((k:Int)+1)] ⟨Qah,trivial⟩<|
 .bk L1 (k,V) ((k+1),V1) (show (k+1)≤l.length from (by show _≤_;omega)) (show l.length-(k+1)<l.length-k from (by omega)) [(7,aI ((k:Int)+1)),(6,.rw 6 V1 (((plR t.now (l.take k)).map repA).length+([[aI ((doF (Qab t (l.take k)).now x1).2.e),aI ((doF (Qab t (l.take k)).now x1).2.a),aI ((doF (Qab t (l.take k)).now x1).2.b),aI ((doF (Qab t (l.take k)).now x1).2.n),aS ((doF (Qab t (l.take k)).now x1).2.text),.sl 1 false ((doF (Qab t (l.take k)).now x1).2.names.map txA)]]:List (List AV)).length))] [(2,.box b1 31 [aI ((Qbb (Qab t (l.take k)) x1).stamp),.sl 5 false ((Qbb (Qab t (l.take k)) x1).was.l.map nodA),aI ((Qbb (Qab t (l.take k)) x1).was.next),.sl 5 false ((Qbb (Qab t (l.take k)) x1).now.l.map nodA),aI ((Qbb (Qab t (l.take k)) x1).now.next),.sl 1 false ((Qbb (Qab t (l.take k)) x1).looks.map intA)]),(6,.row V1 45 6 (((plR t.now (l.take k)).map repA)++([[aI ((doF (Qab t (l.take k)).now x1).2.e),aI ((doF (Qab t (l.take k)).now x1).2.a),aI ((doF (Qab t (l.take k)).now x1).2.b),aI ((doF (Qab t (l.take k)).now x1).2.n),aS ((doF (Qab t (l.take k)).now x1).2.text),.sl 1 false ((doF (Qab t (l.take k)).now x1).2.names.map txA)]])))] ⟨sR,sR,sR,sO,W2p (W1z (AV.rw 6 V1) (by rw [Qbp hx1];simp)),trivial⟩ ⟨⟨_,rfl,W2q (by rw [Qci hx1])⟩,sB,⟨_,rfl,W2q (by rw [Qbp hx1];simp [repA])⟩,trivial⟩)
 <| .new fun b5=>.pick [9,11,12]<|.new fun b6=>.u 2 [b6,b5]<|
 .u 2 [b6,b1]<|
 .u 3 [b5]<|
 .app 72 V ((plR t.now (l.take k)).map repA) ([[aI ((doF (Qab t (l.take k)).now x1).2.e),aI ((doF (Qab t (l.take k)).now x1).2.a),aI ((doF (Qab t (l.take k)).now x1).2.b),aI ((doF (Qab t (l.take k)).now x1).2.n),aS ((doF (Qab t (l.take k)).now x1).2.text),.sl 1 false ((doF (Qab t (l.take k)).now x1).2.names.map txA)]]) (by have hw:=Qa7 (f:=t.now) (l:=l) (k:=k) (by omega);simp only [W0a,W0b,W0f];omega) (by have hw:=Qa7 (f:=t.now) (l:=l) (k:=k) (by omega);simp only [W0a,W0b,W0f];omega) fun V2=>
 .r 1<|.run 3 [rng .i64 ((k:Int)+1)] ⟨Qah,trivial⟩<|
 .bk L1 (k,V) ((k+1),V2) (show (k+1)≤l.length from (by show _≤_;omega)) (show l.length-(k+1)<l.length-k from (by omega)) [(7,aI ((k:Int)+1)),(6,.rw 6 V2 (((plR t.now (l.take k)).map repA).length+([[aI ((doF (Qab t (l.take k)).now x1).2.e),aI ((doF (Qab t (l.take k)).now x1).2.a),aI ((doF (Qab t (l.take k)).now x1).2.b),aI ((doF (Qab t (l.take k)).now x1).2.n),aS ((doF (Qab t (l.take k)).now x1).2.text),.sl 1 false ((doF (Qab t (l.take k)).now x1).2.names.map txA)]]:List (List AV)).length))] [(2,.box b1 31 [aI ((Qbb (Qab t (l.take k)) x1).stamp),.sl 5 false ((Qbb (Qab t (l.take k)) x1).was.l.map nodA),aI ((Qbb (Qab t (l.take k)) x1).was.next),.sl 5 false ((Qbb (Qab t (l.take k)) x1).now.l.map nodA),aI ((Qbb (Qab t (l.take k)) x1).now.next),.sl 1 false ((Qbb (Qab t (l.take k)) x1).looks.map intA)]),(6,.row V2 45 6 (((plR t.now (l.take k)).map repA)++([[aI ((doF (Qab t (l.take k)).now x1).2.e),aI ((doF (Qab t (l.take k)).now x1).2.a),aI ((doF (Qab t (l.take k)).now x1).2.b),aI ((doF (Qab t (l.take k)).now x1).2.n),aS ((doF (Qab t (l.take k)).now x1).2.text),.sl 1 false ((doF (Qab t (l.take k)).now x1).2.names.map txA)]])))] ⟨sR,sR,sR,sO,W2p (W1z (AV.rw 6 V2) (by rw [Qbp hx1];simp)),trivial⟩ ⟨⟨_,rfl,W2q (by rw [Qci hx1])⟩,sB,⟨_,rfl,W2q (by rw [Qbp hx1];simp [repA])⟩,trivial⟩)
 <| .alt (.new fun b7=>.fork<|.alt (.call (Qgi (Qab t (l.take k)) x1 kp.ok okx1 kp.tree.rows (by omega) (by omega) kp.tree (Qks hf (by omega) kp) txx1 (Qgg _ ha))<|
 .pick [6,7,8,10,11,12]<|.r 3<|.new fun b8=>.u 2 [b7,b8]<|
 .u 2 [b7,b1]<|
 .u 3 [b8]<|
 .app 72 V ((plR t.now (l.take k)).map repA) ([[aI ((doF (Qab t (l.take k)).now x1).2.e),aI ((doF (Qab t (l.take k)).now x1).2.a),aI ((doF (Qab t (l.take k)).now x1).2.b),aI ((doF (Qab t (l.take k)).now x1).2.n),aS ((doF (Qab t (l.take k)).now x1).2.text),.sl 1 false ((doF (Qab t (l.take k)).now x1).2.names.map txA)]]) (by have hw:=Qa7 (f:=t.now) (l:=l) (k:=k) (by omega);simp only [W0a,W0b,W0f];omega) (by have hw:=Qa7 (f:=t.now) (l:=l) (k:=k) (by omega);simp only [W0a,W0b,W0f];omega) fun V3=>
 .r 1<|.run 3 [rng .i64 ((k:Int)+1)] ⟨Qah,trivial⟩<|
 .bk L1 (k,V) ((k+1),V3) (show (k+1)≤l.length from (by show _≤_;omega)) (show l.length-(k+1)<l.length-k from (by omega)) [(7,aI ((k:Int)+1)),(6,.rw 6 V3 (((plR t.now (l.take k)).map repA).length+([[aI ((doF (Qab t (l.take k)).now x1).2.e),aI ((doF (Qab t (l.take k)).now x1).2.a),aI ((doF (Qab t (l.take k)).now x1).2.b),aI ((doF (Qab t (l.take k)).now x1).2.n),aS ((doF (Qab t (l.take k)).now x1).2.text),.sl 1 false ((doF (Qab t (l.take k)).now x1).2.names.map txA)]]:List (List AV)).length))] [(2,.box b1 31 [aI ((Qbb (Qab t (l.take k)) x1).stamp),.sl 5 false ((Qbb (Qab t (l.take k)) x1).was.l.map nodA),aI ((Qbb (Qab t (l.take k)) x1).was.next),.sl 5 false ((Qbb (Qab t (l.take k)) x1).now.l.map nodA),aI ((Qbb (Qab t (l.take k)) x1).now.next),.sl 1 false ((Qbb (Qab t (l.take k)) x1).looks.map intA)]),(6,.row V3 45 6 (((plR t.now (l.take k)).map repA)++([[aI ((doF (Qab t (l.take k)).now x1).2.e),aI ((doF (Qab t (l.take k)).now x1).2.a),aI ((doF (Qab t (l.take k)).now x1).2.b),aI ((doF (Qab t (l.take k)).now x1).2.n),aS ((doF (Qab t (l.take k)).now x1).2.text),.sl 1 false ((doF (Qab t (l.take k)).now x1).2.names.map txA)]])))] ⟨sR,sR,sR,sO,W2p (W1z (AV.rw 6 V3) (by rw [Qbp hx1];simp)),trivial⟩ ⟨⟨_,rfl,W2q (by rw [Qci hx1])⟩,sB,⟨_,rfl,W2q (by rw [Qbp hx1];simp [repA])⟩,trivial⟩)
 <| .new fun b9=>.pick [5,6,7,8,11,12]<|.call (Qgi (Qab t (l.take k)) x1 kp.ok okx1 kp.tree.rows (by omega) (by omega) kp.tree (Qks hf (by omega) kp) txx1 (Qgg _ ha))<|
 .u 5 [b7,b9]<|
 .u 2 [b7,b1]<|
 .u 3 [b9]<|
 .app 72 V ((plR t.now (l.take k)).map repA) ([[aI ((doF (Qab t (l.take k)).now x1).2.e),aI ((doF (Qab t (l.take k)).now x1).2.a),aI ((doF (Qab t (l.take k)).now x1).2.b),aI ((doF (Qab t (l.take k)).now x1).2.n),aS ((doF (Qab t (l.take k)).now x1).2.text),.sl 1 false ((doF (Qab t (l.take k)).now x1).2.names.map txA)]]) (by have hw:=Qa7 (f:=t.now) (l:=l) (k:=k) (by omega);simp only [W0a,W0b,W0f];omega) (by have hw:=Qa7 (f:=t.now) (l:=l) (k:=k) (by omega);simp only [W0a,W0b,W0f];omega) fun V4=>
 .r 1<|.run 3 [rng .i64 ((k:Int)+1)] ⟨Qah,trivial⟩<|
 .bk L1 (k,V) ((k+1),V4) (show (k+1)≤l.length from (by show _≤_;omega)) (show l.length-(k+1)<l.length-k from (by omega)) [(7,aI ((k:Int)+1)),(6,.rw 6 V4 (((plR t.now (l.take k)).map repA).length+([[aI ((doF (Qab t (l.take k)).now x1).2.e),aI ((doF (Qab t (l.take k)).now x1).2.a),aI ((doF (Qab t (l.take k)).now x1).2.b),aI ((doF (Qab t (l.take k)).now x1).2.n),aS ((doF (Qab t (l.take k)).now x1).2.text),.sl 1 false ((doF (Qab t (l.take k)).now x1).2.names.map txA)]]:List (List AV)).length))] [(2,.box b1 31 [aI ((Qbb (Qab t (l.take k)) x1).stamp),.sl 5 false ((Qbb (Qab t (l.take k)) x1).was.l.map nodA),aI ((Qbb (Qab t (l.take k)) x1).was.next),.sl 5 false ((Qbb (Qab t (l.take k)) x1).now.l.map nodA),aI ((Qbb (Qab t (l.take k)) x1).now.next),.sl 1 false ((Qbb (Qab t (l.take k)) x1).looks.map intA)]),(6,.row V4 45 6 (((plR t.now (l.take k)).map repA)++([[aI ((doF (Qab t (l.take k)).now x1).2.e),aI ((doF (Qab t (l.take k)).now x1).2.a),aI ((doF (Qab t (l.take k)).now x1).2.b),aI ((doF (Qab t (l.take k)).now x1).2.n),aS ((doF (Qab t (l.take k)).now x1).2.text),.sl 1 false ((doF (Qab t (l.take k)).now x1).2.names.map txA)]])))] ⟨sR,sR,sR,sO,W2p (W1z (AV.rw 6 V4) (by rw [Qbp hx1];simp)),trivial⟩ ⟨⟨_,rfl,W2q (by rw [Qci hx1])⟩,sB,⟨_,rfl,W2q (by rw [Qbp hx1];simp [repA])⟩,trivial⟩)
 <| .new fun b10=>.fork<|.alt (.call (Qgi (Qab t (l.take k)) x1 kp.ok okx1 kp.tree.rows (by omega) (by omega) kp.tree (Qks hf (by omega) kp) txx1 (Qgg _ ha))<|
 .pick [6,7,8,9,11,12]<|.r 3<|.new fun b11=>.u 2 [b11,b10]<|
 .u 2 [b11,b1]<|
 .u 3 [b10]<|
 .app 72 V ((plR t.now (l.take k)).map repA) ([[aI ((doF (Qab t (l.take k)).now x1).2.e),aI ((doF (Qab t (l.take k)).now x1).2.a),aI ((doF (Qab t (l.take k)).now x1).2.b),aI ((doF (Qab t (l.take k)).now x1).2.n),aS ((doF (Qab t (l.take k)).now x1).2.text),.sl 1 false ((doF (Qab t (l.take k)).now x1).2.names.map txA)]]) (by have hw:=Qa7 (f:=t.now) (l:=l) (k:=k) (by omega);simp only [W0a,W0b,W0f];omega) (by have hw:=Qa7 (f:=t.now) (l:=l) (k:=k) (by omega);simp only [W0a,W0b,W0f];omega) fun V5=>
 .r 1<|.run 3 [rng .i64 ((k:Int)+1)] ⟨Qah,trivial⟩<|
 .bk L1 (k,V) ((k+1),V5) (show (k+1)≤l.length from (by show _≤_;omega)) (show l.length-(k+1)<l.length-k from (by omega)) [(7,aI ((k:Int)+1)),(6,.rw 6 V5 (((plR t.now (l.take k)).map repA).length+([[aI ((doF (Qab t (l.take k)).now x1).2.e),aI ((doF (Qab t (l.take k)).now x1).2.a),aI ((doF (Qab t (l.take k)).now x1).2.b),aI ((doF (Qab t (l.take k)).now x1).2.n),aS ((doF (Qab t (l.take k)).now x1).2.text),.sl 1 false ((doF (Qab t (l.take k)).now x1).2.names.map txA)]]:List (List AV)).length))] [(2,.box b1 31 [aI ((Qbb (Qab t (l.take k)) x1).stamp),.sl 5 false ((Qbb (Qab t (l.take k)) x1).was.l.map nodA),aI ((Qbb (Qab t (l.take k)) x1).was.next),.sl 5 false ((Qbb (Qab t (l.take k)) x1).now.l.map nodA),aI ((Qbb (Qab t (l.take k)) x1).now.next),.sl 1 false ((Qbb (Qab t (l.take k)) x1).looks.map intA)]),(6,.row V5 45 6 (((plR t.now (l.take k)).map repA)++([[aI ((doF (Qab t (l.take k)).now x1).2.e),aI ((doF (Qab t (l.take k)).now x1).2.a),aI ((doF (Qab t (l.take k)).now x1).2.b),aI ((doF (Qab t (l.take k)).now x1).2.n),aS ((doF (Qab t (l.take k)).now x1).2.text),.sl 1 false ((doF (Qab t (l.take k)).now x1).2.names.map txA)]])))] ⟨sR,sR,sR,sO,W2p (W1z (AV.rw 6 V5) (by rw [Qbp hx1];simp)),trivial⟩ ⟨⟨_,rfl,W2q (by rw [Qci hx1])⟩,sB,⟨_,rfl,W2q (by rw [Qbp hx1];simp [repA])⟩,trivial⟩)
 <| .new fun b12=>.pick [5,6,7,8,11,12]<|.call (Qgi (Qab t (l.take k)) x1 kp.ok okx1 kp.tree.rows (by omega) (by omega) kp.tree (Qks hf (by omega) kp) txx1 (Qgg _ ha))<|
 .u 5 [b12,b10]<|
 .u 2 [b12,b1]<|
 .u 3 [b10]<|
 .app 72 V ((plR t.now (l.take k)).map repA) ([[aI ((doF (Qab t (l.take k)).now x1).2.e),aI ((doF (Qab t (l.take k)).now x1).2.a),aI ((doF (Qab t (l.take k)).now x1).2.b),aI ((doF (Qab t (l.take k)).now x1).2.n),aS ((doF (Qab t (l.take k)).now x1).2.text),.sl 1 false ((doF (Qab t (l.take k)).now x1).2.names.map txA)]]) (by have hw:=Qa7 (f:=t.now) (l:=l) (k:=k) (by omega);simp only [W0a,W0b,W0f];omega) (by have hw:=Qa7 (f:=t.now) (l:=l) (k:=k) (by omega);simp only [W0a,W0b,W0f];omega) fun V6=>
 .r 1<|.run 3 [rng .i64 ((k:Int)+1)] ⟨Qah,trivial⟩<|
 .bk L1 (k,V) ((k+1),V6) (show (k+1)≤l.length from (by show _≤_;omega)) (show l.length-(k+1)<l.length-k from (by omega)) [(7,aI ((k:Int)+1)),(6,.rw 6 V6 (((plR t.now (l.take k)).map repA).length+([[aI ((doF (Qab t (l.take k)).now x1).2.e),aI ((doF (Qab t (l.take k)).now x1).2.a),aI ((doF (Qab t (l.take k)).now x1).2.b),aI ((doF (Qab t (l.take k)).now x1).2.n),aS ((doF (Qab t (l.take k)).now x1).2.text),.sl 1 false ((doF (Qab t (l.take k)).now x1).2.names.map txA)]]:List (List AV)).length))] [(2,.box b1 31 [aI ((Qbb (Qab t (l.take k)) x1).stamp),.sl 5 false ((Qbb (Qab t (l.take k)) x1).was.l.map nodA),aI ((Qbb (Qab t (l.take k)) x1).was.next),.sl 5 false ((Qbb (Qab t (l.take k)) x1).now.l.map nodA),aI ((Qbb (Qab t (l.take k)) x1).now.next),.sl 1 false ((Qbb (Qab t (l.take k)) x1).looks.map intA)]),(6,.row V6 45 6 (((plR t.now (l.take k)).map repA)++([[aI ((doF (Qab t (l.take k)).now x1).2.e),aI ((doF (Qab t (l.take k)).now x1).2.a),aI ((doF (Qab t (l.take k)).now x1).2.b),aI ((doF (Qab t (l.take k)).now x1).2.n),aS ((doF (Qab t (l.take k)).now x1).2.text),.sl 1 false ((doF (Qab t (l.take k)).now x1).2.names.map txA)]])))] ⟨sR,sR,sR,sO,W2p (W1z (AV.rw 6 V6) (by rw [Qbp hx1];simp)),trivial⟩ ⟨⟨_,rfl,W2q (by rw [Qci hx1])⟩,sB,⟨_,rfl,W2q (by rw [Qbp hx1];simp [repA])⟩,trivial⟩)
 <| fun p1=>.u 4 [b1,b2]<|
 .frz 6 [4,5] [4] [V=V,(plR t.now (l.take k)).length=((plR t.now (l.take k)).map repA).length] ⟨rfl,(by first | rfl | (simp;done) | (simp;omega)),trivial⟩<|
 .f (.tup [.agg (txnA (Qab t l)),.sl 6 false ((plR t.now l).map repA)]) [b2] (.tup [.agg [aI ((Qab t (l.take k)).stamp),.sl 5 false ((Qab t (l.take k)).was.l.map nodA),aI ((Qab t (l.take k)).was.next),.sl 5 false ((Qab t (l.take k)).now.l.map nodA),aI ((Qab t (l.take k)).now.next),.sl 1 false ((Qab t (l.take k)).looks.map intA)],.sl 6 false ((plR t.now (l.take k)).map repA)]) (by
  rw [show l.take k=l from Qat (by omega)]
  first | exact sR | exact W2s ⟨sR,W2r _ _ _,trivial⟩)) a1.1 a1.2 ha1)
theorem Qtr {s:Sto} {g:Fsy} (hp:Qb7 s) (hw:Qan (Qa3 s s.stamp)) (hg:Qan g) (hx:(Qa3 s s.stamp).next≤g.next):Qa3 (Qcy s (Qbl (Qa3 s s.stamp) g) g.next) (s.stamp+1)=g:=by
 have h1:=Qfo (Qa3 s s.stamp) g;have hm:=Qfp hw hg;have hn:1≤g.next:=hg.2.1;refine Ql0 (Qj6 (Qgw hp h1 hm hn) _) (Qaf hg) (fun i=>?_) ?_
 ·rw [Qtc hp h1 hm hn];rcases Qhn (f:=Qa3 s s.stamp) hg i with ⟨hc,he⟩ | ⟨c,hc,he,_⟩
  ·rw [hc];exact he
  ·rw [hc];exact he
 ·show Qf8 _ _=_;rw [Qud hp];have:Qf8 s s.stamp≤g.next:=hx;unfold maxD
  split<;>omega
theorem Quy {s:Sto} {l:List Cal} {B:Nat} (hfit:Fit s B) (hB:B≤90000) (hp:Qb7 s) (T:TreeP (Qac s).now) (g3:s.stamp<4611686018427387904) (g6:(Qa3 s s.stamp).next<1152921504606847976) (hl:l.length≤30) (ok:∀ c∈l,OkCal c) :
  ∀ t,t=Qab (Qac s) l→KeptT (Qac s) t l.length∧TreeP (Qac s).now∧¬ Qeg s t∧(Qa0 s t).2=0∧Qa3 (Qa0 s t).1 (Qa0 s t).1.stamp=t.now∧((Qa0 s t).1=s↔t.was=t.now)∧Qb7 (Qa0 s t).1∧Fit (Qa0 s t).1 (B+513)∧Qan t.was:=by
 rintro t rfl;have oks:=hfit.ok;have K:=Qgv (Qhq oks) T (l:=l) (by omega) ok (by show (Qa3 s s.stamp).next<_;omega) (by show ([]:List Int).length≤_;simp) (k:=l.length) (W0m _);rw [W13] at K;have hwas:(Qab (Qac s) l).was=Qa3 s s.stamp:=K.was;have hw:Qan (Qab (Qac s) l).was:=by rw [hwas];exact T.rows
 have hst:(Qab (Qac s) l).stamp=s.stamp:=Qg6 l _;have hnc:¬ Qeg s (Qab (Qac s) l):=by
  rintro ⟨x,hx,_⟩;rw [hst,Qpy hp] at hx;cases hx
 refine ⟨K,T,hnc,?_⟩;by_cases hi:(Qab (Qac s) l).was=(Qab (Qac s) l).now
 ·rw [Qdf (Qau.2 hi)];exact ⟨rfl,hwas.symm.trans hi,⟨fun _=>hi,fun _=>rfl⟩,hp,⟨hfit.ok,W1a hfit.l (by omega),W1a hfit.n (by omega),fun c hc=>W1a (hfit.r c hc) (by omega)⟩,hw⟩
 ·rw [Qc2 (Qad.2 hi) (Qad.2 hnc)];have hn:=K.now.tree.rows;have hlen:=Qfq (Qab (Qac s) l).was (Qab (Qac s) l).now;have:=hw.1;have:=hn.1;have F:=hfit.inst (Ql5 K.ok.was K.ok.now) (next:=(Qab (Qac s) l).now.next) K.ok.now.1 (by omega) (by omega);refine ⟨rfl,?_,⟨fun h=>?_,fun h=>absurd h hi⟩,Qgw hp (Qfo _ _) (Qfp hw hn) hn.2.1,⟨F.ok,W1a F.l (by omega),W1a F.n (by omega),fun c hc=>W1a (F.r c hc) (by omega)⟩,hw⟩
  ·show Qa3 (Qcy s _ _) (s.stamp+1)=_;rw [hwas];exact Qtr hp T.rows hn (by have:=K.now.next.1;exact this)
  ·have:=W1z Sto.stamp h;have e:(Qcy s (Qbl (Qab (Qac s) l).was (Qab (Qac s) l).now) (Qab (Qac s) l).now.next).stamp=s.stamp+1:=rfl;simp only [e] at this;omega
theorem Qos {s:Sto} {l:List Cal} (oks:OkS s) (hg:Qmq s) (hl:l.length≤30) (ok:∀ c∈l,OkCal c) :
  ∀ t,t=Qab (Qac s) l→KeptT (Qac s) t l.length∧TreeP (Qac s).now∧¬ Qeg s t∧(Qa0 s t).2=0∧Qa3 (Qa0 s t).1 (Qa0 s t).1.stamp=t.now∧((Qa0 s t).1=s↔t.was=t.now)∧Qb7 (Qa0 s t).1∧Fit (Qa0 s t).1 713∧Qan t.was:=by
 obtain ⟨g1,hp,g3,g4,g5,g6⟩:=hg;exact Quy (Qxr oks g1) (by decide) hp (Qjv g4 g5) (by omega) (by omega) hl ok
theorem Qt1 (s:Sto) (t:Txn) (ms:MidS s) (hp:Qb7 s) (okt:OkT t) (hw:Qan t.was) (hn:Qan t.now):Qai prog 31 [.agg (stoA s),.agg (txnA t)] (.tup [.agg (stoA (Qa0 s t).1),aI (Qa0 s t).2]):=by
 exact Qae func31 (
 .new fun b1=>.new fun b2=>.new fun b3=>.r 1<|.u 4 [b2,b2]<|
 .call (Qqh t.was t.now okt.was okt.now)<|
 .r 1<|.r 1<|.br 13 (dP (t.was=t.now)) (fun q1=>have p1:=booT q1;.u 3 [b1,b3]<|
 .f (.tup [.agg (stoA (Qa0 s t).1),aI (Qa0 s t).2]) [b3] (.tup [.agg (stoA s),aI 0]) (by
  rw [Qdf q1];exact sR))
 <| fun q1=>have p1:=booF q1;.u 2 [b1,b2]<|
 .call (Qwx s t ms.ok (by have:=ms.l;omega) okt)<|
 .r 1<|.r 1<|.br 18 (dP (Qeg s t)) (fun q2=>have p2:=booT q2;.u 3 [b1,b3]<|
 .f (.tup [.agg (stoA (Qa0 s t).1),aI (Qa0 s t).2]) [b3] (.tup [.agg (stoA s),aI 15]) (by
  rw [Qd2 q1 q2];exact sR))
 <| fun q2=>have p2:=booF q2;.ord [0,1,2,3,4,6,7,8,5,9,10,11]<|.u 8 [b1,b2,b2,b2]<|
 .call (Qrf t.was t.now okt.was okt.now (by have:=hw.1;omega) (by have:=hn.1;omega))<|
 .call (Qra s (Qbl t.was t.now) t.now.next ms.ok hp ms.l (by have:=Qfq t.was t.now;have:=hw.1;have:=hn.1;omega) ms.nexts ms.rows ms.stamp)<|
 .u 2 [b3]<|
 .f (.tup [.agg (stoA (Qa0 s t).1),aI (Qa0 s t).2]) [b3] (.tup [.agg [.sl 2 false ((Qcy s (Qbl t.was t.now) t.now.next).l.map chnA),.sl 2 false ((Qcy s (Qbl t.was t.now) t.now.next).nexts.map cntA),aI ((Qcy s (Qbl t.was t.now) t.now.next).stamp)],aI 0]) (by
  rw [Qc2 q1 q2];exact sR))
theorem Zd5 (s:Sto) (l:List Cal) (ms:MidS s) (hp:Qb7 s) (T:TreeP (Qac s).now) (hf:Zat (Qac s).now) (hl:l.length≤30) (ok:∀ c∈l,OkCal c) (htx:∀ c∈l,c.text.length≤500000) (hx:(Qac s).now.next<1152921504606847976):Qai prog 33 [.agg (stoA s),.sl 8 false (l.map calA)] (.tup [.agg (stoA (runD s l)),.sl 6 false ((plR (Qac s).now l).map repA)]):=by
 have kt:=Qgv (Qhq ms.ok) T (by omega) ok hx (by show ([]:List Int).length≤_;simp) (W0m l.length);rw [W13] at kt;exact Qae func33 (let R:AV:=.tup [.agg (stoA (runD s l)),.sl 6 false ((plR (Qac s).now l).map repA)];
 .new fun b1=>.new fun b2=>.r 1<|.u 1 [b1]<|
 .call (Qwz s ms.ok (by have:=ms.l;omega))<|
 .r 1<|.call (Qwi (Qac s) l (Qhq ms.ok) T hf hl ok htx hx (by show ([]:List Int).length≤_;simp) List.Pairwise.nil)<|
 .r 3<|.new fun b3=>.u 2 [b3]<|
 .u 2 [b1,b3]<|
 .call (Qt1 s (Qab (Qac s) l) ms hp kt.ok (by rw [kt.was];exact T.rows) kt.now.tree.rows)<|
 .r 3<|.new fun b4=>.u 2 [b4]<|
 .u 4 [b4,b2]<|
 .fi R [b2])
theorem Qlm:∀ (l:List Cal) {t:Txn} {x:Int},x∈t.looks→x∈(Qab t l).looks
 | [],_,_,h=>h
 | c :: r,t,x,h=>Qlm r (t:=Qbb t c) (Qey.2 (List.mem_append_left _ h))
theorem Qps {t:Txn} {c:Cal} {x:Int} (h:x∈Qbn t.now c):x∈(Qbb t c).looks:=Qey.2 (List.mem_append_right _ h)
theorem Qmn {f:Fsy} {i:Int} (hp:Qan f) (h:¬ 1≤i):atF f i=none:=by
 cases hn:atF f i with
 | none=>rfl
 | some n=>
  have:=Qbh hp hn;have h1:=this.1.1;have h2:=this.2.2;exact absurd (by omega) h
theorem Zds {s:Sto} {st:Int} (hle:st≤s.stamp) (h:Qbu s st=[]):Qa3 s st=Qa3 s s.stamp:=by
 unfold Qbu at h
 split at h
 ·cases h
 ·rename_i hc;have hL:(Qbg s st s.l.length).length=0:=by
   have:¬ 1≤(Qbg s st s.l.length).length:=fun e=>hc (.inl e);omega
  have h1:∀ c∈s.l,Qe3 st c=false:=fun c hm=>by
   cases hb:Qe3 st c with
   | false=>rfl
   | true=>
    have:c.ino∈Qbg s st s.l.length:=by
     unfold Qbg;rw [W13];exact W1j.2 ⟨c,W1m.2 ⟨hm,hb⟩,rfl⟩
    rw [W0l hL] at this;cases this
  have h2:∀ c∈s.nexts,c.stamp≤st:=fun c hm=>by
   have:¬ Quf s st=true:=fun e=>hc (.inr e);by_cases hg:c.stamp>st
   ·exact absurd (by unfold Quf;exact List.any_eq_true.2 ⟨c,hm,by simpa using hg⟩) this
   ·omega
  have e1:s.l.filterMap (Qbz st)=s.l.filterMap (Qbz s.stamp):=Qjs fun c hm=>Qna hle (h1 c hm);have e2:Qf8 s st=Qf8 s s.stamp:=(Qrr h2).trans (Qrr (fun c hm=>by have:=h2 c hm;omega)).symm;unfold Qa3;rw [e1,e2]
theorem Za6 {s:Sto} {st:Int} (hle:st≤s.stamp) (h:¬ Qa3 s st=Qa3 s s.stamp):(0:Int)∈Qbu s st:=by
 by_cases e:Qbu s st=[]
 ·exact absurd (Zds hle e) h
 ·unfold Qbu at e ⊢
  split
  ·simp
  ·rename_i hc;rw [W1x hc] at e;exact absurd rfl e
theorem Zdt {s:Sto} {st i:Int} (hp:Qb7 s) (hle:st≤s.stamp) (hg:Qan (Qa3 s s.stamp)) (h:¬ atF (Qa3 s st) i=atF (Qa3 s s.stamp) i):i∈Qbu s st:=by
 rcases Qhn (f:=Qa3 s st) hg i with ⟨_,he⟩ | ⟨c,hc,_,_⟩
 ·exact absurd he h
 ·obtain ⟨h1,h2⟩:=Qo3 hc;have:=Qqz hp hle c h2;rw [h1] at this;exact this
theorem Zdy {k:Sto} {f g:Fsy} (hp:Qb7 k) (hf:Qan f) (hg:Qan g) (i:Int):atF (Qa3 (Qcy k (Qbl f g) g.next) (k.stamp+1)) i=if atF f i=atF g i then atF (Qa3 k k.stamp) i else atF g i:=by
 rw [Qtc hp (Qfo f g) (Qfp hf hg) hg.2.1];rcases Qhn (f:=f) hg i with ⟨hc,he⟩ | ⟨c,hc,he,hne⟩
 ·rw [hc,W1y he]
 ·rw [hc,W1x hne];exact he
end Go.Proofs.YtahlldgocpabjaaGreat
