import Derived.Test.YtahlldgocpabjaaGreatMrgAQ
import Derived.Test.YtahlldgocpabjaaGreatMrgAM
import Derived.Test.YtahlldgocpabjaaGreatMrgAH
import Derived.Test.YtahlldgocpabjaaGreatMrgAL
import Derived.Test.YtahlldgocpabjaaGreatMrgAE
import Derived.Test.YtahlldgocpabjaaGreatMrgAA
import Derived.Test.YtahlldgocpabjaaGreatMrgJ
set_option maxRecDepth 100000
set_option maxHeartbeats 8000000
set_option linter.unusedVariables false
set_option linter.unusedSimpArgs false
namespace Go.Proofs.YtahlldgocpabjaaGreat
open Go Go.RowKit Copyhold Go.Proofs.Tryz
theorem Qpz {f g:Fsy} (okf:OkF f) (okg:OkF g):∀ c∈Qbj f g,OkCh c:=fun c hc=>by
 obtain ⟨i,hi,h⟩:=List.mem_filterMap.1 hc;have hI:I64 i:=by
  rcases Qib.1 hi with h | h
  ·obtain ⟨n,hn,rfl⟩:=List.mem_map.1 h;exact (okf.2.2 n hn).1
  ·obtain ⟨n,hn,rfl⟩:=List.mem_map.1 h;exact (okg.2.2 n hn).1
 unfold chgD at h
 split at h
 ·obtain rfl:=Option.some.inj h;exact ⟨hI,Qk7⟩
 ·rename_i hb
  split at h
  ·obtain rfl:=Option.some.inj h;exact ⟨hI,okg.2.2 _ (Qdm (Qf1 (by simpa using hb)))⟩
  ·cases h
theorem Zd9 {s:Sto} {B:Nat} (h:Fit s B) (hB:B≤1000) (hs:s.stamp<1152921504606846977):MidS s:=⟨h.ok,by have:=h.l;omega,by have:=h.n;omega,fun c hc=>by have:=h.r c hc;omega,hs⟩
theorem Qxz:Fit newS 1:=⟨Qk9,by decide,by decide,fun c h=>by obtain rfl:=List.mem_singleton.1 h;decide⟩
theorem Zij:MidS newS:=Zd9 Qxz (by decide) (by decide)
theorem Zd1:Qb5 newS 1=newF:=by rfl
theorem Qdt:Qag newS=⟨1,newF,newF,[]⟩:=by unfold Qag;rw [show newS.stamp=1 from rfl,Zd1]
noncomputable def tA:Txn:=Qb1 (Qag newS) cA
theorem Qsk:tA=⟨1,newF,fA,Qdg ([]++Qbh newF cA)⟩:=by unfold tA;rw [Qdt];unfold Qb1;rw [doA1]
theorem Zlj:(0:Int)∈tA.looks:=by
 rw [Qsk];show (0:Int)∈Qdg _;rw [Qhl];unfold Qbh;rw [if_pos (.inl rfl)];simp
theorem Zb1:¬ tA.was=tA.now:=by
 rw [Qsk];intro h;have:=congrArg Fsy.next h;rw [show (⟨1,newF,fA,Qdg ([]++Qbh newF cA)⟩:Txn).now=fA from rfl,Qi0.2.2.1] at this;exact absurd this (by decide)
theorem tA_len:tA.looks.length≤7:=Qsm (Qag newS) cA
theorem Zlk:OkT tA:=by
 have h:=tA_len;refine ⟨?_,?_,?_,by omega⟩<;>rw [Qsk]
 ·exact Qyc (by decide) (by decide)
 ·exact Qqw
 ·exact Qi0.2.1
noncomputable def kA:Sto:=Qc1 newS (Qbj newF fA) 3
theorem kA_run:runD newS [cA]=kA:=by
 unfold runD;rw [show Qad (Qag newS) [cA]=tA from rfl,Qfe (Qac.2 Zb1) (Qac.2 ?_)]
 ·rw [Qsk];show Qc1 newS (Qbj newF fA) fA.next=kA;rw [Qi0.2.2.1];rfl
 ·rintro ⟨x,hx,_⟩;rw [Qsk] at hx;rw [show (⟨1,newF,fA,Qdg ([]++Qbh newF cA)⟩:Txn).stamp=newS.stamp from rfl,Qo8 Zai] at hx;cases hx
theorem Ziu:kA.stamp=2:=rfl
theorem Ziv:kA.nexts=[⟨1,2⟩,⟨2,3⟩]:=by
 show Qcz newS 3=_;rw [Qni (s:=newS) (next:=3) (c:=⟨1,2⟩) rfl (by decide)];rfl
theorem Qyb:Qft kA tA:=by
 refine ⟨0,?_,Zlj⟩;rw [show tA.stamp=1 from by rw [Qsk]];unfold Qbz;rw [if_pos (.inr (by unfold Zal;rw [Ziv];rfl))];simp
theorem Zev:Fit kA 513:=by
 have hl:(Qbj newF fA).length≤257:=by
  have:=Qha newF fA;have:=Qi0.1.1;have:=Zik;omega
 have h:=Qxz.inst (Qpz Qqw Qi0.2.1) (next:=3) (Qyc (by decide) (by decide)) (by decide) (by omega);have h2:kA.stamp=2:=rfl;exact ⟨h.ok,by have:=h.l;show kA.l.length≤_;unfold kA;omega,by have:=h.n;unfold kA;omega,fun c hc=>by have:=h.r c hc;omega⟩
theorem kA_mid:MidS kA:=Zd9 Zev (by decide) (by decide)
def rA:Rep:=⟨0,2,0,0,[],[]⟩
theorem rA_eq:plR (Qag newS).now [cA]=[rA]:=by
 rw [Qdt];show [(doF newF cA).2]=_;rw [doA1];rfl
theorem fA_was:tA.was=newF:=by rw [Qsk]
theorem fA_now:tA.now=fA:=by rw [Qsk]
theorem Qcn:Qah prog 18 [.agg (txnA (Qag newS)),.agg (calA cA)] (.tup [.agg (txnA tA),.agg (repA rA)]):=by
 have h:=Qmu (Qag newS) cA (by rw [Qdt];exact Qqw) cA_ok (by rw [Qdt];exact Qfa) (by rw [Qdt];decide) (by show ([]:List Int).length≤_;simp);rw [show (doF (Qag newS).now cA).2=rA from by rw [Qdt,doA1];rfl] at h;exact h
theorem Zd2:TreeP (Qag newS).now:=by
 rw [Qdt];exact Qzz.1 ⟨Qfa,⟨Qja,rfl,rfl,rfl,rfl⟩,fun p hp=>(by cases hp),fun i x hx=>(by cases i<;>cases hx)⟩
theorem Zch:Qah prog 32 [.agg (stoA newS),.sl 8 false ([cA].map calA)] (.tup [.agg (stoA kA),.sl 6 false ([rA].map repA)]):=by
 have h:=Zhw newS [cA] Zij Zd2 (by decide) (fun c h=>by obtain rfl:=List.mem_singleton.1 h;exact cA_ok) (by rw [Qdt];decide);rw [kA_run,rA_eq] at h;exact h
theorem Znh:Qbu kA tA=(kA,15):=Qh6 (Qac.2 Zb1) (Qax.2 Qyb)
theorem Qt8:Qah prog 30 [.agg (stoA kA),.agg (txnA tA)] (.tup [.agg (stoA kA),aI 15]):=by
 have h:=Qoc kA tA kA_mid Zlk (by rw [fA_was];exact Qfa) (by rw [fA_now];exact Qi0.1);rw [Znh] at h;exact h
theorem Qzx :Qah prog 43 [] (.agg (stoA newS)):=by
 exact Qab func43 (
 .new fun b1=>.call (Zct)<|
 .new fun b2=>.u 1 [b2]<|
 .u 2 [b2]<|
 .idxM newF.l nodA 0 (m:=0) (show (0:Int)=((0:Nat):Int) from rfl) (by decide) fun x1 hx1=>
 have ex1:=Zmm hx1;.u 9 [b1]<|
 .f (.agg (stoA newS)) [b1] (.agg [.sl 2 true ([[aI 1,.sl 7 true ([[aI 1,aB false,aI x1.ino,aI x1.kind,aI x1.links,aS x1.text,.sl 2 false (x1.l.map entA)]])]]),.sl 2 true ([[aI 1,aI 2]]),aI 1]) (by
  obtain rfl:=ex1
  first | exact sR | exact Sub.aggs ⟨Qxe ⟨sR,Qxe sr7,trivial⟩,Qxe sr2,sR,trivial⟩))
theorem Zls :Qah prog 11 [] (aB true):=by
 exact Qab func11 (
 .r 1<|.call (Qzx)<|
 .new fun b1=>.u 1 [b1]<|
 .r 1<|.new fun b2=>.u 1 [b2]<|
 .u 3 [b1,b2]<|
 .cs (args0:=[.agg (stoA newS),.sl 8 true ([[aI 6,aI 1,aI 0,aI 0,aI 0,aS ([97]),aS ([]),aS ([])]])]) (Zch) ⟨sR,Sub.loose _ _ _,trivial⟩<|
 .r 3<|.new fun b3=>.u 2 [b3]<|
 let J1:Jn (Nat):=⟨fun j1=>⟨[(0,aB false),(3,.ptr 3 b3 0),(4,.sl 6 false ([rA].map repA)),(5,.ptr 5 j1 0)],[(3,.box b3 25 (stoA kA)),(5,.box j1 31 (txnA tA))]⟩,fun _=>True⟩
 .cut J1 (.pick [0,2]<|.u 2 [b1,b2]<|
 .fork<|.alt (.call (Qej newS Qk9 (by decide))<|
 .fork<|.alt (.cs (args0:=[.agg [aI ((Qag newS).stamp),.sl 5 false ((Qag newS).was.l.map nodA),aI ((Qag newS).was.next),.sl 5 false ((Qag newS).now.l.map nodA),aI ((Qag newS).now.next),.sl 1 false ((Qag newS).looks.map intA)],.agg [aI 6,aI 1,aI 0,aI 0,aI 0,aS ([97]),aS ([]),aS ([])]]) (Qcn) sr2<|
 .pick [4,5,6]<|.r 3<|.fork<|.alt (.new fun b4=>.pick [8,9,10]<|.new fun b5=>.u 2 [b4,b5]<|
 .jo J1 b4 [] [] sr4 bb2)
 <| .new fun b6=>.pick [7,9,10]<|.new fun b7=>.u 2 [b7,b6]<|
 .jo J1 b7 [] [] sr4 bb2)
 <| .alt (.new fun b8=>.fork<|.alt (.cs (args0:=[.agg [aI ((Qag newS).stamp),.sl 5 false ((Qag newS).was.l.map nodA),aI ((Qag newS).was.next),.sl 5 false ((Qag newS).now.l.map nodA),aI ((Qag newS).now.next),.sl 1 false ((Qag newS).looks.map intA)],.agg [aI 6,aI 1,aI 0,aI 0,aI 0,aS ([97]),aS ([]),aS ([])]]) (Qcn) sr2<|
 .pick [4,5,6,8,9,10]<|.r 3<|.new fun b9=>.u 2 [b8,b9]<|
 .jo J1 b8 [] [] sr4 bb2)
 <| .new fun b10=>.pick [3,4,5,6,9,10]<|.cs (args0:=[.agg [aI ((Qag newS).stamp),.sl 5 false ((Qag newS).was.l.map nodA),aI ((Qag newS).was.next),.sl 5 false ((Qag newS).now.l.map nodA),aI ((Qag newS).now.next),.sl 1 false ((Qag newS).looks.map intA)],.agg [aI 6,aI 1,aI 0,aI 0,aI 0,aS ([97]),aS ([]),aS ([])]]) (Qcn) sr2<|
 .u 5 [b8,b10]<|
 .jo J1 b8 [] [] sr4 bb2)
 <| .new fun b11=>.fork<|.alt (.cs (args0:=[.agg [aI ((Qag newS).stamp),.sl 5 false ((Qag newS).was.l.map nodA),aI ((Qag newS).was.next),.sl 5 false ((Qag newS).now.l.map nodA),aI ((Qag newS).now.next),.sl 1 false ((Qag newS).looks.map intA)],.agg [aI 6,aI 1,aI 0,aI 0,aI 0,aS ([97]),aS ([]),aS ([])]]) (Qcn) sr2<|
 .pick [4,5,6,7,9,10]<|.r 3<|.new fun b12=>.u 2 [b12,b11]<|
 .jo J1 b12 [] [] sr4 bb2)
 <| .new fun b13=>.pick [3,4,5,6,9,10]<|.cs (args0:=[.agg [aI ((Qag newS).stamp),.sl 5 false ((Qag newS).was.l.map nodA),aI ((Qag newS).was.next),.sl 5 false ((Qag newS).now.l.map nodA),aI ((Qag newS).now.next),.sl 1 false ((Qag newS).looks.map intA)],.agg [aI 6,aI 1,aI 0,aI 0,aI 0,aS ([97]),aS ([]),aS ([])]]) (Qcn) sr2<|
 .u 5 [b13,b11]<|
 .jo J1 b13 [] [] sr4 bb2)
 <| .alt (.new fun b14=>.fork<|.alt (.call (Qej newS Qk9 (by decide))<|
 .fork<|.alt (.cs (args0:=[.agg [aI ((Qag newS).stamp),.sl 5 false ((Qag newS).was.l.map nodA),aI ((Qag newS).was.next),.sl 5 false ((Qag newS).now.l.map nodA),aI ((Qag newS).now.next),.sl 1 false ((Qag newS).looks.map intA)],.agg [aI 6,aI 1,aI 0,aI 0,aI 0,aS ([97]),aS ([]),aS ([])]]) (Qcn) sr2<|
 .pick [4,5,6,8,9,10]<|.r 3<|.new fun b15=>.u 2 [b14,b15]<|
 .jo J1 b14 [] [] sr4 bb2)
 <| .new fun b16=>.pick [3,4,5,6,9,10]<|.cs (args0:=[.agg [aI ((Qag newS).stamp),.sl 5 false ((Qag newS).was.l.map nodA),aI ((Qag newS).was.next),.sl 5 false ((Qag newS).now.l.map nodA),aI ((Qag newS).now.next),.sl 1 false ((Qag newS).looks.map intA)],.agg [aI 6,aI 1,aI 0,aI 0,aI 0,aS ([97]),aS ([]),aS ([])]]) (Qcn) sr2<|
 .u 5 [b14,b16]<|
 .jo J1 b14 [] [] sr4 bb2)
 <| .new fun b17=>.pick [1,3,4,5,6,9,10]<|.call (Qej newS Qk9 (by decide))<|
 .cs (args0:=[.agg [aI ((Qag newS).stamp),.sl 5 false ((Qag newS).was.l.map nodA),aI ((Qag newS).was.next),.sl 5 false ((Qag newS).now.l.map nodA),aI ((Qag newS).now.next),.sl 1 false ((Qag newS).looks.map intA)],.agg [aI 6,aI 1,aI 0,aI 0,aI 0,aS ([97]),aS ([]),aS ([])]]) (Qcn) sr2<|
 .u 5 [b14,b17]<|
 .jo J1 b14 [] [] sr4 bb2)
 <| .new fun b18=>.fork<|.alt (.call (Qej newS Qk9 (by decide))<|
 .fork<|.alt (.cs (args0:=[.agg [aI ((Qag newS).stamp),.sl 5 false ((Qag newS).was.l.map nodA),aI ((Qag newS).was.next),.sl 5 false ((Qag newS).now.l.map nodA),aI ((Qag newS).now.next),.sl 1 false ((Qag newS).looks.map intA)],.agg [aI 6,aI 1,aI 0,aI 0,aI 0,aS ([97]),aS ([]),aS ([])]]) (Qcn) sr2<|
 .pick [4,5,6,7,9,10]<|.r 3<|.new fun b19=>.u 2 [b19,b18]<|
 .jo J1 b19 [] [] sr4 bb2)
 <| .new fun b20=>.pick [3,4,5,6,9,10]<|.cs (args0:=[.agg [aI ((Qag newS).stamp),.sl 5 false ((Qag newS).was.l.map nodA),aI ((Qag newS).was.next),.sl 5 false ((Qag newS).now.l.map nodA),aI ((Qag newS).now.next),.sl 1 false ((Qag newS).looks.map intA)],.agg [aI 6,aI 1,aI 0,aI 0,aI 0,aS ([97]),aS ([]),aS ([])]]) (Qcn) sr2<|
 .u 5 [b20,b18]<|
 .jo J1 b20 [] [] sr4 bb2)
 <| .new fun b21=>.pick [1,3,4,5,6,9,10]<|.call (Qej newS Qk9 (by decide))<|
 .cs (args0:=[.agg [aI ((Qag newS).stamp),.sl 5 false ((Qag newS).was.l.map nodA),aI ((Qag newS).was.next),.sl 5 false ((Qag newS).now.l.map nodA),aI ((Qag newS).now.next),.sl 1 false ((Qag newS).looks.map intA)],.agg [aI 6,aI 1,aI 0,aI 0,aI 0,aS ([97]),aS ([]),aS ([])]]) (Qcn) sr2<|
 .u 5 [b21,b18]<|
 .jo J1 b21 [] [] sr4 bb2)
 <| fun j1 _=>(fun (b22:Nat)=>.u 2 [b3,b22]<|
 .call (Qt8)<|
 .r 3<|.new fun b23=>.u 2 [b23]<|
 .u 4 [b3]<|
 .is 34 (show (kA.stamp==2)=true from (by rw [Ziu];rfl))<|.r 2<|.lm 36 ([rA]) repA<|.r 3<|.is 39 (show ((([rA]).length:Int)==1)=true from rfl)<|.r 1<|.idxM ([rA]) repA 0 (m:=0) (show (0:Int)=((0:Nat):Int) from rfl) (by decide) fun x1 hx1=>
 have ex1:=(Option.some.inj (show some rA=some x1 from hx1));.r 5<|.is 46 (show (x1.a==2)=true from (by rw [← ex1];rfl))<|.r 4<|.is 50 (show (15==15)=true from rfl)<|.u 2 [b3,b22]<|
 .call (Qpy kA tA Zev.ok (by have:=Zev.l;omega) Zlk)<|
 .r 2<|.is 55 (show (dP (Qft kA tA))=true from (Qax.2 Qyb))<|.u 1 [b22]<|
 .call (Qtm tA Zlk)<|
 .r 3<|.f (aB true) [] (aB (!(dP (tA.was=tA.now)))) (by exact Sub.of_eq (congrArg aB (by first | rfl | (rw [Qac.2 Zb1];rfl))))) j1)
theorem Qd1 {f g:Fsy} {k:Nat} (hf:fewF f) (hk:k≤30) (K:KeptN f g k):midF g:=by
 have h:=K.few;rw [wF_eq,wF_eq] at h;have:=hf.1;unfold midF;omega
theorem Qa7 {f:Fsy} {l:List Cal} {k:Nat} (h:k≤l.length):(plR f (l.take k)).length=k:=by rw [Qhv,List.length_take];omega
theorem Qzu (f:Fsy) (l:List Cal) (okf:OkF f) (T:TreeP f) (hf:fewF f) (hl:l.length≤30) (ok:∀ c∈l,OkCal c) (htx:∀ c∈l,c.text.length≤500000) (hx:f.next<1152921504606847976):Qah prog 38 [.agg (fsyA f),.sl 8 false (l.map calA)] (.tup [.agg (fsyA (plF f l)),.sl 6 false ((plR f l).map repA)]):=by
 exact Qab func38 (
 .new fun b1=>.new fun b2=>.r 1<|.r 1<|.rowNil 6 6 45 6<|.r 1<|let L1:Lp (Nat × Value):=⟨fun a1=>⟨[(1,.sl 8 false (l.map calA)),(2,.ptr 2 b1 0),(4,.ptr 4 b2 0),(7,aI (a1.1:Int)),(6,.rw 6 a1.2 ((plR f (l.take a1.1)).length))],[(2,.box b1 28 [.sl 5 false ((plF f (l.take a1.1)).l.map nodA),aI ((plF f (l.take a1.1)).next)]),(4,.box b2 28 [aN,aI 0]),(6,.row a1.2 45 6 ((plR f (l.take a1.1)).map repA))]⟩,fun a1=>l.length-a1.1,fun a1=>a1.1≤l.length⟩
 .lp L1 (0,.slice none 0 0) (show 0≤l.length from Nat.zero_le _) [(7,aI 0),(6,.rw 6 (.slice none 0 0) 0)] [(2,.box b1 28 (fsyA f)),(6,.row (.slice none 0 0) 45 6 ([]))] ⟨sR,sR,sR,sO,Sub.of_eq rfl,trivial⟩ ⟨⟨_,rfl,SubB.of_eq rfl⟩,sB,⟨_,rfl,SubB.of_eq rfl⟩,trivial⟩ fun a1 ha1=>
 (fun (k:Nat) (V:Value) (hH1:k≤l.length)=>have kp:=Qwc okf T (by omega) ok hx k (by omega);have kp2:=kp.next;.r 3<|.lm 12 l calA<|.r 1<|.bd 13 ((k:Int)<(l.length:Int)) (fun p1=>.pick [0,1,2,3,4]<|.u 3 [b1]<|
 .idxM l calA k (m:=(k:Int)) rfl (by omega) fun x1 hx1=>
 have okx1:=ok x1 (List.mem_of_getElem? hx1);have txx1:=htx x1 (List.mem_of_getElem? hx1);.r 1<|.fork<|.alt (.call (Qgz (plF f (l.take k)) x1 kp.ok okx1 kp.tree.rows (by omega) kp.tree (Qd1 hf (by omega) kp) txx1)<|
 .pick [6,7,8]<|.r 3<|.fork<|.alt (.new fun b3=>.pick [10,11,12]<|.new fun b4=>.u 2 [b3,b4]<|
 .u 2 [b3,b1]<|
 .u 3 [b4]<|
 .app 72 V ((plR f (l.take k)).map repA) ([[aI ((doF (plF f (l.take k)) x1).2.e),aI ((doF (plF f (l.take k)) x1).2.a),aI ((doF (plF f (l.take k)) x1).2.b),aI ((doF (plF f (l.take k)) x1).2.n),aS ((doF (plF f (l.take k)) x1).2.text),.sl 1 false ((doF (plF f (l.take k)) x1).2.names.map txA)]]) (by have hw:=Qa7 (f:=f) (l:=l) (k:=k) (by omega);simp only [List.length_map,List.length_cons,List.length_nil];omega) (by have hw:=Qa7 (f:=f) (l:=l) (k:=k) (by omega);simp only [List.length_map,List.length_cons,List.length_nil];omega) fun V1=>
 .r 1<|.run 3 [rng .i64 ((k:Int)+1)] ⟨Qaj (by omega) (by omega),trivial⟩<|
 .bk L1 (k,V) ((k+1),V1) (show (k+1)≤l.length from (by show _≤_;omega)) (show l.length-(k+1)<l.length-k from (by omega)) [(7,aI ((k:Int)+1)),(6,.rw 6 V1 (((plR f (l.take k)).map repA).length+([[aI ((doF (plF f (l.take k)) x1).2.e),aI ((doF (plF f (l.take k)) x1).2.a),aI ((doF (plF f (l.take k)) x1).2.b),aI ((doF (plF f (l.take k)) x1).2.n),aS ((doF (plF f (l.take k)) x1).2.text),.sl 1 false ((doF (plF f (l.take k)) x1).2.names.map txA)]]:List (List AV)).length))] [(2,.box b1 28 [.sl 5 false ((doF (plF f (l.take k)) x1).1.l.map nodA),aI ((doF (plF f (l.take k)) x1).1.next)]),(6,.row V1 45 6 (((plR f (l.take k)).map repA)++([[aI ((doF (plF f (l.take k)) x1).2.e),aI ((doF (plF f (l.take k)) x1).2.a),aI ((doF (plF f (l.take k)) x1).2.b),aI ((doF (plF f (l.take k)) x1).2.n),aS ((doF (plF f (l.take k)) x1).2.text),.sl 1 false ((doF (plF f (l.take k)) x1).2.names.map txA)]])))] ⟨sR,sR,sR,sO,Sub.of_eq (congrArg (AV.rw 6 V1) (by rw [Qdc hx1];simp)),trivial⟩ ⟨⟨_,rfl,SubB.of_eq (by rw [Qg0 hx1])⟩,sB,⟨_,rfl,SubB.of_eq (by rw [Qdc hx1];simp [repA])⟩,trivial⟩)
 <| .new fun b5=>.pick [9,11,12]<|.new fun b6=>.u 2 [b6,b5]<|
 .u 2 [b6,b1]<|
 .u 3 [b5]<|
 .app 72 V ((plR f (l.take k)).map repA) ([[aI ((doF (plF f (l.take k)) x1).2.e),aI ((doF (plF f (l.take k)) x1).2.a),aI ((doF (plF f (l.take k)) x1).2.b),aI ((doF (plF f (l.take k)) x1).2.n),aS ((doF (plF f (l.take k)) x1).2.text),.sl 1 false ((doF (plF f (l.take k)) x1).2.names.map txA)]]) (by have hw:=Qa7 (f:=f) (l:=l) (k:=k) (by omega);simp only [List.length_map,List.length_cons,List.length_nil];omega) (by have hw:=Qa7 (f:=f) (l:=l) (k:=k) (by omega);simp only [List.length_map,List.length_cons,List.length_nil];omega) fun V2=>
 .r 1<|.run 3 [rng .i64 ((k:Int)+1)] ⟨Qaj (by omega) (by omega),trivial⟩<|
 .bk L1 (k,V) ((k+1),V2) (show (k+1)≤l.length from (by show _≤_;omega)) (show l.length-(k+1)<l.length-k from (by omega)) [(7,aI ((k:Int)+1)),(6,.rw 6 V2 (((plR f (l.take k)).map repA).length+([[aI ((doF (plF f (l.take k)) x1).2.e),aI ((doF (plF f (l.take k)) x1).2.a),aI ((doF (plF f (l.take k)) x1).2.b),aI ((doF (plF f (l.take k)) x1).2.n),aS ((doF (plF f (l.take k)) x1).2.text),.sl 1 false ((doF (plF f (l.take k)) x1).2.names.map txA)]]:List (List AV)).length))] [(2,.box b1 28 [.sl 5 false ((doF (plF f (l.take k)) x1).1.l.map nodA),aI ((doF (plF f (l.take k)) x1).1.next)]),(6,.row V2 45 6 (((plR f (l.take k)).map repA)++([[aI ((doF (plF f (l.take k)) x1).2.e),aI ((doF (plF f (l.take k)) x1).2.a),aI ((doF (plF f (l.take k)) x1).2.b),aI ((doF (plF f (l.take k)) x1).2.n),aS ((doF (plF f (l.take k)) x1).2.text),.sl 1 false ((doF (plF f (l.take k)) x1).2.names.map txA)]])))] ⟨sR,sR,sR,sO,Sub.of_eq (congrArg (AV.rw 6 V2) (by rw [Qdc hx1];simp)),trivial⟩ ⟨⟨_,rfl,SubB.of_eq (by rw [Qg0 hx1])⟩,sB,⟨_,rfl,SubB.of_eq (by rw [Qdc hx1];simp [repA])⟩,trivial⟩)
 <| .alt (.new fun b7=>.fork<|.alt (.call (Qgz (plF f (l.take k)) x1 kp.ok okx1 kp.tree.rows (by omega) kp.tree (Qd1 hf (by omega) kp) txx1)<|
 .pick [6,7,8,10,11,12]<|.r 3<|.new fun b8=>.u 2 [b7,b8]<|
 .u 2 [b7,b1]<|
 .u 3 [b8]<|
 .app 72 V ((plR f (l.take k)).map repA) ([[aI ((doF (plF f (l.take k)) x1).2.e),aI ((doF (plF f (l.take k)) x1).2.a),aI ((doF (plF f (l.take k)) x1).2.b),aI ((doF (plF f (l.take k)) x1).2.n),aS ((doF (plF f (l.take k)) x1).2.text),.sl 1 false ((doF (plF f (l.take k)) x1).2.names.map txA)]]) (by have hw:=Qa7 (f:=f) (l:=l) (k:=k) (by omega);simp only [List.length_map,List.length_cons,List.length_nil];omega) (by have hw:=Qa7 (f:=f) (l:=l) (k:=k) (by omega);simp only [List.length_map,List.length_cons,List.length_nil];omega) fun V3=>
 .r 1<|.run 3 [rng .i64 ((k:Int)+1)] ⟨Qaj (by omega) (by omega),trivial⟩<|
 .bk L1 (k,V) ((k+1),V3) (show (k+1)≤l.length from (by show _≤_;omega)) (show l.length-(k+1)<l.length-k from (by omega)) [(7,aI ((k:Int)+1)),(6,.rw 6 V3 (((plR f (l.take k)).map repA).length+([[aI ((doF (plF f (l.take k)) x1).2.e),aI ((doF (plF f (l.take k)) x1).2.a),aI ((doF (plF f (l.take k)) x1).2.b),aI ((doF (plF f (l.take k)) x1).2.n),aS ((doF (plF f (l.take k)) x1).2.text),.sl 1 false ((doF (plF f (l.take k)) x1).2.names.map txA)]]:List (List AV)).length))] [(2,.box b1 28 [.sl 5 false ((doF (plF f (l.take k)) x1).1.l.map nodA),aI ((doF (plF f (l.take k)) x1).1.next)]),(6,.row V3 45 6 (((plR f (l.take k)).map repA)++([[aI ((doF (plF f (l.take k)) x1).2.e),aI ((doF (plF f (l.take k)) x1).2.a),aI ((doF (plF f (l.take k)) x1).2.b),aI ((doF (plF f (l.take k)) x1).2.n),aS ((doF (plF f (l.take k)) x1).2.text),.sl 1 false ((doF (plF f (l.take k)) x1).2.names.map txA)]])))] ⟨sR,sR,sR,sO,Sub.of_eq (congrArg (AV.rw 6 V3) (by rw [Qdc hx1];simp)),trivial⟩ ⟨⟨_,rfl,SubB.of_eq (by rw [Qg0 hx1])⟩,sB,⟨_,rfl,SubB.of_eq (by rw [Qdc hx1];simp [repA])⟩,trivial⟩)
 <| .new fun b9=>.pick [5,6,7,8,11,12]<|.call (Qgz (plF f (l.take k)) x1 kp.ok okx1 kp.tree.rows (by omega) kp.tree (Qd1 hf (by omega) kp) txx1)<|
 .u 5 [b7,b9]<|
 .u 2 [b7,b1]<|
 .u 3 [b9]<|
 .app 72 V ((plR f (l.take k)).map repA) ([[aI ((doF (plF f (l.take k)) x1).2.e),aI ((doF (plF f (l.take k)) x1).2.a),aI ((doF (plF f (l.take k)) x1).2.b),aI ((doF (plF f (l.take k)) x1).2.n),aS ((doF (plF f (l.take k)) x1).2.text),.sl 1 false ((doF (plF f (l.take k)) x1).2.names.map txA)]]) (by have hw:=Qa7 (f:=f) (l:=l) (k:=k) (by omega);simp only [List.length_map,List.length_cons,List.length_nil];omega) (by have hw:=Qa7 (f:=f) (l:=l) (k:=k) (by omega);simp only [List.length_map,List.length_cons,List.length_nil];omega) fun V4=>
 .r 1<|.run 3 [rng .i64 ((k:Int)+1)] ⟨Qaj (by omega) (by omega),trivial⟩<|
 .bk L1 (k,V) ((k+1),V4) (show (k+1)≤l.length from (by show _≤_;omega)) (show l.length-(k+1)<l.length-k from (by omega)) [(7,aI ((k:Int)+1)),(6,.rw 6 V4 (((plR f (l.take k)).map repA).length+([[aI ((doF (plF f (l.take k)) x1).2.e),aI ((doF (plF f (l.take k)) x1).2.a),aI ((doF (plF f (l.take k)) x1).2.b),aI ((doF (plF f (l.take k)) x1).2.n),aS ((doF (plF f (l.take k)) x1).2.text),.sl 1 false ((doF (plF f (l.take k)) x1).2.names.map txA)]]:List (List AV)).length))] [(2,.box b1 28 [.sl 5 false ((doF (plF f (l.take k)) x1).1.l.map nodA),aI ((doF (plF f (l.take k)) x1).1.next)]),(6,.row V4 45 6 (((plR f (l.take k)).map repA)++([[aI ((doF (plF f (l.take k)) x1).2.e),aI ((doF (plF f (l.take k)) x1).2.a),aI ((doF (plF f (l.take k)) x1).2.b),aI ((doF (plF f (l.take k)) x1).2.n),aS ((doF (plF f (l.take k)) x1).2.text),.sl 1 false ((doF (plF f (l.take k)) x1).2.names.map txA)]])))] ⟨sR,sR,sR,sO,Sub.of_eq (congrArg (AV.rw 6 V4) (by rw [Qdc hx1];simp)),trivial⟩ ⟨⟨_,rfl,SubB.of_eq (by rw [Qg0 hx1])⟩,sB,⟨_,rfl,SubB.of_eq (by rw [Qdc hx1];simp [repA])⟩,trivial⟩)
 <| .new fun b10=>.fork<|.alt (.call (Qgz (plF f (l.take k)) x1 kp.ok okx1 kp.tree.rows (by omega) kp.tree (Qd1 hf (by omega) kp) txx1)<|
 .pick [6,7,8,9,11,12]<|.r 3<|.new fun b11=>.u 2 [b11,b10]<|
 .u 2 [b11,b1]<|
 .u 3 [b10]<|
 .app 72 V ((plR f (l.take k)).map repA) ([[aI ((doF (plF f (l.take k)) x1).2.e),aI ((doF (plF f (l.take k)) x1).2.a),aI ((doF (plF f (l.take k)) x1).2.b),aI ((doF (plF f (l.take k)) x1).2.n),aS ((doF (plF f (l.take k)) x1).2.text),.sl 1 false ((doF (plF f (l.take k)) x1).2.names.map txA)]]) (by have hw:=Qa7 (f:=f) (l:=l) (k:=k) (by omega);simp only [List.length_map,List.length_cons,List.length_nil];omega) (by have hw:=Qa7 (f:=f) (l:=l) (k:=k) (by omega);simp only [List.length_map,List.length_cons,List.length_nil];omega) fun V5=>
 .r 1<|.run 3 [rng .i64 ((k:Int)+1)] ⟨Qaj (by omega) (by omega),trivial⟩<|
 .bk L1 (k,V) ((k+1),V5) (show (k+1)≤l.length from (by show _≤_;omega)) (show l.length-(k+1)<l.length-k from (by omega)) [(7,aI ((k:Int)+1)),(6,.rw 6 V5 (((plR f (l.take k)).map repA).length+([[aI ((doF (plF f (l.take k)) x1).2.e),aI ((doF (plF f (l.take k)) x1).2.a),aI ((doF (plF f (l.take k)) x1).2.b),aI ((doF (plF f (l.take k)) x1).2.n),aS ((doF (plF f (l.take k)) x1).2.text),.sl 1 false ((doF (plF f (l.take k)) x1).2.names.map txA)]]:List (List AV)).length))] [(2,.box b1 28 [.sl 5 false ((doF (plF f (l.take k)) x1).1.l.map nodA),aI ((doF (plF f (l.take k)) x1).1.next)]),(6,.row V5 45 6 (((plR f (l.take k)).map repA)++([[aI ((doF (plF f (l.take k)) x1).2.e),aI ((doF (plF f (l.take k)) x1).2.a),aI ((doF (plF f (l.take k)) x1).2.b),aI ((doF (plF f (l.take k)) x1).2.n),aS ((doF (plF f (l.take k)) x1).2.text),.sl 1 false ((doF (plF f (l.take k)) x1).2.names.map txA)]])))] ⟨sR,sR,sR,sO,Sub.of_eq (congrArg (AV.rw 6 V5) (by rw [Qdc hx1];simp)),trivial⟩ ⟨⟨_,rfl,SubB.of_eq (by rw [Qg0 hx1])⟩,sB,⟨_,rfl,SubB.of_eq (by rw [Qdc hx1];simp [repA])⟩,trivial⟩)
 <| .new fun b12=>.pick [5,6,7,8,11,12]<|.call (Qgz (plF f (l.take k)) x1 kp.ok okx1 kp.tree.rows (by omega) kp.tree (Qd1 hf (by omega) kp) txx1)<|
 .u 5 [b12,b10]<|
 .u 2 [b12,b1]<|
 .u 3 [b10]<|
 .app 72 V ((plR f (l.take k)).map repA) ([[aI ((doF (plF f (l.take k)) x1).2.e),aI ((doF (plF f (l.take k)) x1).2.a),aI ((doF (plF f (l.take k)) x1).2.b),aI ((doF (plF f (l.take k)) x1).2.n),aS ((doF (plF f (l.take k)) x1).2.text),.sl 1 false ((doF (plF f (l.take k)) x1).2.names.map txA)]]) (by have hw:=Qa7 (f:=f) (l:=l) (k:=k) (by omega);simp only [List.length_map,List.length_cons,List.length_nil];omega) (by have hw:=Qa7 (f:=f) (l:=l) (k:=k) (by omega);simp only [List.length_map,List.length_cons,List.length_nil];omega) fun V6=>
 .r 1<|.run 3 [rng .i64 ((k:Int)+1)] ⟨Qaj (by omega) (by omega),trivial⟩<|
 .bk L1 (k,V) ((k+1),V6) (show (k+1)≤l.length from (by show _≤_;omega)) (show l.length-(k+1)<l.length-k from (by omega)) [(7,aI ((k:Int)+1)),(6,.rw 6 V6 (((plR f (l.take k)).map repA).length+([[aI ((doF (plF f (l.take k)) x1).2.e),aI ((doF (plF f (l.take k)) x1).2.a),aI ((doF (plF f (l.take k)) x1).2.b),aI ((doF (plF f (l.take k)) x1).2.n),aS ((doF (plF f (l.take k)) x1).2.text),.sl 1 false ((doF (plF f (l.take k)) x1).2.names.map txA)]]:List (List AV)).length))] [(2,.box b1 28 [.sl 5 false ((doF (plF f (l.take k)) x1).1.l.map nodA),aI ((doF (plF f (l.take k)) x1).1.next)]),(6,.row V6 45 6 (((plR f (l.take k)).map repA)++([[aI ((doF (plF f (l.take k)) x1).2.e),aI ((doF (plF f (l.take k)) x1).2.a),aI ((doF (plF f (l.take k)) x1).2.b),aI ((doF (plF f (l.take k)) x1).2.n),aS ((doF (plF f (l.take k)) x1).2.text),.sl 1 false ((doF (plF f (l.take k)) x1).2.names.map txA)]])))] ⟨sR,sR,sR,sO,Sub.of_eq (congrArg (AV.rw 6 V6) (by rw [Qdc hx1];simp)),trivial⟩ ⟨⟨_,rfl,SubB.of_eq (by rw [Qg0 hx1])⟩,sB,⟨_,rfl,SubB.of_eq (by rw [Qdc hx1];simp [repA])⟩,trivial⟩)
 <| fun p1=>.u 4 [b1,b2]<|
 .frz 6 [4,5] [4] [V=V,(plR f (l.take k)).length=((plR f (l.take k)).map repA).length] ⟨rfl,(by first | rfl | (simp;done) | (simp;omega)),trivial⟩<|
 .f (.tup [.agg (fsyA (plF f l)),.sl 6 false ((plR f l).map repA)]) [b2] (.tup [.agg [.sl 5 false ((plF f (l.take k)).l.map nodA),aI ((plF f (l.take k)).next)],.sl 6 false ((plR f (l.take k)).map repA)]) (by
  rw [show l.take k=l from Qav (by omega)]
  first | exact sR | exact Sub.tups ⟨sR,Sub.loose _ _ _,trivial⟩)) a1.1 a1.2 ha1)
structure Pls where
 f:Fsy
 l:List Cal
 g:Fsy
 next:Int
structure OkPls (a:Pls):Prop where
 f:OkF a.f
 len:a.l.length≤8796093022207
 l:∀ c∈a.l,OkC0 c
 g:OkF a.g
 next:I64 a.next
end Go.Proofs.YtahlldgocpabjaaGreat
