import Derived.Test.YtahlldgocpabjaaGreatMrgAR
import Derived.Test.YtahlldgocpabjaaGreatMrgAN
import Derived.Test.YtahlldgocpabjaaGreatMrgAI
import Derived.Test.YtahlldgocpabjaaGreatMrgAM
import Derived.Test.YtahlldgocpabjaaGreatMrgAF
import Derived.Test.YtahlldgocpabjaaGreatMrgAB
import Derived.Test.YtahlldgocpabjaaGreatMrgJ
import Derived.Test.YtahlldgocpabjaaGreatMrgAP
import Derived.Test.YtahlldgocpabjaaGreatMrgAG
set_option maxRecDepth 100000
set_option maxHeartbeats 8000000
set_option linter.unusedVariables false
set_option linter.unusedSimpArgs false
namespace Go.Proofs.YtahlldgocpabjaaGreat
open Go Go.RowKit Copyhold Go.Proofs.Tryz
theorem Qlh {f g:Fsy} (okf:OkF f) (okg:OkF g):∀ c∈Qbh f g,OkCh c:=fun c hc=>by
 obtain ⟨i,hi,h⟩:=List.mem_filterMap.1 hc;have hI:I64 i:=by
  rcases Qh7.1 hi with h | h
  ·obtain ⟨n,hn,rfl⟩:=List.mem_map.1 h;exact (okf.2.2 n hn).1
  ·obtain ⟨n,hn,rfl⟩:=List.mem_map.1 h;exact (okg.2.2 n hn).1
 unfold chgD at h
 split at h
 ·obtain rfl:=Option.some.inj h;exact ⟨hI,Qk5⟩
 ·rename_i hb
  split at h
  ·obtain rfl:=Option.some.inj h;exact ⟨hI,okg.2.2 _ (Qdk (Qf1 (by simpa using hb)))⟩
  ·cases h
theorem Qxr {s:Sto} {B:Nat} (h:Fit s B) (hB:B≤1000) (hs:s.stamp<1152921504606846977):MidS s:=⟨h.ok,by have:=h.l;omega,by have:=h.n;omega,fun c hc=>by have:=h.r c hc;omega,hs⟩
theorem Qxn:Fit newS 1:=⟨Qk7,by decide,by decide,fun c h=>by obtain rfl:=List.mem_singleton.1 h;decide⟩
theorem Zih:MidS newS:=Qxr Qxn (by decide) (by decide)
theorem Zdv:Qcj newS 1=newF:=by rfl
theorem Qdr:Qag newS=⟨1,newF,newF,[]⟩:=by unfold Qag;rw [show newS.stamp=1 from rfl,Zdv]
noncomputable def tA:Txn:=Qbo (Qag newS) cA
theorem Qsa:tA=⟨1,newF,fA,Qdf ([]++Qbf newF cA)⟩:=by unfold tA;rw [Qdr];unfold Qbo;rw [doA1]
theorem Zlh:(0:Int)∈tA.looks:=by
 rw [Qsa];show (0:Int)∈Qdf _;rw [Qhi];unfold Qbf;rw [if_pos (.inl rfl)];simp
theorem Zbv:¬ tA.was=tA.now:=by
 rw [Qsa];intro h;have:=congrArg Fsy.next h;rw [show (⟨1,newF,fA,Qdf ([]++Qbf newF cA)⟩:Txn).now=fA from rfl,Qiu.2.2.1] at this;exact absurd this (by decide)
theorem tA_len:tA.looks.length≤7:=Qmr (Qag newS) cA
theorem Zli:OkT tA:=by
 have h:=tA_len;refine ⟨?_,?_,?_,by omega⟩<;>rw [Qsa]
 ·exact Qx1 (by decide) (by decide)
 ·exact Qqo
 ·exact Qiu.2.1
noncomputable def kA:Sto:=Qc2 newS (Qbh newF fA) 3
theorem kA_run:runD newS [cA]=kA:=by
 unfold runD;rw [show Qad (Qag newS) [cA]=tA from rfl,Qei (Qab.2 Zbv) (Qab.2 ?_)]
 ·rw [Qsa];show Qc2 newS (Qbh newF fA) fA.next=kA;rw [Qiu.2.2.1];rfl
 ·rintro ⟨x,hx,_⟩;rw [Qsa] at hx;rw [show (⟨1,newF,fA,Qdf ([]++Qbf newF cA)⟩:Txn).stamp=newS.stamp from rfl,Qo3 Zaa] at hx;cases hx
theorem Zis:kA.stamp=2:=rfl
theorem Zit:kA.nexts=[⟨1,2⟩,⟨2,3⟩]:=by
 show Qc0 newS 3=_;rw [Qne (s:=newS) (next:=3) (c:=⟨1,2⟩) rfl (by decide)];rfl
theorem Qx0:Qfe kA tA:=by
 refine ⟨0,?_,Zlh⟩;rw [show tA.stamp=1 from by rw [Qsa]];unfold Qbz;rw [if_pos (.inr (by unfold Zad;rw [Zit];rfl))];simp
theorem Zeq:Fit kA 513:=by
 have hl:(Qbh newF fA).length≤257:=by
  have:=Qff newF fA;have:=Qiu.1.1;have:=Zii;omega
 have h:=Qxn.inst (Qlh Qqo Qiu.2.1) (next:=3) (Qx1 (by decide) (by decide)) (by decide) (by omega);have h2:kA.stamp=2:=rfl;exact ⟨h.ok,by have:=h.l;show kA.l.length≤_;unfold kA;omega,by have:=h.n;unfold kA;omega,fun c hc=>by have:=h.r c hc;omega⟩
theorem kA_mid:MidS kA:=Qxr Zeq (by decide) (by decide)
def rA:Rep:=⟨0,2,0,0,[],[]⟩
theorem rA_eq:plR (Qag newS).now [cA]=[rA]:=by
 rw [Qdr];show [(doF newF cA).2]=_;rw [doA1];rfl
theorem fA_was:tA.was=newF:=by rw [Qsa]
theorem fA_now:tA.now=fA:=by rw [Qsa]
theorem Qco:Qah prog 18 [.agg (txnA (Qag newS)),.agg (calA cA)] (.tup [.agg (txnA tA),.agg (repA rA)]):=by
 have h:=Qjp (Qag newS) cA (by rw [Qdr];exact Qqo) cA_ok (by rw [Qdr];exact Qfa) (by rw [Qdr];decide) (by show ([]:List Int).length≤_;simp);rw [show (doF (Qag newS).now cA).2=rA from by rw [Qdr,doA1];rfl] at h;exact h
theorem Zdw:TreeP (Qag newS).now:=by
 rw [Qdr];exact Qzr.1 ⟨Qfa,⟨Qi3,rfl,rfl,rfl,rfl⟩,fun p hp=>(by cases hp),fun i x hx=>(by cases i<;>cases hx)⟩
theorem Zcc:Qah prog 32 [.agg (stoA newS),.sl 8 false ([cA].map calA)] (.tup [.agg (stoA kA),.sl 6 false ([rA].map repA)]):=by
 have h:=Zhr newS [cA] Zih Zdw (by decide) (fun c h=>by obtain rfl:=List.mem_singleton.1 h;exact cA_ok) (by rw [Qdr];decide);rw [kA_run,rA_eq] at h;exact h
theorem Znf:Qbm kA tA=(kA,15):=Qft (Qab.2 Zbv) (Qaw.2 Qx0)
theorem Qtu:Qah prog 30 [.agg (stoA kA),.agg (txnA tA)] (.tup [.agg (stoA kA),aI 15]):=by
 have h:=Qjf kA tA kA_mid Zli (by rw [fA_was];exact Qfa) (by rw [fA_now];exact Qiu.1);rw [Znf] at h;exact h
theorem Qzp :Qah prog 43 [] (.agg (stoA newS)):=by
 exact Qac func43 (
 .new fun b1=>.call (Zco)<|
 .new fun b2=>.u 1 [b2]<|
 .u 2 [b2]<|
 .idxM newF.l nodA 0 (m:=0) (show (0:Int)=((0:Nat):Int) from rfl) (by decide) fun x1 hx1=>
 have ex1:=Zmk hx1;.u 9 [b1]<|
 .f (.agg (stoA newS)) [b1] (.agg [.sl 2 true ([[aI 1,.sl 7 true ([[aI 1,aB false,aI x1.ino,aI x1.kind,aI x1.links,aS x1.text,.sl 2 false (x1.l.map entA)]])]]),.sl 2 true ([[aI 1,aI 2]]),aI 1]) (by
  obtain rfl:=ex1
  first | exact sR | exact Sub.aggs ⟨Qw2 ⟨sR,Qw2 sr7,trivial⟩,Qw2 sr2,sR,trivial⟩))
theorem Zlq :Qah prog 11 [] (aB true):=by
 exact Qac func11 (
 .r 1<|.call (Qzp)<|
 .new fun b1=>.u 1 [b1]<|
 .r 1<|.new fun b2=>.u 1 [b2]<|
 .u 3 [b1,b2]<|
 .cs (args0:=[.agg (stoA newS),.sl 8 true ([[aI 6,aI 1,aI 0,aI 0,aI 0,aS ([97]),aS ([]),aS ([])]])]) (Zcc) ⟨sR,Sub.loose _ _ _,trivial⟩<|
 .r 3<|.new fun b3=>.u 2 [b3]<|
 let J1:Jn (Nat):=⟨fun j1=>⟨[(0,aB false),(3,.ptr 3 b3 0),(4,.sl 6 false ([rA].map repA)),(5,.ptr 5 j1 0)],[(3,.box b3 25 (stoA kA)),(5,.box j1 31 (txnA tA))]⟩,fun _=>True⟩
 .cut J1 (.pick [0,2]<|.u 2 [b1,b2]<|
 .fork<|.alt (.call (Qek newS Qk7 (by decide))<|
 .fork<|.alt (.cs (args0:=[.agg [aI ((Qag newS).stamp),.sl 5 false ((Qag newS).was.l.map nodA),aI ((Qag newS).was.next),.sl 5 false ((Qag newS).now.l.map nodA),aI ((Qag newS).now.next),.sl 1 false ((Qag newS).looks.map intA)],.agg [aI 6,aI 1,aI 0,aI 0,aI 0,aS ([97]),aS ([]),aS ([])]]) (Qco) sr2<|
 .pick [4,5,6]<|.r 3<|.fork<|.alt (.new fun b4=>.pick [8,9,10]<|.new fun b5=>.u 2 [b4,b5]<|
 .jo J1 b4 [] [] sr4 bb2)
 <| .new fun b6=>.pick [7,9,10]<|.new fun b7=>.u 2 [b7,b6]<|
 .jo J1 b7 [] [] sr4 bb2)
 <| .alt (.new fun b8=>.fork<|.alt (.cs (args0:=[.agg [aI ((Qag newS).stamp),.sl 5 false ((Qag newS).was.l.map nodA),aI ((Qag newS).was.next),.sl 5 false ((Qag newS).now.l.map nodA),aI ((Qag newS).now.next),.sl 1 false ((Qag newS).looks.map intA)],.agg [aI 6,aI 1,aI 0,aI 0,aI 0,aS ([97]),aS ([]),aS ([])]]) (Qco) sr2<|
 .pick [4,5,6,8,9,10]<|.r 3<|.new fun b9=>.u 2 [b8,b9]<|
 .jo J1 b8 [] [] sr4 bb2)
 <| .new fun b10=>.pick [3,4,5,6,9,10]<|.cs (args0:=[.agg [aI ((Qag newS).stamp),.sl 5 false ((Qag newS).was.l.map nodA),aI ((Qag newS).was.next),.sl 5 false ((Qag newS).now.l.map nodA),aI ((Qag newS).now.next),.sl 1 false ((Qag newS).looks.map intA)],.agg [aI 6,aI 1,aI 0,aI 0,aI 0,aS ([97]),aS ([]),aS ([])]]) (Qco) sr2<|
 .u 5 [b8,b10]<|
 .jo J1 b8 [] [] sr4 bb2)
 <| .new fun b11=>.fork<|.alt (.cs (args0:=[.agg [aI ((Qag newS).stamp),.sl 5 false ((Qag newS).was.l.map nodA),aI ((Qag newS).was.next),.sl 5 false ((Qag newS).now.l.map nodA),aI ((Qag newS).now.next),.sl 1 false ((Qag newS).looks.map intA)],.agg [aI 6,aI 1,aI 0,aI 0,aI 0,aS ([97]),aS ([]),aS ([])]]) (Qco) sr2<|
 .pick [4,5,6,7,9,10]<|.r 3<|.new fun b12=>.u 2 [b12,b11]<|
 .jo J1 b12 [] [] sr4 bb2)
 <| .new fun b13=>.pick [3,4,5,6,9,10]<|.cs (args0:=[.agg [aI ((Qag newS).stamp),.sl 5 false ((Qag newS).was.l.map nodA),aI ((Qag newS).was.next),.sl 5 false ((Qag newS).now.l.map nodA),aI ((Qag newS).now.next),.sl 1 false ((Qag newS).looks.map intA)],.agg [aI 6,aI 1,aI 0,aI 0,aI 0,aS ([97]),aS ([]),aS ([])]]) (Qco) sr2<|
 .u 5 [b13,b11]<|
 .jo J1 b13 [] [] sr4 bb2)
 <| .alt (.new fun b14=>.fork<|.alt (.call (Qek newS Qk7 (by decide))<|
 .fork<|.alt (.cs (args0:=[.agg [aI ((Qag newS).stamp),.sl 5 false ((Qag newS).was.l.map nodA),aI ((Qag newS).was.next),.sl 5 false ((Qag newS).now.l.map nodA),aI ((Qag newS).now.next),.sl 1 false ((Qag newS).looks.map intA)],.agg [aI 6,aI 1,aI 0,aI 0,aI 0,aS ([97]),aS ([]),aS ([])]]) (Qco) sr2<|
 .pick [4,5,6,8,9,10]<|.r 3<|.new fun b15=>.u 2 [b14,b15]<|
 .jo J1 b14 [] [] sr4 bb2)
 <| .new fun b16=>.pick [3,4,5,6,9,10]<|.cs (args0:=[.agg [aI ((Qag newS).stamp),.sl 5 false ((Qag newS).was.l.map nodA),aI ((Qag newS).was.next),.sl 5 false ((Qag newS).now.l.map nodA),aI ((Qag newS).now.next),.sl 1 false ((Qag newS).looks.map intA)],.agg [aI 6,aI 1,aI 0,aI 0,aI 0,aS ([97]),aS ([]),aS ([])]]) (Qco) sr2<|
 .u 5 [b14,b16]<|
 .jo J1 b14 [] [] sr4 bb2)
 <| .new fun b17=>.pick [1,3,4,5,6,9,10]<|.call (Qek newS Qk7 (by decide))<|
 .cs (args0:=[.agg [aI ((Qag newS).stamp),.sl 5 false ((Qag newS).was.l.map nodA),aI ((Qag newS).was.next),.sl 5 false ((Qag newS).now.l.map nodA),aI ((Qag newS).now.next),.sl 1 false ((Qag newS).looks.map intA)],.agg [aI 6,aI 1,aI 0,aI 0,aI 0,aS ([97]),aS ([]),aS ([])]]) (Qco) sr2<|
 .u 5 [b14,b17]<|
 .jo J1 b14 [] [] sr4 bb2)
 <| .new fun b18=>.fork<|.alt (.call (Qek newS Qk7 (by decide))<|
 .fork<|.alt (.cs (args0:=[.agg [aI ((Qag newS).stamp),.sl 5 false ((Qag newS).was.l.map nodA),aI ((Qag newS).was.next),.sl 5 false ((Qag newS).now.l.map nodA),aI ((Qag newS).now.next),.sl 1 false ((Qag newS).looks.map intA)],.agg [aI 6,aI 1,aI 0,aI 0,aI 0,aS ([97]),aS ([]),aS ([])]]) (Qco) sr2<|
 .pick [4,5,6,7,9,10]<|.r 3<|.new fun b19=>.u 2 [b19,b18]<|
 .jo J1 b19 [] [] sr4 bb2)
 <| .new fun b20=>.pick [3,4,5,6,9,10]<|.cs (args0:=[.agg [aI ((Qag newS).stamp),.sl 5 false ((Qag newS).was.l.map nodA),aI ((Qag newS).was.next),.sl 5 false ((Qag newS).now.l.map nodA),aI ((Qag newS).now.next),.sl 1 false ((Qag newS).looks.map intA)],.agg [aI 6,aI 1,aI 0,aI 0,aI 0,aS ([97]),aS ([]),aS ([])]]) (Qco) sr2<|
 .u 5 [b20,b18]<|
 .jo J1 b20 [] [] sr4 bb2)
 <| .new fun b21=>.pick [1,3,4,5,6,9,10]<|.call (Qek newS Qk7 (by decide))<|
 .cs (args0:=[.agg [aI ((Qag newS).stamp),.sl 5 false ((Qag newS).was.l.map nodA),aI ((Qag newS).was.next),.sl 5 false ((Qag newS).now.l.map nodA),aI ((Qag newS).now.next),.sl 1 false ((Qag newS).looks.map intA)],.agg [aI 6,aI 1,aI 0,aI 0,aI 0,aS ([97]),aS ([]),aS ([])]]) (Qco) sr2<|
 .u 5 [b21,b18]<|
 .jo J1 b21 [] [] sr4 bb2)
 <| fun j1 _=>(fun (b22:Nat)=>.u 2 [b3,b22]<|
 .call (Qtu)<|
 .r 3<|.new fun b23=>.u 2 [b23]<|
 .u 4 [b3]<|
 .is 34 (show (kA.stamp==2)=true from (by rw [Zis];rfl))<|.r 2<|.lm 36 ([rA]) repA<|.r 3<|.is 39 (show ((([rA]).length:Int)==1)=true from rfl)<|.r 1<|.idxM ([rA]) repA 0 (m:=0) (show (0:Int)=((0:Nat):Int) from rfl) (by decide) fun x1 hx1=>
 have ex1:=(Option.some.inj (show some rA=some x1 from hx1));.r 5<|.is 46 (show (x1.a==2)=true from (by rw [← ex1];rfl))<|.r 4<|.is 50 (show (15==15)=true from rfl)<|.u 2 [b3,b22]<|
 .call (Qpr kA tA Zeq.ok (by have:=Zeq.l;omega) Zli)<|
 .r 2<|.is 55 (show (dP (Qfe kA tA))=true from (Qaw.2 Qx0))<|.u 1 [b22]<|
 .call (Qnu tA Zli)<|
 .r 3<|.f (aB true) [] (aB (!(dP (tA.was=tA.now)))) (by exact Sub.of_eq (congrArg aB (by first | rfl | (rw [Qab.2 Zbv];rfl))))) j1)
theorem Qj9 {f g:Fsy} {k:Nat} (hf:fewF f) (hk:k≤30) (K:KeptN f g k):midF g:=by
 have h:=K.few;rw [wF_eq,wF_eq] at h;have:=hf.1;unfold midF;omega
theorem Qb9 {f:Fsy} {l:List Cal} {k:Nat} (h:k≤l.length):(plR f (l.take k)).length=k:=by rw [Qhs,List.length_take];omega
structure Pls where
 f:Fsy
 l:List Cal
 g:Fsy
 next:Int
structure OkPls (a:Pls):Prop where
 f:OkF a.f
 len:a.l.length≤8796093022207
 l:∀ c∈a.l,OkC0 c
 g:OkF a.g
 next:I64 a.next
theorem Qf6:∀ (l:List Cal) {t:Txn},Asc t.looks→Asc (Qad t l).looks
 | [],_,h=>h
 | c :: r,t,_=>Qf6 r (Zbz t c)
theorem Quy (t:Txn) (l:List Cal) (okt:OkT t) (T:TreeP t.now) (hf:fewF t.now) (hl:l.length≤30) (ok:∀ c∈l,OkCal c) (htx:∀ c∈l,c.text.length≤500000) (hx:t.now.next<1152921504606847976) (hk0:t.looks.length≤1000) (ha:Asc t.looks):Qah prog 41 [.agg (txnA t),.sl 8 false (l.map calA)] (.tup [.agg (txnA (Qad t l)),.sl 6 false ((plR t.now l).map repA)]):=by
 exact Qac func41 (
 .new fun b1=>.new fun b2=>.r 1<|.r 1<|.rowNil 6 6 45 6<|.r 1<|let L1:Lp (Nat × Value):=⟨fun a1=>⟨[(1,.sl 8 false (l.map calA)),(2,.ptr 2 b1 0),(4,.ptr 4 b2 0),(7,aI (a1.1:Int)),(6,.rw 6 a1.2 ((plR t.now (l.take a1.1)).length))],[(2,.box b1 31 [aI ((Qad t (l.take a1.1)).stamp),.sl 5 false ((Qad t (l.take a1.1)).was.l.map nodA),aI ((Qad t (l.take a1.1)).was.next),.sl 5 false ((Qad t (l.take a1.1)).now.l.map nodA),aI ((Qad t (l.take a1.1)).now.next),.sl 1 false ((Qad t (l.take a1.1)).looks.map intA)]),(4,.box b2 31 [aI 0,aN,aI 0,aN,aI 0,aN]),(6,.row a1.2 45 6 ((plR t.now (l.take a1.1)).map repA))]⟩,fun a1=>l.length-a1.1,fun a1=>a1.1≤l.length⟩
 .lp L1 (0,.slice none 0 0) (show 0≤l.length from Nat.zero_le _) [(7,aI 0),(6,.rw 6 (.slice none 0 0) 0)] [(2,.box b1 31 (txnA t)),(6,.row (.slice none 0 0) 45 6 ([]))] ⟨sR,sR,sR,sO,Sub.of_eq rfl,trivial⟩ ⟨⟨_,rfl,SubB.of_eq rfl⟩,sB,⟨_,rfl,SubB.of_eq rfl⟩,trivial⟩ fun a1 ha1=>
 (fun (k:Nat) (V:Value) (hH1:k≤l.length)=>have kt:=Qeg okt T (by omega) ok hx hk0 (k:=k) (by omega);have kp:=kt.now;have kp2:=kp.next;have kl:=kt.len;.r 3<|.lm 12 l calA<|.r 1<|.bd 13 ((k:Int)<(l.length:Int)) (fun p1=>.pick [0,1,2,3,4]<|.u 3 [b1]<|
 .idxM l calA k (m:=(k:Int)) rfl (by omega) fun x1 hx1=>
 have okx1:=ok x1 (List.mem_of_getElem? hx1);have txx1:=htx x1 (List.mem_of_getElem? hx1);.r 1<|.fork<|.alt (.call (Qf8 (Qad t (l.take k)) x1 kp.ok okx1 kp.tree.rows (by omega) (by omega) kp.tree (Qj9 hf (by omega) kp) txx1 (Qf6 _ ha))<|
 .pick [6,7,8]<|.r 3<|.fork<|.alt (.new fun b3=>.pick [10,11,12]<|.new fun b4=>.u 2 [b3,b4]<|
 .u 2 [b3,b1]<|
 .u 3 [b4]<|
 .app 72 V ((plR t.now (l.take k)).map repA) ([[aI ((doF (Qad t (l.take k)).now x1).2.e),aI ((doF (Qad t (l.take k)).now x1).2.a),aI ((doF (Qad t (l.take k)).now x1).2.b),aI ((doF (Qad t (l.take k)).now x1).2.n),aS ((doF (Qad t (l.take k)).now x1).2.text),.sl 1 false ((doF (Qad t (l.take k)).now x1).2.names.map txA)]]) (by have hw:=Qb9 (f:=t.now) (l:=l) (k:=k) (by omega);simp only [List.length_map,List.length_cons,List.length_nil];omega) (by have hw:=Qb9 (f:=t.now) (l:=l) (k:=k) (by omega);simp only [List.length_map,List.length_cons,List.length_nil];omega) fun V1=>
 .r 1<|.run 3 [rng .i64 ((k:Int)+1)] ⟨Qak (by omega) (by omega),trivial⟩<|
 .bk L1 (k,V) ((k+1),V1) (show (k+1)≤l.length from (by show _≤_;omega)) (show l.length-(k+1)<l.length-k from (by omega)) [(7,aI ((k:Int)+1)),(6,.rw 6 V1 (((plR t.now (l.take k)).map repA).length+([[aI ((doF (Qad t (l.take k)).now x1).2.e),aI ((doF (Qad t (l.take k)).now x1).2.a),aI ((doF (Qad t (l.take k)).now x1).2.b),aI ((doF (Qad t (l.take k)).now x1).2.n),aS ((doF (Qad t (l.take k)).now x1).2.text),.sl 1 false ((doF (Qad t (l.take k)).now x1).2.names.map txA)]]:List (List AV)).length))] [(2,.box b1 31 [aI ((Qbo (Qad t (l.take k)) x1).stamp),.sl 5 false ((Qbo (Qad t (l.take k)) x1).was.l.map nodA),aI ((Qbo (Qad t (l.take k)) x1).was.next),.sl 5 false ((Qbo (Qad t (l.take k)) x1).now.l.map nodA),aI ((Qbo (Qad t (l.take k)) x1).now.next),.sl 1 false ((Qbo (Qad t (l.take k)) x1).looks.map intA)]),(6,.row V1 45 6 (((plR t.now (l.take k)).map repA)++([[aI ((doF (Qad t (l.take k)).now x1).2.e),aI ((doF (Qad t (l.take k)).now x1).2.a),aI ((doF (Qad t (l.take k)).now x1).2.b),aI ((doF (Qad t (l.take k)).now x1).2.n),aS ((doF (Qad t (l.take k)).now x1).2.text),.sl 1 false ((doF (Qad t (l.take k)).now x1).2.names.map txA)]])))] ⟨sR,sR,sR,sO,Sub.of_eq (congrArg (AV.rw 6 V1) (by rw [Qcn hx1];simp)),trivial⟩ ⟨⟨_,rfl,SubB.of_eq (by rw [Qd9 hx1])⟩,sB,⟨_,rfl,SubB.of_eq (by rw [Qcn hx1];simp [repA])⟩,trivial⟩)
 <| .new fun b5=>.pick [9,11,12]<|.new fun b6=>.u 2 [b6,b5]<|
 .u 2 [b6,b1]<|
 .u 3 [b5]<|
 .app 72 V ((plR t.now (l.take k)).map repA) ([[aI ((doF (Qad t (l.take k)).now x1).2.e),aI ((doF (Qad t (l.take k)).now x1).2.a),aI ((doF (Qad t (l.take k)).now x1).2.b),aI ((doF (Qad t (l.take k)).now x1).2.n),aS ((doF (Qad t (l.take k)).now x1).2.text),.sl 1 false ((doF (Qad t (l.take k)).now x1).2.names.map txA)]]) (by have hw:=Qb9 (f:=t.now) (l:=l) (k:=k) (by omega);simp only [List.length_map,List.length_cons,List.length_nil];omega) (by have hw:=Qb9 (f:=t.now) (l:=l) (k:=k) (by omega);simp only [List.length_map,List.length_cons,List.length_nil];omega) fun V2=>
 .r 1<|.run 3 [rng .i64 ((k:Int)+1)] ⟨Qak (by omega) (by omega),trivial⟩<|
 .bk L1 (k,V) ((k+1),V2) (show (k+1)≤l.length from (by show _≤_;omega)) (show l.length-(k+1)<l.length-k from (by omega)) [(7,aI ((k:Int)+1)),(6,.rw 6 V2 (((plR t.now (l.take k)).map repA).length+([[aI ((doF (Qad t (l.take k)).now x1).2.e),aI ((doF (Qad t (l.take k)).now x1).2.a),aI ((doF (Qad t (l.take k)).now x1).2.b),aI ((doF (Qad t (l.take k)).now x1).2.n),aS ((doF (Qad t (l.take k)).now x1).2.text),.sl 1 false ((doF (Qad t (l.take k)).now x1).2.names.map txA)]]:List (List AV)).length))] [(2,.box b1 31 [aI ((Qbo (Qad t (l.take k)) x1).stamp),.sl 5 false ((Qbo (Qad t (l.take k)) x1).was.l.map nodA),aI ((Qbo (Qad t (l.take k)) x1).was.next),.sl 5 false ((Qbo (Qad t (l.take k)) x1).now.l.map nodA),aI ((Qbo (Qad t (l.take k)) x1).now.next),.sl 1 false ((Qbo (Qad t (l.take k)) x1).looks.map intA)]),(6,.row V2 45 6 (((plR t.now (l.take k)).map repA)++([[aI ((doF (Qad t (l.take k)).now x1).2.e),aI ((doF (Qad t (l.take k)).now x1).2.a),aI ((doF (Qad t (l.take k)).now x1).2.b),aI ((doF (Qad t (l.take k)).now x1).2.n),aS ((doF (Qad t (l.take k)).now x1).2.text),.sl 1 false ((doF (Qad t (l.take k)).now x1).2.names.map txA)]])))] ⟨sR,sR,sR,sO,Sub.of_eq (congrArg (AV.rw 6 V2) (by rw [Qcn hx1];simp)),trivial⟩ ⟨⟨_,rfl,SubB.of_eq (by rw [Qd9 hx1])⟩,sB,⟨_,rfl,SubB.of_eq (by rw [Qcn hx1];simp [repA])⟩,trivial⟩)
 <| .alt (.new fun b7=>.fork<|.alt (.call (Qf8 (Qad t (l.take k)) x1 kp.ok okx1 kp.tree.rows (by omega) (by omega) kp.tree (Qj9 hf (by omega) kp) txx1 (Qf6 _ ha))<|
 .pick [6,7,8,10,11,12]<|.r 3<|.new fun b8=>.u 2 [b7,b8]<|
 .u 2 [b7,b1]<|
 .u 3 [b8]<|
 .app 72 V ((plR t.now (l.take k)).map repA) ([[aI ((doF (Qad t (l.take k)).now x1).2.e),aI ((doF (Qad t (l.take k)).now x1).2.a),aI ((doF (Qad t (l.take k)).now x1).2.b),aI ((doF (Qad t (l.take k)).now x1).2.n),aS ((doF (Qad t (l.take k)).now x1).2.text),.sl 1 false ((doF (Qad t (l.take k)).now x1).2.names.map txA)]]) (by have hw:=Qb9 (f:=t.now) (l:=l) (k:=k) (by omega);simp only [List.length_map,List.length_cons,List.length_nil];omega) (by have hw:=Qb9 (f:=t.now) (l:=l) (k:=k) (by omega);simp only [List.length_map,List.length_cons,List.length_nil];omega) fun V3=>
 .r 1<|.run 3 [rng .i64 ((k:Int)+1)] ⟨Qak (by omega) (by omega),trivial⟩<|
 .bk L1 (k,V) ((k+1),V3) (show (k+1)≤l.length from (by show _≤_;omega)) (show l.length-(k+1)<l.length-k from (by omega)) [(7,aI ((k:Int)+1)),(6,.rw 6 V3 (((plR t.now (l.take k)).map repA).length+([[aI ((doF (Qad t (l.take k)).now x1).2.e),aI ((doF (Qad t (l.take k)).now x1).2.a),aI ((doF (Qad t (l.take k)).now x1).2.b),aI ((doF (Qad t (l.take k)).now x1).2.n),aS ((doF (Qad t (l.take k)).now x1).2.text),.sl 1 false ((doF (Qad t (l.take k)).now x1).2.names.map txA)]]:List (List AV)).length))] [(2,.box b1 31 [aI ((Qbo (Qad t (l.take k)) x1).stamp),.sl 5 false ((Qbo (Qad t (l.take k)) x1).was.l.map nodA),aI ((Qbo (Qad t (l.take k)) x1).was.next),.sl 5 false ((Qbo (Qad t (l.take k)) x1).now.l.map nodA),aI ((Qbo (Qad t (l.take k)) x1).now.next),.sl 1 false ((Qbo (Qad t (l.take k)) x1).looks.map intA)]),(6,.row V3 45 6 (((plR t.now (l.take k)).map repA)++([[aI ((doF (Qad t (l.take k)).now x1).2.e),aI ((doF (Qad t (l.take k)).now x1).2.a),aI ((doF (Qad t (l.take k)).now x1).2.b),aI ((doF (Qad t (l.take k)).now x1).2.n),aS ((doF (Qad t (l.take k)).now x1).2.text),.sl 1 false ((doF (Qad t (l.take k)).now x1).2.names.map txA)]])))] ⟨sR,sR,sR,sO,Sub.of_eq (congrArg (AV.rw 6 V3) (by rw [Qcn hx1];simp)),trivial⟩ ⟨⟨_,rfl,SubB.of_eq (by rw [Qd9 hx1])⟩,sB,⟨_,rfl,SubB.of_eq (by rw [Qcn hx1];simp [repA])⟩,trivial⟩)
 <| .new fun b9=>.pick [5,6,7,8,11,12]<|.call (Qf8 (Qad t (l.take k)) x1 kp.ok okx1 kp.tree.rows (by omega) (by omega) kp.tree (Qj9 hf (by omega) kp) txx1 (Qf6 _ ha))<|
 .u 5 [b7,b9]<|
 .u 2 [b7,b1]<|
 .u 3 [b9]<|
 .app 72 V ((plR t.now (l.take k)).map repA) ([[aI ((doF (Qad t (l.take k)).now x1).2.e),aI ((doF (Qad t (l.take k)).now x1).2.a),aI ((doF (Qad t (l.take k)).now x1).2.b),aI ((doF (Qad t (l.take k)).now x1).2.n),aS ((doF (Qad t (l.take k)).now x1).2.text),.sl 1 false ((doF (Qad t (l.take k)).now x1).2.names.map txA)]]) (by have hw:=Qb9 (f:=t.now) (l:=l) (k:=k) (by omega);simp only [List.length_map,List.length_cons,List.length_nil];omega) (by have hw:=Qb9 (f:=t.now) (l:=l) (k:=k) (by omega);simp only [List.length_map,List.length_cons,List.length_nil];omega) fun V4=>
 .r 1<|.run 3 [rng .i64 ((k:Int)+1)] ⟨Qak (by omega) (by omega),trivial⟩<|
 .bk L1 (k,V) ((k+1),V4) (show (k+1)≤l.length from (by show _≤_;omega)) (show l.length-(k+1)<l.length-k from (by omega)) [(7,aI ((k:Int)+1)),(6,.rw 6 V4 (((plR t.now (l.take k)).map repA).length+([[aI ((doF (Qad t (l.take k)).now x1).2.e),aI ((doF (Qad t (l.take k)).now x1).2.a),aI ((doF (Qad t (l.take k)).now x1).2.b),aI ((doF (Qad t (l.take k)).now x1).2.n),aS ((doF (Qad t (l.take k)).now x1).2.text),.sl 1 false ((doF (Qad t (l.take k)).now x1).2.names.map txA)]]:List (List AV)).length))] [(2,.box b1 31 [aI ((Qbo (Qad t (l.take k)) x1).stamp),.sl 5 false ((Qbo (Qad t (l.take k)) x1).was.l.map nodA),aI ((Qbo (Qad t (l.take k)) x1).was.next),.sl 5 false ((Qbo (Qad t (l.take k)) x1).now.l.map nodA),aI ((Qbo (Qad t (l.take k)) x1).now.next),.sl 1 false ((Qbo (Qad t (l.take k)) x1).looks.map intA)]),(6,.row V4 45 6 (((plR t.now (l.take k)).map repA)++([[aI ((doF (Qad t (l.take k)).now x1).2.e),aI ((doF (Qad t (l.take k)).now x1).2.a),aI ((doF (Qad t (l.take k)).now x1).2.b),aI ((doF (Qad t (l.take k)).now x1).2.n),aS ((doF (Qad t (l.take k)).now x1).2.text),.sl 1 false ((doF (Qad t (l.take k)).now x1).2.names.map txA)]])))] ⟨sR,sR,sR,sO,Sub.of_eq (congrArg (AV.rw 6 V4) (by rw [Qcn hx1];simp)),trivial⟩ ⟨⟨_,rfl,SubB.of_eq (by rw [Qd9 hx1])⟩,sB,⟨_,rfl,SubB.of_eq (by rw [Qcn hx1];simp [repA])⟩,trivial⟩)
 <| .new fun b10=>.fork<|.alt (.call (Qf8 (Qad t (l.take k)) x1 kp.ok okx1 kp.tree.rows (by omega) (by omega) kp.tree (Qj9 hf (by omega) kp) txx1 (Qf6 _ ha))<|
 .pick [6,7,8,9,11,12]<|.r 3<|.new fun b11=>.u 2 [b11,b10]<|
 .u 2 [b11,b1]<|
 .u 3 [b10]<|
 .app 72 V ((plR t.now (l.take k)).map repA) ([[aI ((doF (Qad t (l.take k)).now x1).2.e),aI ((doF (Qad t (l.take k)).now x1).2.a),aI ((doF (Qad t (l.take k)).now x1).2.b),aI ((doF (Qad t (l.take k)).now x1).2.n),aS ((doF (Qad t (l.take k)).now x1).2.text),.sl 1 false ((doF (Qad t (l.take k)).now x1).2.names.map txA)]]) (by have hw:=Qb9 (f:=t.now) (l:=l) (k:=k) (by omega);simp only [List.length_map,List.length_cons,List.length_nil];omega) (by have hw:=Qb9 (f:=t.now) (l:=l) (k:=k) (by omega);simp only [List.length_map,List.length_cons,List.length_nil];omega) fun V5=>
 .r 1<|.run 3 [rng .i64 ((k:Int)+1)] ⟨Qak (by omega) (by omega),trivial⟩<|
 .bk L1 (k,V) ((k+1),V5) (show (k+1)≤l.length from (by show _≤_;omega)) (show l.length-(k+1)<l.length-k from (by omega)) [(7,aI ((k:Int)+1)),(6,.rw 6 V5 (((plR t.now (l.take k)).map repA).length+([[aI ((doF (Qad t (l.take k)).now x1).2.e),aI ((doF (Qad t (l.take k)).now x1).2.a),aI ((doF (Qad t (l.take k)).now x1).2.b),aI ((doF (Qad t (l.take k)).now x1).2.n),aS ((doF (Qad t (l.take k)).now x1).2.text),.sl 1 false ((doF (Qad t (l.take k)).now x1).2.names.map txA)]]:List (List AV)).length))] [(2,.box b1 31 [aI ((Qbo (Qad t (l.take k)) x1).stamp),.sl 5 false ((Qbo (Qad t (l.take k)) x1).was.l.map nodA),aI ((Qbo (Qad t (l.take k)) x1).was.next),.sl 5 false ((Qbo (Qad t (l.take k)) x1).now.l.map nodA),aI ((Qbo (Qad t (l.take k)) x1).now.next),.sl 1 false ((Qbo (Qad t (l.take k)) x1).looks.map intA)]),(6,.row V5 45 6 (((plR t.now (l.take k)).map repA)++([[aI ((doF (Qad t (l.take k)).now x1).2.e),aI ((doF (Qad t (l.take k)).now x1).2.a),aI ((doF (Qad t (l.take k)).now x1).2.b),aI ((doF (Qad t (l.take k)).now x1).2.n),aS ((doF (Qad t (l.take k)).now x1).2.text),.sl 1 false ((doF (Qad t (l.take k)).now x1).2.names.map txA)]])))] ⟨sR,sR,sR,sO,Sub.of_eq (congrArg (AV.rw 6 V5) (by rw [Qcn hx1];simp)),trivial⟩ ⟨⟨_,rfl,SubB.of_eq (by rw [Qd9 hx1])⟩,sB,⟨_,rfl,SubB.of_eq (by rw [Qcn hx1];simp [repA])⟩,trivial⟩)
 <| .new fun b12=>.pick [5,6,7,8,11,12]<|.call (Qf8 (Qad t (l.take k)) x1 kp.ok okx1 kp.tree.rows (by omega) (by omega) kp.tree (Qj9 hf (by omega) kp) txx1 (Qf6 _ ha))<|
 .u 5 [b12,b10]<|
 .u 2 [b12,b1]<|
 .u 3 [b10]<|
 .app 72 V ((plR t.now (l.take k)).map repA) ([[aI ((doF (Qad t (l.take k)).now x1).2.e),aI ((doF (Qad t (l.take k)).now x1).2.a),aI ((doF (Qad t (l.take k)).now x1).2.b),aI ((doF (Qad t (l.take k)).now x1).2.n),aS ((doF (Qad t (l.take k)).now x1).2.text),.sl 1 false ((doF (Qad t (l.take k)).now x1).2.names.map txA)]]) (by have hw:=Qb9 (f:=t.now) (l:=l) (k:=k) (by omega);simp only [List.length_map,List.length_cons,List.length_nil];omega) (by have hw:=Qb9 (f:=t.now) (l:=l) (k:=k) (by omega);simp only [List.length_map,List.length_cons,List.length_nil];omega) fun V6=>
 .r 1<|.run 3 [rng .i64 ((k:Int)+1)] ⟨Qak (by omega) (by omega),trivial⟩<|
 .bk L1 (k,V) ((k+1),V6) (show (k+1)≤l.length from (by show _≤_;omega)) (show l.length-(k+1)<l.length-k from (by omega)) [(7,aI ((k:Int)+1)),(6,.rw 6 V6 (((plR t.now (l.take k)).map repA).length+([[aI ((doF (Qad t (l.take k)).now x1).2.e),aI ((doF (Qad t (l.take k)).now x1).2.a),aI ((doF (Qad t (l.take k)).now x1).2.b),aI ((doF (Qad t (l.take k)).now x1).2.n),aS ((doF (Qad t (l.take k)).now x1).2.text),.sl 1 false ((doF (Qad t (l.take k)).now x1).2.names.map txA)]]:List (List AV)).length))] [(2,.box b1 31 [aI ((Qbo (Qad t (l.take k)) x1).stamp),.sl 5 false ((Qbo (Qad t (l.take k)) x1).was.l.map nodA),aI ((Qbo (Qad t (l.take k)) x1).was.next),.sl 5 false ((Qbo (Qad t (l.take k)) x1).now.l.map nodA),aI ((Qbo (Qad t (l.take k)) x1).now.next),.sl 1 false ((Qbo (Qad t (l.take k)) x1).looks.map intA)]),(6,.row V6 45 6 (((plR t.now (l.take k)).map repA)++([[aI ((doF (Qad t (l.take k)).now x1).2.e),aI ((doF (Qad t (l.take k)).now x1).2.a),aI ((doF (Qad t (l.take k)).now x1).2.b),aI ((doF (Qad t (l.take k)).now x1).2.n),aS ((doF (Qad t (l.take k)).now x1).2.text),.sl 1 false ((doF (Qad t (l.take k)).now x1).2.names.map txA)]])))] ⟨sR,sR,sR,sO,Sub.of_eq (congrArg (AV.rw 6 V6) (by rw [Qcn hx1];simp)),trivial⟩ ⟨⟨_,rfl,SubB.of_eq (by rw [Qd9 hx1])⟩,sB,⟨_,rfl,SubB.of_eq (by rw [Qcn hx1];simp [repA])⟩,trivial⟩)
 <| fun p1=>.u 4 [b1,b2]<|
 .frz 6 [4,5] [4] [V=V,(plR t.now (l.take k)).length=((plR t.now (l.take k)).map repA).length] ⟨rfl,(by first | rfl | (simp;done) | (simp;omega)),trivial⟩<|
 .f (.tup [.agg (txnA (Qad t l)),.sl 6 false ((plR t.now l).map repA)]) [b2] (.tup [.agg [aI ((Qad t (l.take k)).stamp),.sl 5 false ((Qad t (l.take k)).was.l.map nodA),aI ((Qad t (l.take k)).was.next),.sl 5 false ((Qad t (l.take k)).now.l.map nodA),aI ((Qad t (l.take k)).now.next),.sl 1 false ((Qad t (l.take k)).looks.map intA)],.sl 6 false ((plR t.now (l.take k)).map repA)]) (by
  rw [show l.take k=l from Qav (by omega)]
  first | exact sR | exact Sub.tups ⟨sR,Sub.loose _ _ _,trivial⟩)) a1.1 a1.2 ha1)
theorem Zcb {s:Sto} {g:Fsy} (hp:Qce s) (hw:Qar (Qcj s s.stamp)) (hg:Qar g) (hx:(Qcj s s.stamp).next≤g.next):Qcj (Qc2 s (Qbh (Qcj s s.stamp) g) g.next) (s.stamp+1)=g:=by
 have h1:=Qjg (Qcj s s.stamp) g;have hm:=Qjh hw hg;have hn:1≤g.next:=hg.2.1;refine Qny (Qmj (Qir hp h1 hm hn) _) (Qaf hg) (fun i=>?_) ?_
 ·rw [Zbo hp h1 hm hn];rcases Qrh (f:=Qcj s s.stamp) hg i with ⟨hc,he⟩ | ⟨c,hc,he,_⟩
  ·rw [hc];exact he
  ·rw [hc];exact he
 ·show Qhu _ _=_;rw [Zdu hp];have:Qhu s s.stamp≤g.next:=hx;unfold maxD
  split<;>omega
theorem Qv1 {s:Sto} {l:List Cal} (oks:OkS s) (hg:Zan s) (hl:l.length≤30) (ok:∀ c∈l,OkCal c) :
  ∀ t,t=Qad (Qag s) l→KeptT (Qag s) t l.length∧TreeP (Qag s).now∧¬ Qfe s t∧(Qbm s t).2=0∧Qcj (Qbm s t).1 (Qbm s t).1.stamp=t.now∧((Qbm s t).1=s↔t.was=t.now)∧Qce (Qbm s t).1∧Fit (Qbm s t).1 713∧Qar t.was:=by
 rintro t rfl;obtain ⟨g1,hp,g3,g4,g5,g6⟩:=hg;have T:TreeP (Qag s).now:=Qmz g4 g5;have K:=Qeg (Qen oks) T (l:=l) (by omega) ok (by show (Qcj s s.stamp).next<_;omega) (by show ([]:List Int).length≤_;simp) (k:=l.length) (Nat.le_refl _);rw [List.take_length] at K;have hwas:(Qad (Qag s) l).was=Qcj s s.stamp:=K.was;have hw:Qar (Qad (Qag s) l).was:=by rw [hwas];exact g5.1
 have hst:(Qad (Qag s) l).stamp=s.stamp:=Qi8 l _;have hnc:¬ Qfe s (Qad (Qag s) l):=by
  rintro ⟨x,hx,_⟩;rw [hst,Qo3 hp] at hx;cases hx
 have hfit:=Zfh oks g1;refine ⟨K,T,hnc,?_⟩;by_cases hi:(Qad (Qag s) l).was=(Qad (Qag s) l).now
 ·rw [Qcf (Qaw.2 hi)];exact ⟨rfl,hwas.symm.trans hi,⟨fun _=>hi,fun _=>rfl⟩,hp,⟨hfit.ok,Nat.le_trans hfit.l (by omega),Nat.le_trans hfit.n (by omega),fun c hc=>Nat.le_trans (hfit.r c hc) (by omega)⟩,hw⟩
 ·rw [Qei (Qab.2 hi) (Qab.2 hnc)];have hn:=K.now.tree.rows;have hlen:=Qff (Qad (Qag s) l).was (Qad (Qag s) l).now;have:=hw.1;have:=hn.1;have F:=hfit.inst (Qlh K.ok.was K.ok.now) (next:=(Qad (Qag s) l).now.next) K.ok.now.1 (by omega) (by omega);refine ⟨rfl,?_,⟨fun h=>?_,fun h=>absurd h hi⟩,Qir hp (Qjg _ _) (Qjh hw hn) hn.2.1,⟨F.ok,Nat.le_trans F.l (by omega),Nat.le_trans F.n (by omega),fun c hc=>Nat.le_trans (F.r c hc) (by omega)⟩,hw⟩
  ·show Qcj (Qc2 s _ _) (s.stamp+1)=_;rw [hwas];exact Zcb hp g5.1 hn (by have:=K.now.next.1;exact this)
  ·have:=congrArg Sto.stamp h;have e:(Qc2 s (Qbh (Qad (Qag s) l).was (Qad (Qag s) l).now) (Qad (Qag s) l).now.next).stamp=s.stamp+1:=rfl;simp only [e] at this;omega
theorem Qsn (s:Sto) (t:Txn) (ms:MidS s) (hp:Qce s) (okt:OkT t) (hw:Qar t.was) (hn:Qar t.now):Qah prog 31 [.agg (stoA s),.agg (txnA t)] (.tup [.agg (stoA (Qbm s t).1),aI (Qbm s t).2]):=by
 exact Qac func31 (
 .new fun b1=>.new fun b2=>.new fun b3=>.r 1<|.u 4 [b2,b2]<|
 .call (Zap t.was t.now okt.was okt.now)<|
 .r 1<|.r 1<|.br 13 (dP (t.was=t.now)) (fun q1=>have p1:=booT q1;.u 3 [b1,b3]<|
 .f (.tup [.agg (stoA (Qbm s t).1),aI (Qbm s t).2]) [b3] (.tup [.agg (stoA s),aI 0]) (by
  rw [Qcf q1];exact sR))
 <| fun q1=>have p1:=booF q1;.u 2 [b1,b2]<|
 .call (Qvc s t ms.ok (by have:=ms.l;omega) okt)<|
 .r 1<|.r 1<|.br 18 (dP (Qfe s t)) (fun q2=>have p2:=booT q2;.u 3 [b1,b3]<|
 .f (.tup [.agg (stoA (Qbm s t).1),aI (Qbm s t).2]) [b3] (.tup [.agg (stoA s),aI 15]) (by
  rw [Qft q1 q2];exact sR))
 <| fun q2=>have p2:=booF q2;.ord [0,1,2,3,4,6,7,8,5,9,10,11]<|.u 8 [b1,b2,b2,b2]<|
 .call (Qqd t.was t.now okt.was okt.now (by have:=hw.1;omega) (by have:=hn.1;omega))<|
 .call (Qqa s (Qbh t.was t.now) t.now.next ms.ok hp ms.l (by have:=Qff t.was t.now;have:=hw.1;have:=hn.1;omega) ms.nexts ms.rows ms.stamp)<|
 .u 2 [b3]<|
 .f (.tup [.agg (stoA (Qbm s t).1),aI (Qbm s t).2]) [b3] (.tup [.agg [.sl 2 false ((Qc2 s (Qbh t.was t.now) t.now.next).l.map chnA),.sl 2 false ((Qc2 s (Qbh t.was t.now) t.now.next).nexts.map cntA),aI ((Qc2 s (Qbh t.was t.now) t.now.next).stamp)],aI 0]) (by
  rw [Qei q1 q2];exact sR))
theorem Zch (s:Sto) (l:List Cal) (ms:MidS s) (hp:Qce s) (T:TreeP (Qag s).now) (hf:fewF (Qag s).now) (hl:l.length≤30) (ok:∀ c∈l,OkCal c) (htx:∀ c∈l,c.text.length≤500000) (hx:(Qag s).now.next<1152921504606847976):Qah prog 33 [.agg (stoA s),.sl 8 false (l.map calA)] (.tup [.agg (stoA (runD s l)),.sl 6 false ((plR (Qag s).now l).map repA)]):=by
 have kt:=Qeg (Qen ms.ok) T (by omega) ok hx (by show ([]:List Int).length≤_;simp) (Nat.le_refl l.length);rw [List.take_length] at kt;exact Qac func33 (let R:AV:=.tup [.agg (stoA (runD s l)),.sl 6 false ((plR (Qag s).now l).map repA)];
 .new fun b1=>.new fun b2=>.r 1<|.u 1 [b1]<|
 .call (Qve s ms.ok (by have:=ms.l;omega))<|
 .r 1<|.call (Quy (Qag s) l (Qen ms.ok) T hf hl ok htx hx (by show ([]:List Int).length≤_;simp) List.Pairwise.nil)<|
 .r 3<|.new fun b3=>.u 2 [b3]<|
 .u 2 [b1,b3]<|
 .call (Qsn s (Qad (Qag s) l) ms hp kt.ok (by rw [kt.was];exact T.rows) kt.now.tree.rows)<|
 .r 3<|.new fun b4=>.u 2 [b4]<|
 .u 4 [b4,b2]<|
 .fi R [b2])
theorem Za0 {s:Sto} {t:Txn} {B:Nat} (h:Fit s B) (okt:OkT t) (hw:Qar t.was) (hn:Qar t.now) (hs:s.stamp<4611686018427387904) (hB:B≤90000):Fit (Qbm s t).1 (B+513)∧(Qbm s t).1.stamp≤s.stamp+1:=by
 have up:Fit s (B+513):=⟨h.ok,Nat.le_trans h.l (by omega),Nat.le_trans h.n (by omega),fun c hc=>Nat.le_trans (h.r c hc) (by omega)⟩
 by_cases hi:t.was=t.now
 ·rw [Qcf (Qaw.2 hi)];exact ⟨up,by show s.stamp≤_;omega⟩
 ·by_cases hc:Qfe s t
  ·rw [Qft (Qab.2 hi) (Qaw.2 hc)];exact ⟨up,by show s.stamp≤_;omega⟩
  ·rw [Qei (Qab.2 hi) (Qab.2 hc)];have hlen:=Qff t.was t.now;have h1:=hw.1;have h2:=hn.1;have F:=h.inst (Qlh okt.was okt.now) (next:=t.now.next) okt.now.1 (by omega) (by omega);exact ⟨⟨F.ok,Nat.le_trans F.l (by omega),Nat.le_trans F.n (by omega),fun c hc=>Nat.le_trans (F.r c hc) (by omega)⟩,Int.le_refl _⟩
theorem Zhs {s:Sto} {l:List Cal} (oks:OkS s) (hg:Zan s) (hl:l.length≤30) (ok:∀ c∈l,OkCal c):Qcj (runD s l) s.stamp=Qcj s s.stamp∧Fit (runD s l) 713:=by
 obtain ⟨K,T,f3,f4,f5,f6,f7,f8,f9⟩:=Qv1 oks hg hl ok _ rfl;refine ⟨?_,f8⟩;unfold runD;by_cases hi:(Qad (Qag s) l).was=(Qad (Qag s) l).now
 ·rw [Qcf (Qaw.2 hi)]
 ·rw [Qei (Qab.2 hi) (Qab.2 f3)];exact Zbn hg.2.1 (Qjg _ _) (Qjh f9 K.now.tree.rows) K.now.tree.rows.2.1 (Int.le_refl _)
structure Ses where
 s:Sto
 l:List Cal
 o:List Cal
 c:Cal
structure OkSes (a:Ses):Prop where
 s:OkS a.s
 ll:a.l.length≤8796093022207
 l:∀ c∈a.l,OkC0 c
 lo:a.o.length≤8796093022207
 o:∀ c∈a.o,OkC0 c
 c:OkC0 a.c
end Go.Proofs.YtahlldgocpabjaaGreat
