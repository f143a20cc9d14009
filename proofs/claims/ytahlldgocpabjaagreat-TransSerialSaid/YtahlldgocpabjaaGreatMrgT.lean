import Derived.Test.YtahlldgocpabjaaGreatAl
import Derived.Test.YtahlldgocpabjaaGreatMrgS
import Derived.Test.YtahlldgocpabjaaGreatMrgQ
import Derived.Test.YtahlldgocpabjaaGreatMrgL
import Derived.Test.YtahlldgocpabjaaGreatMrgO
set_option maxRecDepth 100000
set_option maxHeartbeats 8000000
set_option linter.unusedVariables false
set_option linter.unusedSimpArgs false
namespace Go.Proofs.YtahlldgocpabjaaGreat
open Go Go.RowKit Copyhold Go.Proofs.Tryz
open Copyhold.Name (Srt insE delE getE isAt)
theorem Qde {a:Int} {l:List Int} (h:¬ a=0):Qax (a :: l)=a:=by unfold Qax;rw [W1f,show (a != 0)=true from by simpa using h];rfl
theorem Qaz {a:Int} {l:List Int} (h:a=0):Qax (a :: l)=Qax l:=by unfold Qax;rw [W1f,show (a != 0)=false from by simpa using h]
theorem Quj {f:Fsy} {d:Int} {s:Txt} {n:Nod} (h:Qaa (leaveF f d s) n.ino=n):Qod (leaveF f d s) n.ino=Qbm f d s n:=by
 unfold Qod Qbm;rw [h];by_cases hl:n.links≤1
 ·rw [W1y hl,W1y (by omega)]
 ·rw [W1x hl,W1x (by omega)]
theorem Qns (f:Fsy) (d:Int) (s:Txt) (n:Nod) (okf:OkF f) (hp:Qan f) (hs:s.length≤1000000) (okn:OkN n) (hx:f.next<9223372036854775807):Qai prog 120 [.agg (fsyA f),aI d,aS s,.agg (nodA n)] (.tup [.agg (fsyA (if Qaw f d s n=0 then addF f d s (addN f n) else f)),aI (Qaw f d s n)]):=by
 have hl:=hp.1;have hr:=Qaf hp;exact Qae func120 (
 .new fun b1=>.new fun b2=>.new fun b3=>.r 1<|.u 2 [b1]<|
 .call (Qh7 f d hp)<|
 .r 3<|.new fun b4=>.u 2 [b4]<|
 .r 2<|.br 23 ((dirE f d) != 0) (fun q1=>have p1:=bneT q1;.u 4 [b1,b3]<|
 .f (.tup [.agg (fsyA (if Qaw f d s n=0 then addF f d s (addN f n) else f)),aI (Qaw f d s n)]) [b3] (.tup [.agg (fsyA f),aI (dirE f d)]) (by
  have e:Qaw f d s n=dirE f d:=by
   unfold Qaw;rw [Qde (bneT q1)]
  rw [W1x (by rw [e];exact bneT q1),e];exact sR))
 <| fun q1=>have p1:=bneF q1;.r 1<|.call (Qep s (by omega))<|
 .r 1<|.r 2<|.br 29 ((Qak s) != 0) (fun q2=>have p2:=bneT q2;.u 4 [b1,b3]<|
 .f (.tup [.agg (fsyA (if Qaw f d s n=0 then addF f d s (addN f n) else f)),aI (Qaw f d s n)]) [b3] (.tup [.agg (fsyA f),aI (Qak s)]) (by
  have e:Qaw f d s n=Qak s:=by
   unfold Qaw;rw [Qaz (bneF q1)];rw [Qde (bneT q2)]
  rw [W1x (by rw [e];exact bneT q2),e];exact sR))
 <| fun q2=>have p2:=bneF q2;.u 3 [b4]<|
 .call (Qen (dirN f d).l s (by have:=(Qdo hp d).2;omega))<|
 .r 5<|.r 1<|.br 39 (isB (dirN f d).l s) (fun q3=>have p3:=booT q3;.u 3 [b1,b3]<|
 .f (.tup [.agg (fsyA (if Qaw f d s n=0 then addF f d s (addN f n) else f)),aI (Qaw f d s n)]) [b3] (.tup [.agg (fsyA f),aI 7]) (by
  have e:Qaw f d s n=7:=by
   unfold Qaw;rw [Qaz (bneF q1)];rw [Qaz (bneF q2)];rw [Qde (by simp only [q3,W02,W0u,W04,W01,W0x,W0t];decide)];simp only [q3,W02,W0u,W04,W01,W0x,W0t];rfl
  rw [W1x (by rw [e];decide),e];exact sR))
 <| fun q3=>have p3:=booF q3;.u 3 [b1]<|
 .lm 43 f.l nodA<|.r 2<|.br 45 (decide ((f.l.length:Int)≥256)) (fun q4=>have p4:=decT q4;.r 5<|.u 3 [b1,b3]<|
 .f (.tup [.agg (fsyA (if Qaw f d s n=0 then addF f d s (addN f n) else f)),aI (Qaw f d s n)]) [b3] (.tup [.agg (fsyA f),aI 12]) (by
  have e:Qaw f d s n=12:=by
   unfold Qaw;rw [Qaz (bneF q1)];rw [Qaz (bneF q2)];rw [Qaz (by simp only [q3,W02,W0u,W04,W01,W0x,W0t];rfl)];rw [Qde (by simp only [q4,W02,W0u,W04,W01,W0x,W0t];decide)];simp only [q4,W02,W0u,W04,W01,W0x,W0t];rfl
  rw [W1x (by rw [e];decide),e];exact sR))
 <| fun q4=>have p4:=decF q4;.u 3 [b4]<|
 .lm 48 ((dirN f d).l) entA<|.r 2<|.br 50 (decide ((((dirN f d).l).length:Int)≥256)) (fun q5=>have p5:=decT q5;.u 3 [b1,b3]<|
 .f (.tup [.agg (fsyA (if Qaw f d s n=0 then addF f d s (addN f n) else f)),aI (Qaw f d s n)]) [b3] (.tup [.agg (fsyA f),aI 12]) (by
  have e:Qaw f d s n=12:=by
   unfold Qaw;rw [Qaz (bneF q1)];rw [Qaz (bneF q2)];rw [Qaz (by simp only [q3,W02,W0u,W04,W01,W0x,W0t];rfl)];rw [Qde (by simp only [q4,q5,W02,W0u,W04,W01,W0x,W0t];decide)];simp only [q4,q5,W02,W0u,W04,W01,W0x,W0t];rfl
  rw [W1x (by rw [e];decide),e];exact sR))
 <| fun q5=>have p5:=decF q5;.u 4 [b1,b2]<|
 .u 2 [b2]<|
 .u 1 [b2]<|
 .cs (args0:=[.agg [aI f.next,aI n.kind,aI 1,aS n.text,.sl 2 false (n.l.map entA)]]) (Qh4 (addN f n) (Qsy okf okn)) sr1<|
 .r 1<|.r 3<|.br 60 (!(dP (nodP (addN f n)))) (fun q6=>have q6:=notT q6;have p6:=booF q6;.r 5<|.u 3 [b1,b3]<|
 .f (.tup [.agg (fsyA (if Qaw f d s n=0 then addF f d s (addN f n) else f)),aI (Qaw f d s n)]) [b3] (.tup [.agg (fsyA f),aI 1]) (by
  have e:Qaw f d s n=1:=by
   unfold Qaw;rw [Qaz (bneF q1)];rw [Qaz (bneF q2)];rw [Qaz (by simp only [q3,W02,W0u,W04,W01,W0x,W0t];rfl)];rw [Qaz (by simp only [q4,q5,W02,W0u,W04,W01,W0x,W0t];rfl)];rw [Qde (by simp only [q6,W02,W0u,W04,W01,W0x,W0t];decide)];simp only [q6,W02,W0u,W04,W01,W0x,W0t];rfl
  rw [W1x (by rw [e];decide),e];exact sR))
 <| fun q6=>have q6:=notF q6;have p6:=booT q6;.u 3 [b2]<|
 .lm 63 n.l entA<|.r 2<|.br 65 (decide ((n.l.length:Int)>0)) (fun q7=>have p7:=decT q7;.u 3 [b1,b3]<|
 .f (.tup [.agg (fsyA (if Qaw f d s n=0 then addF f d s (addN f n) else f)),aI (Qaw f d s n)]) [b3] (.tup [.agg (fsyA f),aI 1]) (by
  have e:Qaw f d s n=1:=by
   unfold Qaw;rw [Qaz (bneF q1)];rw [Qaz (bneF q2)];rw [Qaz (by simp only [q3,W02,W0u,W04,W01,W0x,W0t];rfl)];rw [Qaz (by simp only [q4,q5,W02,W0u,W04,W01,W0x,W0t];rfl)];rw [Qde (by simp only [q6,q7,W02,W0u,W04,W01,W0x,W0t];decide)];simp only [q6,q7,W02,W0u,W04,W01,W0x,W0t];rfl
  rw [W1x (by rw [e];decide),e];exact sR))
 <| fun q7=>have p7:=decF q7;have hnl:n.l=[]:=W0l (by omega);.ord [0,1,2,3,4,6,5,7,8,9]<|.u 6 [b1,b2,b2]<|
 .call (Qcb f d s f.next okf hp hs)<|
 .cs (args0:=[.agg [.sl 5 false ((enterF f d s f.next).l.map nodA),aI ((enterF f d s f.next).next)],.agg [aI f.next,aI n.kind,aI 1,aS n.text,.sl 2 false (n.l.map entA)]]) (Qd4 (enterF f d s f.next) (Qbr (addN f n) []) ⟨okf.1,hx⟩ (by have:=Qm6 f d s f.next;omega) (Qjf hp d s f.next)) ⟨sR,W2t ⟨sR,sR,sR,sR,W2p (by rw [hnl];rfl),trivial⟩,trivial⟩<|
 .u 2 [b3]<|
 .f (.tup [.agg (fsyA (if Qaw f d s n=0 then addF f d s (addN f n) else f)),aI (Qaw f d s n)]) [b3] (.tup [.agg [.sl 5 false ((putF (enterF f d s f.next) (Qbr (addN f n) [])).l.map nodA),aI ((putF (enterF f d s f.next) (Qbr (addN f n) [])).next)],aI 0]) (by
  have e:Qaw f d s n=0:=by
   unfold Qaw;rw [Qaz (bneF q1)];rw [Qaz (bneF q2)];rw [Qaz (by simp only [q3,W02,W0u,W04,W01,W0x,W0t];rfl)];rw [Qaz (by simp only [q4,q5,W02,W0u,W04,W01,W0x,W0t];rfl)];rw [Qaz (by simp only [q6,q7,W02,W0u,W04,W01,W0x,W0t];rfl)];rfl
  rw [W1y e,e];exact sR))
theorem Zbm (f:Fsy) (d:Int) (s:Txt) (i:Int) (okf:OkF f) (hp:Qan f) (hs:s.length≤1000000):Qai prog 73 [.agg (fsyA f),aI d,aS s,aI i] (.tup [.agg (fsyA (Qcz f d s i)),aI (Qa5 f d s i)]):=by
 have hl:=hp.1;have hr:=Qaf hp;have hlk:=Qes hp i;exact Qae func73 (
 .new fun b1=>.new fun b2=>.r 1<|.u 2 [b1]<|
 .call (Qh7 f d hp)<|
 .r 3<|.new fun b3=>.u 2 [b3]<|
 .r 2<|.br 24 ((dirE f d) != 0) (fun q1=>have p1:=bneT q1;.u 4 [b1,b2]<|
 .f (.tup [.agg (fsyA (Qcz f d s i)),aI (Qa5 f d s i)]) [b2] (.tup [.agg (fsyA f),aI (dirE f d)]) (by
  have e:Qa5 f d s i=dirE f d:=by
   unfold Qa5;rw [Qde (bneT q1)]
  rw [show Qcz f d s i=f from W1x (by rw [e];exact bneT q1),e];exact sR))
 <| fun q1=>have p1:=bneF q1;.u 2 [b1]<|
 .call (Qa2 f i (by omega))<|
 .r 3<|.new fun b4=>.u 2 [b4]<|
 .r 2<|.br 34 (!(Qav f i)) (fun q2=>have q2:=notT q2;have p2:=booF q2;.u 3 [b1,b2]<|
 .f (.tup [.agg (fsyA (Qcz f d s i)),aI (Qa5 f d s i)]) [b2] (.tup [.agg (fsyA f),aI 6]) (by
  have e:Qa5 f d s i=6:=by
   unfold Qa5;rw [Qaz (bneF q1)];rw [Qde (by simp only [q2,W02,W0u,W04,W01,W0x,W0t];decide)];simp only [q2,W02,W0u,W04,W01,W0x,W0t];rfl
  rw [show Qcz f d s i=f from W1x (by rw [e];decide),e];exact sR))
 <| fun q2=>have q2:=notF q2;have p2:=booT q2;.u 3 [b4]<|
 .br 38 (((Qaa f i).kind)==2) (fun q3=>have p3:=beqT q3;.u 3 [b1,b2]<|
 .f (.tup [.agg (fsyA (Qcz f d s i)),aI (Qa5 f d s i)]) [b2] (.tup [.agg (fsyA f),aI 9]) (by
  have e:Qa5 f d s i=9:=by
   unfold Qa5;rw [Qaz (bneF q1)];rw [Qaz (by simp only [q2,W02,W0u,W04,W01,W0x,W0t];rfl)];rw [Qde (by simp only [q3,W02,W0u,W04,W01,W0x,W0t];decide)];simp only [q3,W02,W0u,W04,W01,W0x,W0t];rfl
  rw [show Qcz f d s i=f from W1x (by rw [e];decide),e];exact sR))
 <| fun q3=>have p3:=beqF q3;.r 1<|.call (Qep s (by omega))<|
 .r 1<|.r 2<|.br 43 ((Qak s) != 0) (fun q4=>have p4:=bneT q4;.u 4 [b1,b2]<|
 .f (.tup [.agg (fsyA (Qcz f d s i)),aI (Qa5 f d s i)]) [b2] (.tup [.agg (fsyA f),aI (Qak s)]) (by
  have e:Qa5 f d s i=Qak s:=by
   unfold Qa5;rw [Qaz (bneF q1)];rw [Qaz (by simp only [q2,W02,W0u,W04,W01,W0x,W0t];rfl)];rw [Qaz (by simp only [q3,W02,W0u,W04,W01,W0x,W0t];rfl)];rw [Qde (bneT q4)]
  rw [show Qcz f d s i=f from W1x (by rw [e];exact bneT q4),e];exact sR))
 <| fun q4=>have p4:=bneF q4;.u 3 [b3]<|
 .call (Qen (dirN f d).l s (by have:=(Qdo hp d).2;omega))<|
 .r 5<|.r 1<|.br 53 (isB (dirN f d).l s) (fun q5=>have p5:=booT q5;.u 3 [b1,b2]<|
 .f (.tup [.agg (fsyA (Qcz f d s i)),aI (Qa5 f d s i)]) [b2] (.tup [.agg (fsyA f),aI 7]) (by
  have e:Qa5 f d s i=7:=by
   unfold Qa5;rw [Qaz (bneF q1)];rw [Qaz (by simp only [q2,W02,W0u,W04,W01,W0x,W0t];rfl)];rw [Qaz (by simp only [q3,W02,W0u,W04,W01,W0x,W0t];rfl)];rw [Qaz (bneF q4)];rw [Qde (by simp only [q5,W02,W0u,W04,W01,W0x,W0t];decide)];simp only [q5,W02,W0u,W04,W01,W0x,W0t];rfl
  rw [show Qcz f d s i=f from W1x (by rw [e];decide),e];exact sR))
 <| fun q5=>have p5:=booF q5;.u 3 [b3]<|
 .lm 57 ((dirN f d).l) entA<|.r 2<|.br 59 (decide ((((dirN f d).l).length:Int)≥256)) (fun q6=>have p6:=decT q6;.r 4<|.u 3 [b1,b2]<|
 .f (.tup [.agg (fsyA (Qcz f d s i)),aI (Qa5 f d s i)]) [b2] (.tup [.agg (fsyA f),aI 12]) (by
  have e:Qa5 f d s i=12:=by
   unfold Qa5;rw [Qaz (bneF q1)];rw [Qaz (by simp only [q2,W02,W0u,W04,W01,W0x,W0t];rfl)];rw [Qaz (by simp only [q3,W02,W0u,W04,W01,W0x,W0t];rfl)];rw [Qaz (bneF q4)];rw [Qaz (by simp only [q5,W02,W0u,W04,W01,W0x,W0t];rfl)];rw [Qde (by simp only [q6,W02,W0u,W04,W01,W0x,W0t];decide)];simp only [q6,W02,W0u,W04,W01,W0x,W0t];rfl
  rw [show Qcz f d s i=f from W1x (by rw [e];decide),e];exact sR))
 <| fun q6=>have p6:=decF q6;.u 4 [b4]<|
 .br 63 (decide (((Qaa f i).links)≥64)) (fun q7=>have p7:=decT q7;.u 3 [b1,b2]<|
 .f (.tup [.agg (fsyA (Qcz f d s i)),aI (Qa5 f d s i)]) [b2] (.tup [.agg (fsyA f),aI 12]) (by
  have e:Qa5 f d s i=12:=by
   unfold Qa5;rw [Qaz (bneF q1)];rw [Qaz (by simp only [q2,W02,W0u,W04,W01,W0x,W0t];rfl)];rw [Qaz (by simp only [q3,W02,W0u,W04,W01,W0x,W0t];rfl)];rw [Qaz (bneF q4)];rw [Qaz (by simp only [q5,W02,W0u,W04,W01,W0x,W0t];rfl)];rw [Qde (by simp only [q6,q7,W02,W0u,W04,W01,W0x,W0t];decide)];simp only [q6,q7,W02,W0u,W04,W01,W0x,W0t];rfl
  rw [show Qcz f d s i=f from W1x (by rw [e];decide),e];exact sR))
 <| fun q7=>have p7:=decF q7;.run 5 [b4=b4,rng .i64 (((Qaa f i).links)+1),b4=b4] ⟨rfl,Qah,rfl,trivial⟩<|
 .ord [0,1,2,3,5,4,6,7,8]<|.u 5 [b1,b4]<|
 .call (Qcb f d s i okf hp hs)<|
 .cs (args0:=[.agg [.sl 5 false ((enterF f d s i).l.map nodA),aI ((enterF f d s i).next)],.agg [aI ((Qaa f i).ino),aI ((Qaa f i).kind),aI (((Qaa f i).links)+1),aS ((Qaa f i).text),.sl 2 false ((Qaa f i).l.map entA)]]) (Qd4 (enterF f d s i) (Qjn (Qaa f i)) (Qcg okf hp i) (by have:=Qm6 f d s i;omega) (Qjf hp d s i)) sr2<|
 .u 2 [b2]<|
 .f (.tup [.agg (fsyA (Qcz f d s i)),aI (Qa5 f d s i)]) [b2] (.tup [.agg [.sl 5 false ((putF (enterF f d s i) (Qjn (Qaa f i))).l.map nodA),aI ((putF (enterF f d s i) (Qjn (Qaa f i))).next)],aI 0]) (by
  have e:Qa5 f d s i=0:=by
   unfold Qa5;rw [Qaz (bneF q1)];rw [Qaz (by simp only [q2,W02,W0u,W04,W01,W0x,W0t];rfl)];rw [Qaz (by simp only [q3,W02,W0u,W04,W01,W0x,W0t];rfl)];rw [Qaz (bneF q4)];rw [Qaz (by simp only [q5,W02,W0u,W04,W01,W0x,W0t];rfl)];rw [Qaz (by simp only [q6,q7,W02,W0u,W04,W01,W0x,W0t];rfl)];rfl
  rw [show Qcz f d s i=Qea f d s i (Qaa f i) from W1y e,e];exact sR))
end Go.Proofs.YtahlldgocpabjaaGreat

namespace Go.Proofs.YtahlldgocpabjaaGreat
open Go Go.RowKit Copyhold Go.Proofs.Tryz
open Copyhold.Name (Srt insE delE getE isAt)
theorem Zdf {f:Fsy} {d:Int} {s:Txt} (okf:OkF f) (hp:Qan f) (h:Qa4 f d s=0) (hz:¬ ((lookN f d s).l.length:Int)>0) :
  OkF (leaveF f d s)∧Qan (leaveF f d s)∧Qod (leaveF f d s) (lookN f d s).ino=Qbm f d s (lookN f d s)∧Qbd f d s=0:=by
 obtain ⟨e,j,n,a1,a2,a3,a4,a5⟩:=(Qi8 hp).1 h;have hn:=(Qfm a1 a2 a3 a4 a5).2;rw [hn] at hz ⊢;have hnl:n.l=[]:=W0l (by omega);have hnj:=Qc7 a5;have hne:¬ j=d:=fun ej=>by
  rw [ej,a1] at a5;obtain rfl:=W0c a5;rw [hnl] at a4;cases a4
 obtain ⟨l1,l2,l3,l4,l5⟩:=Qd8 (s:=s) okf hp a1 a2;have hfl:Qdd n=false:=by unfold Qdd;rw [hnl];simp
 refine ⟨l1,l2,Quj ?_,?_⟩
 ·refine (Qfr ?_).2;rw [hnj,l5,W1x hne];exact a5
 ·unfold Qbd;rw [Qqk,W1y h,hn,hfl];rfl
theorem Zdg {f:Fsy} {d:Int} {s:Txt} (hp:Qan f) (h:Qa4 f d s=0) (hz:((lookN f d s).l.length:Int)>0):Qbd f d s=11:=by
 obtain ⟨e,j,n,a1,a2,a3,a4,a5⟩:=(Qi8 hp).1 h;have hn:=(Qfm a1 a2 a3 a4 a5).2;unfold Qbd;rw [Qqk,W1y h];rw [hn] at hz ⊢;have hk:n.kind=2:=by
  by_cases hk:n.kind=2
  ·exact hk
  ·rw [Qgz (Qbh hp a5).1 hk] at hz;simp at hz
 unfold Qdd Qag;rw [hk,decide_eq_true hz];rfl
theorem Zis {f:Fsy} {d:Int} {s:Txt} (h:¬ Qa4 f d s=0):Qbd f d s=Qa4 f d s:=by unfold Qbd;rw [Qqk,W1x h]
theorem Qpz (f:Fsy) (d:Int) (s:Txt) (okf:OkF f) (hp:Qan f) (hs:s.length≤1000000):Qai prog 121 [.agg (fsyA f),aI d,aS s] (.tup [.agg (fsyA (Qdm f d s)),aI (Qbd f d s)]):=by
 have hl:=hp.1;have hr:=Qaf hp;exact Qae func121 (
 .new fun b1=>.new fun b2=>.r 1<|.u 3 [b1]<|
 .call (Qeo f d s hp hs)<|
 .r 3<|.new fun b3=>.u 2 [b3]<|
 .r 2<|.br 18 ((Qa4 f d s) != 0) (fun q1=>have p1:=bneT q1;.u 4 [b1,b2]<|
 .f (.tup [.agg (fsyA (Qdm f d s)),aI (Qbd f d s)]) [b2] (.tup [.agg (fsyA f),aI (Qa4 f d s)]) (by
  have e:=Zis (bneT q1);have e2:Qdm f d s=f:=W1x (by rw [e];exact bneT q1);rw [e2,e];exact sR))
 <| fun q1=>have p1:=bneF q1;have h0:Qa4 f d s=0:=bneF q1;.u 3 [b3]<|
 .lm 23 ((lookN f d s).l) entA<|.r 1<|.bd 24 ((((lookN f d s).l).length:Int)>0) (fun p2=>.u 3 [b1,b2]<|
 .f (.tup [.agg (fsyA (Qdm f d s)),aI (Qbd f d s)]) [b2] (.tup [.agg (fsyA f),aI 11]) (by
  have e:=Zdg hp h0 (by omega);have e2:Qdm f d s=f:=W1x (by rw [e];decide);rw [e2,e];exact sR))
 <| fun p2=>have htl:=Zdf okf hp h0 (by omega);.ord [0,1,2,4,5,3,6,7,8]<|.u 5 [b1,b3]<|
 .call (Qcr f d s okf hp hs)<|
 .call (Qlq (leaveF f d s) (lookN f d s).ino htl.1 htl.2.1)<|
 .u 2 [b2]<|
 .f (.tup [.agg (fsyA (Qdm f d s)),aI (Qbd f d s)]) [b2] (.tup [.agg [.sl 5 false ((Qod (leaveF f d s) (lookN f d s).ino).l.map nodA),aI ((Qod (leaveF f d s) (lookN f d s).ino).next)],aI 0]) (by
  have e2:Qdm f d s=Qbm f d s (lookN f d s):=W1y htl.2.2.2;rw [e2,htl.2.2.2,← htl.2.2.1];exact sR))
end Go.Proofs.YtahlldgocpabjaaGreat

namespace Go.Proofs.YtahlldgocpabjaaGreat
open Go Go.RowKit Copyhold Go.Proofs.Tryz
def midF (f:Fsy):Prop:=f.l.length+(f.l.map wN).sum≤1000
theorem Dst.leM {f:Fsy} {U:List Int} (h:Dst f U) (hf:midF f):U.length≤1000:=by
 have:=Qrq h.1 h.2;rw [Qzq] at this;unfold midF at hf;omega
theorem UH.stepM {f:Fsy} {i:Int} {U:List Int} {p j:Nat} {z:Int} (hf:midF f) (h:UH f i U p) (hz:U[p]?=some z) (hj:(Qaa f z).l.length≤j):UH f i (addE U ((Qaa f z).l.take j)) (p+1):=by
 obtain ⟨h1,h2,h3⟩:=h;have hp:=Qap hz;have hl:=h1.leM hf;refine ⟨Qd0 h1 z j,by have:=Zaq ((Qaa f z).l.take j) U;omega,?_⟩;rw [Qat hj,← h3,show 1300-p=(1300-(p+1))+1 from by omega];simp only [goU,hz]
theorem Qtf {f:Fsy} (hf:midF f) (i:Int):(Qda f i).length≤1000:=
 (Zgn 1300 0 (Qf5 (Dst.nil f) fun e he=>Qf4 he)).leM hf
theorem Zho {f:Fsy} (hf:midF f) (i:Int) (k:Nat):((f.l.take k).map (cntE i)).sum≤1000:=by
 have:=Zhn i f.l;have:=Qfh (cntE i) f.l k;unfold midF at hf;omega
theorem Qxc (f:Fsy) (i:Int) (okf:OkF f) (hf:midF f):Qai prog 86 [.agg (fsyA f),aI i] (aI (Qqc f i:Int)):=by
 have hfl:=okf.2.1;exact Qae func86 (
 .new fun b1=>.r 1<|.r 1<|.r 1<|let L1:Lp (Nat):=⟨fun a1=>⟨[(1,aI i),(2,.ptr 2 b1 0),(6,aI (a1:Int)),(5,aI (((f.l.take a1).map (cntE i)).sum:Int))],[(2,.box b1 28 (fsyA f))]⟩,fun a1=>f.l.length-a1,fun a1=>a1≤f.l.length⟩
 .lp L1 0 (show 0≤f.l.length from W0j _) [(6,aI 0),(5,aI 0)] [] ⟨sR,sR,sO,sO,trivial⟩ bb1 fun a1 ha1=>
 (fun (k:Nat) (hH1:k≤f.l.length)=>have hs1:=Zho hf i k;.u 4 [b1]<|
 .lm 11 f.l nodA<|.r 1<|.bd 12 ((k:Int)<(f.l.length:Int)) (fun p1=>.r 1<|.ex (Qdt (l:=f.l) (k:=k) (by omega)) fun x1 hx1=>
 have okx1:=okf.2.2 x1 (W0h hx1);have blx1:=okx1.2.2.2.2.1;let L2:Lp (Nat):=⟨fun a2=>⟨[(1,aI i),(2,.ptr 2 b1 0),(6,aI (k:Int)),(7,aI (a2:Int)),(5,aI ((((f.l.take k).map (cntE i)).sum+cntK i x1.l a2:Nat):Int))],[(2,.box b1 28 (fsyA f))]⟩,fun a2=>x1.l.length-a2,fun a2=>a2≤x1.l.length⟩
 .lp L2 0 (show 0≤x1.l.length from W0j _) [(7,aI 0),(5,aI (((f.l.take k).map (cntE i)).sum:Int))] [] ⟨sR,sR,sR,sO,W2p (W1z aI (by simp [cntK])),trivial⟩ bb1 fun a2 ha2=>
 (fun (j:Nat) (hH2:j≤x1.l.length)=>have hs2:=Zoy i x1.l j;.u 4 [b1]<|
 .idx k (m:=(k:Int)) (xs:=f.l.map nodA) (e:=nodA x1) rfl (map_some hx1)<|
 .r 3<|.lm 22 x1.l entA<|.r 1<|.bd 23 ((j:Int)<(x1.l.length:Int)) (fun p2=>.u 3 [b1]<|
 .idx k (m:=(k:Int)) (xs:=f.l.map nodA) (e:=nodA x1) rfl (map_some hx1)<|
 .r 3<|.idxM x1.l entA j (m:=(j:Int)) rfl (by omega) fun x2 hx2=>
 .r 4<|.br 37 (x2.ino==i) (fun q3=>have p3:=beqT q3;.run 3 [rng .i64 (((((f.l.take k).map (cntE i)).sum+cntK i x1.l j:Nat):Int)+1)] ⟨Qah,trivial⟩<|
 .run 3 [rng .i64 ((j:Int)+1)] ⟨Qah,trivial⟩<|
 .bk L2 j (j+1) (show (j+1)≤x1.l.length from (by show _≤_;omega)) (show x1.l.length-(j+1)<x1.l.length-j from (by omega)) [(7,aI ((j:Int)+1)),(5,aI (((((f.l.take k).map (cntE i)).sum+cntK i x1.l j:Nat):Int)+1))] [] ⟨sR,sR,sR,sO,W2p (W1z aI (by rw [Zlb hx2 q3]<;>omega)),trivial⟩ bb1)
 <| fun q3=>have p3:=beqF q3;.run 3 [rng .i64 ((j:Int)+1)] ⟨Qah,trivial⟩<|
 .bk L2 j (j+1) (show (j+1)≤x1.l.length from (by show _≤_;omega)) (show x1.l.length-(j+1)<x1.l.length-j from (by omega)) [(7,aI ((j:Int)+1)),(5,aI ((((f.l.take k).map (cntE i)).sum+cntK i x1.l j:Nat):Int))] [] ⟨sR,sR,sR,sO,W2p (W1z aI (by rw [Zox hx2 q3]<;>omega)),trivial⟩ bb1)
 <| fun p2=>.run 3 [rng .i64 ((k:Int)+1)] ⟨Qah,trivial⟩<|
 .bk L1 k (k+1) (show (k+1)≤f.l.length from (by show _≤_;omega)) (show f.l.length-(k+1)<f.l.length-k from (by omega)) [(6,aI ((k:Int)+1)),(5,aI ((((f.l.take k).map (cntE i)).sum+cntK i x1.l j:Nat):Int))] [] ⟨sR,sR,sO,W2p (W1z aI (by rw [Qmw (cntE i) hx1,← Zlc (i:=i) (n:=x1) (j:=j) (by omega)]<;>omega)),trivial⟩ bb1) a2 ha2)
 <| fun p1=>.r 2<|.f (aI (Qqc f i:Int)) [] (aI (((f.l.take k).map (cntE i)).sum:Int)) (by exact W2p (W1z aI (by rw [Qat (by omega)];rfl)))) a1 ha1)
theorem Qnd (f:Fsy) (i:Int) (okf:OkF f) (hf:midF f):Qai prog 85 [.agg (fsyA f),aI i] (.sl 1 false ((Qda f i).map intA)):=by
 have hfl:=okf.2.1;have hfb:=fun i=>(Qed okf i).2.2.2.2.1;exact Qae func85 (
 .new fun b1=>.r 1<|.r 1<|.rowNil 5 5 3 1<|.u 2 [b1]<|
 .call (Qa2 f i (by omega))<|
 .r 3<|.new fun b2=>.u 2 [b2]<|
 .r 1<|let L1:Lp (Nat × Value):=⟨fun a1=>⟨[(2,.ptr 2 b1 0),(6,.ptr 6 b2 0),(8,aI (a1.1:Int)),(5,.rw 5 a1.2 ((addE [] ((Qaa f i).l.take a1.1)).length))],[(2,.box b1 28 (fsyA f)),(5,.row a1.2 3 1 ((addE [] ((Qaa f i).l.take a1.1)).map intA)),(6,.box b2 84 [aI ((Qaa f i).ino),aI ((Qaa f i).kind),aI ((Qaa f i).links),aS ((Qaa f i).text),.sl 2 false ((Qaa f i).l.map entA)])]⟩,fun a1=>(Qaa f i).l.length-a1.1,fun a1=>a1.1≤(Qaa f i).l.length⟩
 .lp L1 (0,(.slice none 0 0)) (show 0≤(Qaa f i).l.length from W0j _) [(8,aI 0),(5,.rw 5 (.slice none 0 0) 0)] [(5,.row (.slice none 0 0) 3 1 ([]))] ⟨sR,sR,sO,W2p (W1z (AV.rw 5 (.slice none 0 0)) (by simp [addE])),trivial⟩ ⟨sB,⟨_,rfl,W2q (by simp [addE])⟩,sB,trivial⟩ fun a1 ha1=>
 (fun (j:Nat) (V:Value) (hH1:j≤(Qaa f i).l.length)=>have hd1:=(Qd0 (Dst.nil f) i j).leM hf;have hb1:=hfb i;.u 4 [b2]<|
 .lm 24 ((Qaa f i).l) entA<|.r 1<|.bd 25 ((j:Int)<(((Qaa f i).l).length:Int)) (fun p1=>.u 4 [b2]<|
 .idxM ((Qaa f i).l) entA j (m:=(j:Int)) rfl (by omega) fun x1 hx1=>
 .r 2<|.op (cbR prog 5) ((87,[.rw 5 V ((addE [] ((Qaa f i).l.take j)).length),aI x1.ino],some 35),(V,3,1,(addE [] ((Qaa f i).l.take j)).map intA)) (fun (_:Unit) σ=>σ.put (some 35) (aB (hasB (addE [] ((Qaa f i).l.take j)) x1.ino))) (Qnq (args':=[.sl 1 false ((addE [] ((Qaa f i).l.take j)).map intA),aI x1.ino]) ⟨Fz.row _ _ _ _ _ _ (by first | rfl | (simp;done) | (simp;omega)),Fz.refl _ _,trivial⟩ (Qkz (addE [] ((Qaa f i).l.take j)) x1.ino (by omega)) rfl) fun _=>
 .r 1<|.r 2<|.br 37 (!(hasB (addE [] ((Qaa f i).l.take j)) x1.ino)) (fun q2=>have q2:=notT q2;have p2:=booF q2;.u 4 [b2]<|
 .idx j (m:=(j:Int)) (xs:=(Qaa f i).l.map entA) (e:=entA x1) rfl (map_some hx1)<|
 .r 3<|.app 8 V ((addE [] ((Qaa f i).l.take j)).map intA) ([[aI x1.ino]]) (by simp only [W0a,W0b,W0f];omega) (by simp only [W0a,W0b,W0f];omega) fun V1=>
 .r 1<|.run 3 [rng .i64 ((j:Int)+1)] ⟨Qah,trivial⟩<|
 .bk L1 (j,V) ((j+1),V1) (show (j+1)≤(Qaa f i).l.length from (by show _≤_;omega)) (show (Qaa f i).l.length-(j+1)<(Qaa f i).l.length-j from (by omega)) [(8,aI ((j:Int)+1)),(5,.rw 5 V1 (((addE [] ((Qaa f i).l.take j)).map intA).length+([[aI x1.ino]]:List (List AV)).length))] [(5,.row V1 3 1 (((addE [] ((Qaa f i).l.take j)).map intA)++([[aI x1.ino]])))] ⟨sR,sR,sO,W2p (W1z (AV.rw 5 V1) (by rw [Qma hx1 q2];simp)),trivial⟩ ⟨sB,⟨_,rfl,W2q (by rw [Qma hx1 q2];simp [intA])⟩,sB,trivial⟩)
 <| fun q2=>have q2:=notF q2;have p2:=booT q2;.run 3 [rng .i64 ((j:Int)+1)] ⟨Qah,trivial⟩<|
 .bk L1 (j,V) ((j+1),V) (show (j+1)≤(Qaa f i).l.length from (by show _≤_;omega)) (show (Qaa f i).l.length-(j+1)<(Qaa f i).l.length-j from (by omega)) [(8,aI ((j:Int)+1)),(5,.rw 5 V ((addE [] ((Qaa f i).l.take j)).length))] [(5,.row V 3 1 ((addE [] ((Qaa f i).l.take j)).map intA))] ⟨sR,sR,sO,W2p (W1z (AV.rw 5 V) (by rw [Qjk hx1 q2])),trivial⟩ ⟨sB,⟨_,rfl,W2q (by rw [Qjk hx1 q2])⟩,sB,trivial⟩)
 <| fun p1=>.r 1<|let L2:Lp (Nat × List Int × Value):=⟨fun a2=>⟨[(2,.ptr 2 b1 0),(10,aI (a2.1:Int)),(5,.rw 5 a2.2.2 a2.2.1.length)],[(2,.box b1 28 (fsyA f)),(5,.row a2.2.2 3 1 (a2.2.1.map intA))]⟩,fun a2=>1300-a2.1,fun a2=>UH f i a2.2.1 a2.1⟩
 .lp L2 (0,(addE [] ((Qaa f i).l.take j)),V) (show UH f i (addE [] ((Qaa f i).l.take j)) 0 from (UH.zero f i (by omega))) [(10,aI 0)] [] ⟨sR,sO,sR,trivial⟩ bb2 fun a2 ha2=>
 (fun (p:Nat) (U:List Int) (V:Value) (hH2:UH f i U p)=>have hu2:=hH2.1.leM hf;have hp2:=hH2.2.1;.r 4<|.bd 50 ((p:Int)<(U.length:Int)) (fun p3=>.st (rowR 5) (V,3,1,U.map intA) (fun _ σ=>σ) (Qcd 5 (by first | omega | (rw [W0a];omega) | (simp<;>omega))) fun a3r=>
 .pick [0,1,2,3,4]<|.u 3 [b1]<|
 .op (ixR prog) (5,V,U.length,1,(p:Int),some 57) (fun (_:Unit) σ=>σ.put (some 57) (.ep 5 V 1 p 0)) (Qfy p a3r.2.1 (by omega) (by first | omega | (rw [W0a];omega) | (simp<;>omega))) fun _=>
 .ex (Qdt (l:=U) (k:=p) (by first | omega | (rw [W0a];omega) | (simp<;>omega))) fun x2 hx2=>
 .op (ldR prog) (V,1,p,0,V,1,U.map intA,3,some 58) (fun (_:Unit) σ=>σ.put (some 58) (aI x2)) (Qq5 (intA x2) (map_some hx2) (by kernel_rfl)) fun _=>
 .fork<|.alt (.call (Qa2 f x2 (by omega))<|
 .pick [6,7,8,9,10,11]<|.r 3<|.new fun b4=>.u 2 [b4]<|
 .r 1<|let L3:Lp (Nat × Value):=⟨fun a3=>⟨[(2,.ptr 2 b1 0),(10,aI (p:Int)),(11,.ptr 11 b4 0),(13,aI (a3.1:Int)),(5,.rw 5 a3.2 ((addE U ((Qaa f x2).l.take a3.1)).length))],[(2,.box b1 28 (fsyA f)),(5,.row a3.2 3 1 ((addE U ((Qaa f x2).l.take a3.1)).map intA)),(11,.box b4 84 [aI ((Qaa f x2).ino),aI ((Qaa f x2).kind),aI ((Qaa f x2).links),aS ((Qaa f x2).text),.sl 2 false ((Qaa f x2).l.map entA)])]⟩,fun a3=>(Qaa f x2).l.length-a3.1,fun a3=>a3.1≤(Qaa f x2).l.length⟩
 .lp L3 (0,V) (show 0≤(Qaa f x2).l.length from W0j _) [(13,aI 0),(5,.rw 5 V U.length)] [(5,.row V 3 1 (U.map intA))] ⟨sR,sR,sR,sO,W2p (W1z (AV.rw 5 V) (by simp [addE])),trivial⟩ ⟨sB,⟨_,rfl,W2q (by simp [addE])⟩,sB,trivial⟩ fun a3 ha3=>
 (fun (j:Nat) (Y:Value) (hH3:j≤(Qaa f x2).l.length)=>have hd3:=(Qd0 hH2.1 x2 j).leM hf;have hb3:=hfb x2;.u 4 [b4]<|
 .lm 65 ((Qaa f x2).l) entA<|.r 1<|.bd 66 ((j:Int)<(((Qaa f x2).l).length:Int)) (fun p4=>.u 4 [b4]<|
 .idxM ((Qaa f x2).l) entA j (m:=(j:Int)) rfl (by omega) fun x3 hx3=>
 .r 2<|.op (cbR prog 5) ((87,[.rw 5 Y ((addE U ((Qaa f x2).l.take j)).length),aI x3.ino],some 76),(Y,3,1,(addE U ((Qaa f x2).l.take j)).map intA)) (fun (_:Unit) σ=>σ.put (some 76) (aB (hasB (addE U ((Qaa f x2).l.take j)) x3.ino))) (Qnq (args':=[.sl 1 false ((addE U ((Qaa f x2).l.take j)).map intA),aI x3.ino]) ⟨Fz.row _ _ _ _ _ _ (by first | rfl | (simp;done) | (simp;omega)),Fz.refl _ _,trivial⟩ (Qkz (addE U ((Qaa f x2).l.take j)) x3.ino (by omega)) rfl) fun _=>
 .r 1<|.r 2<|.br 78 (!(hasB (addE U ((Qaa f x2).l.take j)) x3.ino)) (fun q5=>have q5:=notT q5;have p5:=booF q5;.u 4 [b4]<|
 .idx j (m:=(j:Int)) (xs:=(Qaa f x2).l.map entA) (e:=entA x3) rfl (map_some hx3)<|
 .r 3<|.app 8 Y ((addE U ((Qaa f x2).l.take j)).map intA) ([[aI x3.ino]]) (by simp only [W0a,W0b,W0f];omega) (by simp only [W0a,W0b,W0f];omega) fun V2=>
 .r 1<|.run 3 [rng .i64 ((j:Int)+1)] ⟨Qah,trivial⟩<|
 .bk L3 (j,Y) ((j+1),V2) (show (j+1)≤(Qaa f x2).l.length from (by show _≤_;omega)) (show (Qaa f x2).l.length-(j+1)<(Qaa f x2).l.length-j from (by omega)) [(13,aI ((j:Int)+1)),(5,.rw 5 V2 (((addE U ((Qaa f x2).l.take j)).map intA).length+([[aI x3.ino]]:List (List AV)).length))] [(5,.row V2 3 1 (((addE U ((Qaa f x2).l.take j)).map intA)++([[aI x3.ino]])))] ⟨sR,sR,sR,sO,W2p (W1z (AV.rw 5 V2) (by rw [Qma hx3 q5];simp)),trivial⟩ ⟨sB,⟨_,rfl,W2q (by rw [Qma hx3 q5];simp [intA])⟩,sB,trivial⟩)
 <| fun q5=>have q5:=notF q5;have p5:=booT q5;.run 3 [rng .i64 ((j:Int)+1)] ⟨Qah,trivial⟩<|
 .bk L3 (j,Y) ((j+1),Y) (show (j+1)≤(Qaa f x2).l.length from (by show _≤_;omega)) (show (Qaa f x2).l.length-(j+1)<(Qaa f x2).l.length-j from (by omega)) [(13,aI ((j:Int)+1)),(5,.rw 5 Y ((addE U ((Qaa f x2).l.take j)).length))] [(5,.row Y 3 1 ((addE U ((Qaa f x2).l.take j)).map intA))] ⟨sR,sR,sR,sO,W2p (W1z (AV.rw 5 Y) (by rw [Qjk hx3 q5])),trivial⟩ ⟨sB,⟨_,rfl,W2q (by rw [Qjk hx3 q5])⟩,sB,trivial⟩)
 <| fun p4=>.run 3 [rng .i64 ((p:Int)+1)] ⟨Qah,trivial⟩<|
 .bk L2 (p,U,V) ((p+1),(addE U ((Qaa f x2).l.take j)),Y) (show UH f i (addE U ((Qaa f x2).l.take j)) (p+1) from (UH.stepM hf hH2 hx2 (by omega))) (show 1300-(p+1)<1300-p from (by omega)) [(10,aI ((p:Int)+1))] [] ⟨sR,sO,sR,trivial⟩ bb2) a3.1 a3.2 ha3)
 <| .new fun b5=>.pick [5,6,7,8,10,11]<|.call (Qa2 f x2 (by omega))<|
 .u 5 [b5]<|
 .r 1<|let L3:Lp (Nat × Value):=⟨fun a3=>⟨[(2,.ptr 2 b1 0),(10,aI (p:Int)),(11,.ptr 11 b5 0),(13,aI (a3.1:Int)),(5,.rw 5 a3.2 ((addE U ((Qaa f x2).l.take a3.1)).length))],[(2,.box b1 28 (fsyA f)),(5,.row a3.2 3 1 ((addE U ((Qaa f x2).l.take a3.1)).map intA)),(11,.box b5 84 [aI ((Qaa f x2).ino),aI ((Qaa f x2).kind),aI ((Qaa f x2).links),aS ((Qaa f x2).text),.sl 2 false ((Qaa f x2).l.map entA)])]⟩,fun a3=>(Qaa f x2).l.length-a3.1,fun a3=>a3.1≤(Qaa f x2).l.length⟩
 .lp L3 (0,V) (show 0≤(Qaa f x2).l.length from W0j _) [(13,aI 0),(5,.rw 5 V U.length)] [(5,.row V 3 1 (U.map intA))] ⟨sR,sR,sR,sO,W2p (W1z (AV.rw 5 V) (by simp [addE])),trivial⟩ ⟨sB,⟨_,rfl,W2q (by simp [addE])⟩,sB,trivial⟩ fun a3 ha3=>
 (fun (j:Nat) (Y:Value) (hH3:j≤(Qaa f x2).l.length)=>have hd3:=(Qd0 hH2.1 x2 j).leM hf;have hb3:=hfb x2;.u 4 [b5]<|
 .lm 65 ((Qaa f x2).l) entA<|.r 1<|.bd 66 ((j:Int)<(((Qaa f x2).l).length:Int)) (fun p6=>.u 4 [b5]<|
 .idxM ((Qaa f x2).l) entA j (m:=(j:Int)) rfl (by omega) fun x4 hx4=>
 .r 2<|.op (cbR prog 5) ((87,[.rw 5 Y ((addE U ((Qaa f x2).l.take j)).length),aI x4.ino],some 76),(Y,3,1,(addE U ((Qaa f x2).l.take j)).map intA)) (fun (_:Unit) σ=>σ.put (some 76) (aB (hasB (addE U ((Qaa f x2).l.take j)) x4.ino))) (Qnq (args':=[.sl 1 false ((addE U ((Qaa f x2).l.take j)).map intA),aI x4.ino]) ⟨Fz.row _ _ _ _ _ _ (by first | rfl | (simp;done) | (simp;omega)),Fz.refl _ _,trivial⟩ (Qkz (addE U ((Qaa f x2).l.take j)) x4.ino (by omega)) rfl) fun _=>
 .r 1<|.r 2<|.br 78 (!(hasB (addE U ((Qaa f x2).l.take j)) x4.ino)) (fun q7=>have q7:=notT q7;have p7:=booF q7;.u 4 [b5]<|
 .idx j (m:=(j:Int)) (xs:=(Qaa f x2).l.map entA) (e:=entA x4) rfl (map_some hx4)<|
 .r 3<|.app 8 Y ((addE U ((Qaa f x2).l.take j)).map intA) ([[aI x4.ino]]) (by simp only [W0a,W0b,W0f];omega) (by simp only [W0a,W0b,W0f];omega) fun V3=>
 .r 1<|.run 3 [rng .i64 ((j:Int)+1)] ⟨Qah,trivial⟩<|
 .bk L3 (j,Y) ((j+1),V3) (show (j+1)≤(Qaa f x2).l.length from (by show _≤_;omega)) (show (Qaa f x2).l.length-(j+1)<(Qaa f x2).l.length-j from (by omega)) [(13,aI ((j:Int)+1)),(5,.rw 5 V3 (((addE U ((Qaa f x2).l.take j)).map intA).length+([[aI x4.ino]]:List (List AV)).length))] [(5,.row V3 3 1 (((addE U ((Qaa f x2).l.take j)).map intA)++([[aI x4.ino]])))] ⟨sR,sR,sR,sO,W2p (W1z (AV.rw 5 V3) (by rw [Qma hx4 q7];simp)),trivial⟩ ⟨sB,⟨_,rfl,W2q (by rw [Qma hx4 q7];simp [intA])⟩,sB,trivial⟩)
 <| fun q7=>have q7:=notF q7;have p7:=booT q7;.run 3 [rng .i64 ((j:Int)+1)] ⟨Qah,trivial⟩<|
 .bk L3 (j,Y) ((j+1),Y) (show (j+1)≤(Qaa f x2).l.length from (by show _≤_;omega)) (show (Qaa f x2).l.length-(j+1)<(Qaa f x2).l.length-j from (by omega)) [(13,aI ((j:Int)+1)),(5,.rw 5 Y ((addE U ((Qaa f x2).l.take j)).length))] [(5,.row Y 3 1 ((addE U ((Qaa f x2).l.take j)).map intA))] ⟨sR,sR,sR,sO,W2p (W1z (AV.rw 5 Y) (by rw [Qjk hx4 q7])),trivial⟩ ⟨sB,⟨_,rfl,W2q (by rw [Qjk hx4 q7])⟩,sB,trivial⟩)
 <| fun p6=>.run 3 [rng .i64 ((p:Int)+1)] ⟨Qah,trivial⟩<|
 .bk L2 (p,U,V) ((p+1),(addE U ((Qaa f x2).l.take j)),Y) (show UH f i (addE U ((Qaa f x2).l.take j)) (p+1) from (UH.stepM hf hH2 hx2 (by omega))) (show 1300-(p+1)<1300-p from (by omega)) [(10,aI ((p:Int)+1))] [] ⟨sR,sO,sR,trivial⟩ bb2) a3.1 a3.2 ha3)
 <| fun p3=>.r 2<|.frz 5 [4] [] [V=V,U.length=(U.map intA).length] ⟨rfl,(by first | rfl | (simp;done) | (simp;omega)),trivial⟩<|
 .f (.sl 1 false ((Qda f i).map intA)) [] (.sl 1 false (U.map intA)) (by exact (W2p (by rw [UH.done hH2 (by omega)])).trans (W2r _ _ _))) a2.1 a2.2.1 a2.2.2 ha2) a1.1 a1.2 ha1)
theorem Qws (f:Fsy) (okf:OkF f) (hf:midF f):Qai prog 46 [.agg (fsyA f)] (aB (dP (Qmf f))):=by
 have hfl:=okf.2.1;have hul:=Qtf hf 1;exact Qae func46 (let R:AV:=aB (dP (Qmf f));
 .new fun b1=>.r 1<|.u 1 [b1]<|
 .call (Zbf f okf)<|
 .r 1<|.r 3<|.br 15 (!(dP (Qan f))) (fun q1=>have q1:=notT q1;have p1:=booF q1;.r 29<|.r 1<|.f R [] (aB false) (by
  refine sF (fun h=>?_);obtain ⟨g,⟨n,hn,a,b,c⟩,_⟩:=h
  first | exact Qad.1 (by assumption) g | (have:=Qap hn;omega)))
 <| fun q1=>have q1:=notF q1;have p1:=booT q1;.u 3 [b1]<|
 .lm 18 f.l nodA<|.r 3<|.br 21 (decide ((f.l.length:Int)<1)) (fun q2=>have p2:=decT q2;.r 23<|.r 1<|.f R [] (aB false) (by
  refine sF (fun h=>?_);obtain ⟨g,⟨n,hn,a,b,c⟩,_⟩:=h
  first | exact Qad.1 (by assumption) g | (have:=Qap hn;omega)))
 <| fun q2=>have p2:=decF q2;.u 2 [b1]<|
 .idxM f.l nodA 0 (m:=0) rfl (by omega) fun x1 hx1=>
 have okx1:=okf.2.2 x1 (W0h hx1);have blx1:=okx1.2.2.2.2.1;.r 5<|.br 29 (x1.ino != 1) (fun q3=>have p3:=bneT q3;.r 15<|.r 1<|.f R [] (aB false) (by
  refine sF (fun h=>?_);obtain ⟨g,⟨n,hn,a,b,c⟩,_⟩:=h
  first | exact Qad.1 (by assumption) g | (have:=Qap hn;omega)| (rw [hx1] at hn;obtain rfl:=W0c hn;omega)))
 <| fun q3=>have p3:=bneF q3;.u 2 [b1]<|
 .idx 0 (m:=0) (xs:=f.l.map nodA) (e:=nodA x1) rfl (map_some hx1)<|
 .r 5<|.br 37 (x1.kind != 2) (fun q4=>have p4:=bneT q4;.r 7<|.r 1<|.f R [] (aB false) (by
  refine sF (fun h=>?_);obtain ⟨g,⟨n,hn,a,b,c⟩,_⟩:=h
  first | exact Qad.1 (by assumption) g | (have:=Qap hn;omega)| (rw [hx1] at hn;obtain rfl:=W0c hn;omega)))
 <| fun q4=>have p4:=bneF q4;.u 2 [b1]<|
 .idx 0 (m:=0) (xs:=f.l.map nodA) (e:=nodA x1) rfl (map_some hx1)<|
 .r 4<|.br 44 (x1.links != 0) (fun q5=>have p5:=bneT q5;.r 1<|.f R [] (aB false) (by
  refine sF (fun h=>?_);obtain ⟨g,⟨n,hn,a,b,c⟩,_⟩:=h
  first | exact Qad.1 (by assumption) g | (have:=Qap hn;omega)| (rw [hx1] at hn;obtain rfl:=W0c hn;omega)))
 <| fun q5=>have p5:=bneF q5;.u 1 [b1]<|
 .call (Qnd f 1 okf hf)<|
 .r 1<|.r 1<|let L1:Lp (Nat):=⟨fun a1=>⟨[(1,.ptr 1 b1 0),(4,.sl 1 false ((Qda f 1).map intA)),(5,aI (a1:Int))],[(1,.box b1 28 (fsyA f))]⟩,fun a1=>f.l.length-a1,fun a1=>Qba (Qxb f) f.l a1⟩
 .lp L1 0 (show Qba (Qxb f) f.l 0 from (Qba.zero _ _)) [(5,aI 0)] [] ⟨sR,sR,sO,trivial⟩ bb1 fun a1 ha1=>
 (fun (k:Nat) (hH1:Qba (Qxb f) f.l k)=>.u 4 [b1]<|
 .lm 50 f.l nodA<|.r 1<|.br 51 (decide ((k:Int)<(f.l.length:Int))) (fun q6=>have p6:=decT q6;.u 3 [b1]<|
 .idxM f.l nodA k (m:=(k:Int)) rfl (by omega) fun x2 hx2=>
 have okx2:=okf.2.2 x2 (W0h hx2);have blx2:=okx2.2.2.2.2.1;.r 1<|.new fun b2=>.u 1 [b2]<|
 .ord [0,1,2,3,4,5,6]<|.u 5 [b2,b1,b2]<|
 .call (Qxc f x2.ino okf hf)<|
 .r 1<|.br 65 (x2.links != (Qqc f x2.ino:Int)) (fun q7=>have p7:=bneT q7;.r 1<|.f R [] (aB false) (by
  refine sF (fun h=>?_);have g:=(h.2.2.at hx2).1;omega))
 <| fun q7=>have p7:=bneF q7;.u 3 [b2]<|
 .call (Qkz (Qda f 1) x2.ino (by omega))<|
 .r 1<|.r 3<|.br 72 (decide ((k:Int)>0)) (fun q8=>have p8:=decT q8;.u 4 [b2]<|
 .br 76 (decide (x2.links<1)) (fun q9=>have p9:=decT q9;.r 14<|.r 1<|.f (aB (dP (Qmf f))) [] (aB false) (by
  refine sF (fun h=>?_);have g:=(h.2.2.at hx2).2.1;rw [show Qof f k x2=false from by unfold Qof;simp only [q8,q9,Bool.and_false,Bool.false_and,Bool.true_and,Bool.and_true,W01,W0u,W04,W02,W0x,W0t]] at g;cases g))
 <| fun q9=>have p9:=decF q9;.u 4 [b2]<|
 .br 80 (x2.kind==2) (fun q10=>have p10:=beqT q10;.u 4 [b2]<|
 .br 84 (decide (x2.links>1)) (fun q11=>have p11:=decT q11;.r 6<|.r 1<|.f (aB (dP (Qmf f))) [] (aB false) (by
  refine sF (fun h=>?_);have g:=(h.2.2.at hx2).2.1;rw [show Qof f k x2=false from by unfold Qof;simp only [q8,q9,q10,q11,Bool.and_false,Bool.false_and,Bool.true_and,Bool.and_true,W01,W0u,W04,W02,W0x,W0t]] at g;cases g))
 <| fun q11=>have p11:=decF q11;.r 6<|.br 90 (!(hasB (Qda f 1) x2.ino)) (fun q12=>have q12:=notT q12;have p12:=booF q12;.r 1<|.f (aB (dP (Qmf f))) [] (aB false) (by
  refine sF (fun h=>?_);have g:=(h.2.2.at hx2).2.1;rw [show Qof f k x2=false from by unfold Qof;simp only [q8,q9,q10,q11,q12,Bool.and_false,Bool.false_and,Bool.true_and,Bool.and_true,W01,W0u,W04,W02,W0x,W0t]] at g;cases g))
 <| fun q12=>have q12:=notF q12;have p12:=booT q12;.r 1<|let L2:Lp (Nat):=⟨fun a2=>⟨[(1,.ptr 1 b1 0),(4,.sl 1 false ((Qda f 1).map intA)),(5,aI (k:Int)),(6,.ptr 6 b2 0),(8,aI (a2:Int))],[(1,.box b1 28 (fsyA f)),(6,.box b2 84 (nodA x2))]⟩,fun a2=>x2.l.length-a2,fun a2=>Qba (fun _ e=>Qav f e.ino=true) x2.l a2⟩
 .lp L2 0 (show Qba (fun _ e=>Qav f e.ino=true) x2.l 0 from Qba.zero _ _) [(8,aI 0)] [] ⟨sR,sR,sR,sR,sO,trivial⟩ bb2 fun a2 ha2=>
 (fun (j:Nat) (hH2:Qba (fun _ e=>Qav f e.ino=true) x2.l j)=>.u 4 [b2]<|
 .lm 94 x2.l entA<|.r 1<|.br 95 (decide ((j:Int)<(x2.l.length:Int))) (fun q13=>have p13:=decT q13;.pick [0,1,2,3,4,5,6]<|.u 4 [b1,b2]<|
 .idxM x2.l entA j (m:=(j:Int)) rfl (by omega) fun x3 hx3=>
 .r 2<|.fork<|.alt (.call (Qa2 f x3.ino (by omega))<|
 .pick [8,9,10,11,12,13]<|.r 3<|.new fun b3=>.u 2 [b3]<|
 .r 2<|.br 110 (!(Qav f x3.ino)) (fun q14=>have q14:=notT q14;have p14:=booF q14;.r 1<|.f R [] (aB false) (by
  refine sF (fun h=>?_);have g:=(h.2.2.at hx2).2.2.at hx3;simp_all))
 <| fun q14=>have q14:=notF q14;have p14:=booT q14;.run 3 [rng .i64 ((j:Int)+1)] ⟨Qah,trivial⟩<|
 .bk L2 j (j+1) (show Qba (fun _ e=>Qav f e.ino=true) x2.l (j+1) from (hH2.step hx3 (by assumption))) (show x2.l.length-(j+1)<x2.l.length-j from (by omega)) [(8,aI ((j:Int)+1))] [] ⟨sR,sR,sR,sR,sO,trivial⟩ bb2)
 <| .new fun b4=>.pick [7,8,9,10,12,13]<|.call (Qa2 f x3.ino (by omega))<|
 .u 5 [b4]<|
 .r 2<|.br 110 (!(Qav f x3.ino)) (fun q15=>have q15:=notT q15;have p15:=booF q15;.r 1<|.f R [] (aB false) (by
  refine sF (fun h=>?_);have g:=(h.2.2.at hx2).2.2.at hx3;simp_all))
 <| fun q15=>have q15:=notF q15;have p15:=booT q15;.run 3 [rng .i64 ((j:Int)+1)] ⟨Qah,trivial⟩<|
 .bk L2 j (j+1) (show Qba (fun _ e=>Qav f e.ino=true) x2.l (j+1) from (hH2.step hx3 (by assumption))) (show x2.l.length-(j+1)<x2.l.length-j from (by omega)) [(8,aI ((j:Int)+1))] [] ⟨sR,sR,sR,sR,sO,trivial⟩ bb2)
 <| fun q13=>have p13:=decF q13;.run 3 [rng .i64 ((k:Int)+1)] ⟨Qah,trivial⟩<|
 .bk L1 k (k+1) (show Qba (Qxb f) f.l (k+1) from (hH1.step hx2 ⟨by omega,(by unfold Qof;simp only [q8,q9,q10,q11,q12,Bool.and_false,Bool.false_and,Bool.true_and,Bool.and_true,W01,W0u,W04,W02,W0x,W0t]),hH2.full (by omega)⟩)) (show f.l.length-(k+1)<f.l.length-k from (by omega)) [(5,aI ((k:Int)+1))] [] ⟨sR,sR,sO,trivial⟩ bb1) a2 ha2)
 <| fun q10=>have p10:=beqF q10;.r 10<|.r 1<|let L2:Lp (Nat):=⟨fun a2=>⟨[(1,.ptr 1 b1 0),(4,.sl 1 false ((Qda f 1).map intA)),(5,aI (k:Int)),(6,.ptr 6 b2 0),(8,aI (a2:Int))],[(1,.box b1 28 (fsyA f)),(6,.box b2 84 (nodA x2))]⟩,fun a2=>x2.l.length-a2,fun a2=>Qba (fun _ e=>Qav f e.ino=true) x2.l a2⟩
 .lp L2 0 (show Qba (fun _ e=>Qav f e.ino=true) x2.l 0 from Qba.zero _ _) [(8,aI 0)] [] ⟨sR,sR,sR,sR,sO,trivial⟩ bb2 fun a2 ha2=>
 (fun (j:Nat) (hH2:Qba (fun _ e=>Qav f e.ino=true) x2.l j)=>.u 4 [b2]<|
 .lm 94 x2.l entA<|.r 1<|.br 95 (decide ((j:Int)<(x2.l.length:Int))) (fun q16=>have p16:=decT q16;.pick [0,1,2,3,4,5,6]<|.u 4 [b1,b2]<|
 .idxM x2.l entA j (m:=(j:Int)) rfl (by omega) fun x4 hx4=>
 .r 2<|.fork<|.alt (.call (Qa2 f x4.ino (by omega))<|
 .pick [8,9,10,11,12,13]<|.r 3<|.new fun b5=>.u 2 [b5]<|
 .r 2<|.br 110 (!(Qav f x4.ino)) (fun q17=>have q17:=notT q17;have p17:=booF q17;.r 1<|.f R [] (aB false) (by
  refine sF (fun h=>?_);have g:=(h.2.2.at hx2).2.2.at hx4;simp_all))
 <| fun q17=>have q17:=notF q17;have p17:=booT q17;.run 3 [rng .i64 ((j:Int)+1)] ⟨Qah,trivial⟩<|
 .bk L2 j (j+1) (show Qba (fun _ e=>Qav f e.ino=true) x2.l (j+1) from (hH2.step hx4 (by assumption))) (show x2.l.length-(j+1)<x2.l.length-j from (by omega)) [(8,aI ((j:Int)+1))] [] ⟨sR,sR,sR,sR,sO,trivial⟩ bb2)
 <| .new fun b6=>.pick [7,8,9,10,12,13]<|.call (Qa2 f x4.ino (by omega))<|
 .u 5 [b6]<|
 .r 2<|.br 110 (!(Qav f x4.ino)) (fun q18=>have q18:=notT q18;have p18:=booF q18;.r 1<|.f R [] (aB false) (by
  refine sF (fun h=>?_);have g:=(h.2.2.at hx2).2.2.at hx4;simp_all))
 <| fun q18=>have q18:=notF q18;have p18:=booT q18;.run 3 [rng .i64 ((j:Int)+1)] ⟨Qah,trivial⟩<|
 .bk L2 j (j+1) (show Qba (fun _ e=>Qav f e.ino=true) x2.l (j+1) from (hH2.step hx4 (by assumption))) (show x2.l.length-(j+1)<x2.l.length-j from (by omega)) [(8,aI ((j:Int)+1))] [] ⟨sR,sR,sR,sR,sO,trivial⟩ bb2)
 <| fun q16=>have p16:=decF q16;.run 3 [rng .i64 ((k:Int)+1)] ⟨Qah,trivial⟩<|
 .bk L1 k (k+1) (show Qba (Qxb f) f.l (k+1) from (hH1.step hx2 ⟨by omega,(by unfold Qof;simp only [q8,q9,q10,Bool.and_false,Bool.false_and,Bool.true_and,Bool.and_true,W01,W0u,W04,W02,W0x,W0t]),hH2.full (by omega)⟩)) (show f.l.length-(k+1)<f.l.length-k from (by omega)) [(5,aI ((k:Int)+1))] [] ⟨sR,sR,sO,trivial⟩ bb1) a2 ha2)
 <| fun q8=>have p8:=decF q8;.r 18<|.r 1<|let L2:Lp (Nat):=⟨fun a2=>⟨[(1,.ptr 1 b1 0),(4,.sl 1 false ((Qda f 1).map intA)),(5,aI (k:Int)),(6,.ptr 6 b2 0),(8,aI (a2:Int))],[(1,.box b1 28 (fsyA f)),(6,.box b2 84 (nodA x2))]⟩,fun a2=>x2.l.length-a2,fun a2=>Qba (fun _ e=>Qav f e.ino=true) x2.l a2⟩
 .lp L2 0 (show Qba (fun _ e=>Qav f e.ino=true) x2.l 0 from Qba.zero _ _) [(8,aI 0)] [] ⟨sR,sR,sR,sR,sO,trivial⟩ bb2 fun a2 ha2=>
 (fun (j:Nat) (hH2:Qba (fun _ e=>Qav f e.ino=true) x2.l j)=>.u 4 [b2]<|
 .lm 94 x2.l entA<|.r 1<|.br 95 (decide ((j:Int)<(x2.l.length:Int))) (fun q19=>have p19:=decT q19;.pick [0,1,2,3,4,5,6]<|.u 4 [b1,b2]<|
 .idxM x2.l entA j (m:=(j:Int)) rfl (by omega) fun x5 hx5=>
 .r 2<|.fork<|.alt (.call (Qa2 f x5.ino (by omega))<|
 .pick [8,9,10,11,12,13]<|.r 3<|.new fun b7=>.u 2 [b7]<|
 .r 2<|.br 110 (!(Qav f x5.ino)) (fun q20=>have q20:=notT q20;have p20:=booF q20;.r 1<|.f R [] (aB false) (by
  refine sF (fun h=>?_);have g:=(h.2.2.at hx2).2.2.at hx5;simp_all))
 <| fun q20=>have q20:=notF q20;have p20:=booT q20;.run 3 [rng .i64 ((j:Int)+1)] ⟨Qah,trivial⟩<|
 .bk L2 j (j+1) (show Qba (fun _ e=>Qav f e.ino=true) x2.l (j+1) from (hH2.step hx5 (by assumption))) (show x2.l.length-(j+1)<x2.l.length-j from (by omega)) [(8,aI ((j:Int)+1))] [] ⟨sR,sR,sR,sR,sO,trivial⟩ bb2)
 <| .new fun b8=>.pick [7,8,9,10,12,13]<|.call (Qa2 f x5.ino (by omega))<|
 .u 5 [b8]<|
 .r 2<|.br 110 (!(Qav f x5.ino)) (fun q21=>have q21:=notT q21;have p21:=booF q21;.r 1<|.f R [] (aB false) (by
  refine sF (fun h=>?_);have g:=(h.2.2.at hx2).2.2.at hx5;simp_all))
 <| fun q21=>have q21:=notF q21;have p21:=booT q21;.run 3 [rng .i64 ((j:Int)+1)] ⟨Qah,trivial⟩<|
 .bk L2 j (j+1) (show Qba (fun _ e=>Qav f e.ino=true) x2.l (j+1) from (hH2.step hx5 (by assumption))) (show x2.l.length-(j+1)<x2.l.length-j from (by omega)) [(8,aI ((j:Int)+1))] [] ⟨sR,sR,sR,sR,sO,trivial⟩ bb2)
 <| fun q19=>have p19:=decF q19;.run 3 [rng .i64 ((k:Int)+1)] ⟨Qah,trivial⟩<|
 .bk L1 k (k+1) (show Qba (Qxb f) f.l (k+1) from (hH1.step hx2 ⟨by omega,(by unfold Qof;simp only [q8,Bool.and_false,Bool.false_and,Bool.true_and,Bool.and_true,W01,W0u,W04,W02,W0x,W0t]),hH2.full (by omega)⟩)) (show f.l.length-(k+1)<f.l.length-k from (by omega)) [(5,aI ((k:Int)+1))] [] ⟨sR,sR,sO,trivial⟩ bb1) a2 ha2)
 <| fun q6=>have p6:=decF q6;.r 1<|.f R [] (aB true) (by exact sT ⟨Qau.1 (by assumption),⟨x1,hx1,by omega,by omega,by omega⟩,hH1.full (by omega)⟩)) a1 ha1)
theorem Qut {f:Fsy} {i:Int} (hp:Qan f) (hf:midF f):∀ (n:Nat) {U:List Int} (p:Nat),Dst f U→1000≤n+p→(∀ y∈Qa9 f i,hasB U y=true)→(∀ k z,k<p→U[k]?=some z→∀ y∈Qa9 f z,hasB U y=true) →
  (∀ y∈Qa9 f i,hasB (goU f n U p) y=true)∧∀ z,hasB (goU f n U p) z=true→∀ y∈Qa9 f z,hasB (goU f n U p) y=true
 | 0,U,p,hd,hn,hi,h=>by
  have hl:=hd.leM hf;refine ⟨hi,fun z hz=>?_⟩;obtain ⟨k,hk⟩:=W0w (Qjb.1 hz);have hk':U[k]?=some z:=hk;exact h k z (by have:=Qap hk';omega) hk'
 | n+1,U,p,hd,hn,hi,h=>by
  simp only [goU]
  split
  ·rename_i y hy;have mono:∀ z,hasB U z=true→hasB (addE U (Qaa f y).l) z=true:=fun z hz=>Qpa.2 (.inl hz);refine Qut hp hf n (p+1) (Qf5 hd fun e he=>Qf4 he) (by omega) (fun z hz=>mono z (hi z hz)) fun k z hk hz w hw=>?_;by_cases hkp:k<p
   ·have hk2:k<U.length:=by have:=Qap hy;omega
    have e:U[k]?=some z:=by
     have:=Qm9 (l:=(Qaa f y).l) (W0d hk2);rw [this] at hz;rw [W0d hk2];exact hz
    exact mono w (h k z hkp e w hw)
   ·have e:k=p:=by omega
    subst e;rw [Qm9 hy] at hz;obtain rfl:=W0c hz;exact Qpa.2 (.inr (by rw [Qig hp];exact hw))
  ·rename_i hnone;refine ⟨hi,fun z hz=>?_⟩;obtain ⟨k,hk⟩:=W0w (Qjb.1 hz);have:U.length≤p:=by
    cases Nat.lt_or_ge p U.length with
    | inl hlt=>rw [W0d hlt] at hnone;cases hnone
    | inr hge=>exact hge
   exact h k z (by have:=Qap hk;omega) hk
theorem Zax {f:Fsy} {i z:Int} (hp:Qan f) (hf:midF f):hasB (Qda f i) z=true↔Reach f i z:=by
 have h0:∀ y,hasB (addE [] (Qaa f i).l) y=true↔y∈Qa9 f i:=fun y=>by
  rw [Qpa,Qig hp];simp [hasB]
 refine ⟨Qop hp 1300 0 (fun y hy=>.one ((h0 y).1 hy)) z,fun h=>?_⟩;obtain ⟨g1,g2⟩:=Qut (i:=i) hp hf 1300 0 (Qf5 (Dst.nil f) fun e he=>Qf4 he) (by omega) (fun y hy=>(h0 y).2 hy) (fun k z hk=>absurd hk (Nat.not_lt_zero k));have main:∀ a b,Reach f a b→(∀ y∈Qa9 f a,hasB (Qda f i) y=true)→hasB (Qda f i) b=true:=by
  intro a b hab
  induction hab with
  | one h=>exact fun hk=>hk _ h
  | more h _ ih=>exact fun hk=>ih (g2 _ (hk _ h))
 exact main i z h g1
end Go.Proofs.YtahlldgocpabjaaGreat
