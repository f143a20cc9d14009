import Derived.Test.YtahlldgocpabjaaGreatMrgW
import Derived.Test.YtahlldgocpabjaaGreatMrgU
import Derived.Test.YtahlldgocpabjaaGreatMrgN
set_option maxRecDepth 100000
set_option maxHeartbeats 8000000
set_option linter.unusedVariables false
set_option linter.unusedSimpArgs false
namespace Go.Proofs.YtahlldgocpabjaaGreat
open Go Go.RowKit Copyhold
open Copyhold.Name (Srt insE delE getE isAt)
theorem Qcv {a:Int} {l:List Int} (h:¬ a=0):Qaq (a :: l)=a:=by unfold Qaq;rw [List.find?_cons,show (a != 0)=true from by simpa using h];rfl
theorem Qav {a:Int} {l:List Int} (h:a=0):Qaq (a :: l)=Qaq l:=by unfold Qaq;rw [List.find?_cons,show (a != 0)=false from by simpa using h]
theorem Qqo {f:Fsy} {d:Int} {s:Txt} {n:Nod} (h:Qaa (leaveF f d s) n.ino=n):Qlt (leaveF f d s) n.ino=Qbc f d s n:=by
 unfold Qlt Qbc
 rw [h]
 by_cases hl:n.links≤1
 ·rw [if_pos hl,if_pos (by omega)]
 ·rw [if_neg hl,if_neg (by omega)]
theorem Qlc (f:Fsy) (d:Int) (s:Txt) (n:Nod) (okf:OkF f) (hp:Qal f) (hs:s.length≤1000000) (okn:OkN n) (hx:f.next<9223372036854775807):Qaj Tryz.prog 120 [.agg (fsyA f),aI d,aS s,.agg (nodA n)] (.tup [.agg (fsyA (if Qak f d s n=0 then addF f d s (addN f n) else f)),aI (Qak f d s n)]):=by
 have hl:=hp.1
 have hr:=Qad hp
 exact Qac (F:=Tryz.f120) 400 (
 .new fun b1=>.new fun b2=>.new fun b3=>.r 1<|.run 2 [b1=b1] rt1<|
 .call (Qgg f d hp)<|
 .r 3<|.new fun b4=>.run 2 [b4=b4] rt1<|
 .r 2<|.br 23 ((dirE f d) != 0) (fun q1=>have p1:=bneT q1;.run 4 [b1=b1,b3=b3] rt2<|
 .fin (x:=.tup [.agg (fsyA f),aI (dirE f d)]) (r:=.tup [.agg (fsyA (if Qak f d s n=0 then addF f d s (addN f n) else f)),aI (Qak f d s n)]) [b3=b3] rt1 (by
  have e:Qak f d s n=dirE f d:=by
   unfold Qak
   rw [Qcv (bneT q1)]
  rw [if_neg (by rw [e];exact bneT q1),e]
  exact sR))
 <| fun q1=>have p1:=bneF q1;.r 1<|.call (Qdr s (by omega))<|
 .r 1<|.r 2<|.br 29 ((Qah s) != 0) (fun q2=>have p2:=bneT q2;.run 4 [b1=b1,b3=b3] rt2<|
 .fin (x:=.tup [.agg (fsyA f),aI (Qah s)]) (r:=.tup [.agg (fsyA (if Qak f d s n=0 then addF f d s (addN f n) else f)),aI (Qak f d s n)]) [b3=b3] rt1 (by
  have e:Qak f d s n=Qah s:=by
   unfold Qak
   rw [Qav (bneF q1)]
   rw [Qcv (bneT q2)]
  rw [if_neg (by rw [e];exact bneT q2),e]
  exact sR))
 <| fun q2=>have p2:=bneF q2;.run 3 [b4=b4] rt1<|
 .call (Qem (dirN f d).l s (by have:=(Qc2 hp d).2;omega))<|
 .r 5<|.r 1<|.br 39 (isB (dirN f d).l s) (fun q3=>have p3:=booT q3;.run 3 [b1=b1,b3=b3] rt2<|
 .fin (x:=.tup [.agg (fsyA f),aI 7]) (r:=.tup [.agg (fsyA (if Qak f d s n=0 then addF f d s (addN f n) else f)),aI (Qak f d s n)]) [b3=b3] rt1 (by
  have e:Qak f d s n=7:=by
   unfold Qak
   rw [Qav (bneF q1)]
   rw [Qav (bneF q2)]
   rw [Qcv (by simp only [q3,Bool.true_or,Bool.false_or,Bool.or_true,Bool.or_false,Bool.not_true,Bool.not_false];decide)]
   simp only [q3,Bool.true_or,Bool.false_or,Bool.or_true,Bool.or_false,Bool.not_true,Bool.not_false]
   rfl
  rw [if_neg (by rw [e];decide),e]
  exact sR))
 <| fun q3=>have p3:=booF q3;.run 3 [b1=b1] rt1<|
 .val 43 (show (aI ((f.l.map nodA).length:Int):AV)=aI (f.l.length:Int) from by rw [List.length_map])<|.r 2<|.br 45 (decide ((f.l.length:Int)≥256)) (fun q4=>have p4:=decT q4;.r 5<|.run 3 [b1=b1,b3=b3] rt2<|
 .fin (x:=.tup [.agg (fsyA f),aI 12]) (r:=.tup [.agg (fsyA (if Qak f d s n=0 then addF f d s (addN f n) else f)),aI (Qak f d s n)]) [b3=b3] rt1 (by
  have e:Qak f d s n=12:=by
   unfold Qak
   rw [Qav (bneF q1)]
   rw [Qav (bneF q2)]
   rw [Qav (by simp only [q3,Bool.true_or,Bool.false_or,Bool.or_true,Bool.or_false,Bool.not_true,Bool.not_false];rfl)]
   rw [Qcv (by simp only [q4,Bool.true_or,Bool.false_or,Bool.or_true,Bool.or_false,Bool.not_true,Bool.not_false];decide)]
   simp only [q4,Bool.true_or,Bool.false_or,Bool.or_true,Bool.or_false,Bool.not_true,Bool.not_false]
   rfl
  rw [if_neg (by rw [e];decide),e]
  exact sR))
 <| fun q4=>have p4:=decF q4;.run 3 [b4=b4] rt1<|
 .val 48 (show (aI (((dirN f d).l.map entA).length:Int):AV)=aI (((dirN f d).l).length:Int) from by rw [List.length_map])<|.r 2<|.br 50 (decide ((((dirN f d).l).length:Int)≥256)) (fun q5=>have p5:=decT q5;.run 3 [b1=b1,b3=b3] rt2<|
 .fin (x:=.tup [.agg (fsyA f),aI 12]) (r:=.tup [.agg (fsyA (if Qak f d s n=0 then addF f d s (addN f n) else f)),aI (Qak f d s n)]) [b3=b3] rt1 (by
  have e:Qak f d s n=12:=by
   unfold Qak
   rw [Qav (bneF q1)]
   rw [Qav (bneF q2)]
   rw [Qav (by simp only [q3,Bool.true_or,Bool.false_or,Bool.or_true,Bool.or_false,Bool.not_true,Bool.not_false];rfl)]
   rw [Qcv (by simp only [q4,q5,Bool.true_or,Bool.false_or,Bool.or_true,Bool.or_false,Bool.not_true,Bool.not_false];decide)]
   simp only [q4,q5,Bool.true_or,Bool.false_or,Bool.or_true,Bool.or_false,Bool.not_true,Bool.not_false]
   rfl
  rw [if_neg (by rw [e];decide),e]
  exact sR))
 <| fun q5=>have p5:=decF q5;.run 4 [b1=b1,b2=b2] rt2<|
 .run 2 [b2=b2] rt1<|
 .run 1 [b2=b2] rt1<|
 .callS (args0:=[.agg [aI f.next,aI n.kind,aI 1,aS n.text,.sl 2 false (n.l.map entA)]]) (args:=[.agg [aI ((addN f n).ino),aI ((addN f n).kind),aI ((addN f n).links),aS ((addN f n).text),.sl 2 false ((addN f n).l.map entA)]]) sr1 (Qjx (addN f n) (Qpl okf okn))<|
 .r 1<|.r 3<|.br 60 (!(dP (nodP (addN f n)))) (fun q6=>have q6:=notT q6;have p6:=booF q6;.r 5<|.run 3 [b1=b1,b3=b3] rt2<|
 .fin (x:=.tup [.agg (fsyA f),aI 1]) (r:=.tup [.agg (fsyA (if Qak f d s n=0 then addF f d s (addN f n) else f)),aI (Qak f d s n)]) [b3=b3] rt1 (by
  have e:Qak f d s n=1:=by
   unfold Qak
   rw [Qav (bneF q1)]
   rw [Qav (bneF q2)]
   rw [Qav (by simp only [q3,Bool.true_or,Bool.false_or,Bool.or_true,Bool.or_false,Bool.not_true,Bool.not_false];rfl)]
   rw [Qav (by simp only [q4,q5,Bool.true_or,Bool.false_or,Bool.or_true,Bool.or_false,Bool.not_true,Bool.not_false];rfl)]
   rw [Qcv (by simp only [q6,Bool.true_or,Bool.false_or,Bool.or_true,Bool.or_false,Bool.not_true,Bool.not_false];decide)]
   simp only [q6,Bool.true_or,Bool.false_or,Bool.or_true,Bool.or_false,Bool.not_true,Bool.not_false]
   rfl
  rw [if_neg (by rw [e];decide),e]
  exact sR))
 <| fun q6=>have q6:=notF q6;have p6:=booT q6;.run 3 [b2=b2] rt1<|
 .val 63 (show (aI ((n.l.map entA).length:Int):AV)=aI (n.l.length:Int) from by rw [List.length_map])<|.r 2<|.br 65 (decide ((n.l.length:Int)>0)) (fun q7=>have p7:=decT q7;.run 3 [b1=b1,b3=b3] rt2<|
 .fin (x:=.tup [.agg (fsyA f),aI 1]) (r:=.tup [.agg (fsyA (if Qak f d s n=0 then addF f d s (addN f n) else f)),aI (Qak f d s n)]) [b3=b3] rt1 (by
  have e:Qak f d s n=1:=by
   unfold Qak
   rw [Qav (bneF q1)]
   rw [Qav (bneF q2)]
   rw [Qav (by simp only [q3,Bool.true_or,Bool.false_or,Bool.or_true,Bool.or_false,Bool.not_true,Bool.not_false];rfl)]
   rw [Qav (by simp only [q4,q5,Bool.true_or,Bool.false_or,Bool.or_true,Bool.or_false,Bool.not_true,Bool.not_false];rfl)]
   rw [Qcv (by simp only [q6,q7,Bool.true_or,Bool.false_or,Bool.or_true,Bool.or_false,Bool.not_true,Bool.not_false];decide)]
   simp only [q6,q7,Bool.true_or,Bool.false_or,Bool.or_true,Bool.or_false,Bool.not_true,Bool.not_false]
   rfl
  rw [if_neg (by rw [e];decide),e]
  exact sR))
 <| fun q7=>have p7:=decF q7;have hnl:n.l=[]:=List.eq_nil_of_length_eq_zero (by omega);.ord [0,1,2,3,4,6,5,7,8,9]<|.run 6 [b1=b1,b2=b2,b2=b2] rt3<|
 .call (Qby f d s f.next okf hp hs)<|
 .callS (args0:=[.agg [.sl 5 false ((enterF f d s f.next).l.map nodA),aI ((enterF f d s f.next).next)],.agg [aI f.next,aI n.kind,aI 1,aS n.text,.sl 2 false (n.l.map entA)]]) (args:=[.agg [.sl 5 false ((enterF f d s f.next).l.map nodA),aI ((enterF f d s f.next).next)],.agg [aI ((Qa0 (addN f n) []).ino),aI ((Qa0 (addN f n) []).kind),aI ((Qa0 (addN f n) []).links),aS ((Qa0 (addN f n) []).text),.sl 2 false ((Qa0 (addN f n) []).l.map entA)]]) ⟨sR,Sub.aggs ⟨sR,sR,sR,sR,Sub.of_eq (by rw [hnl];rfl),trivial⟩,trivial⟩ (Qdi (enterF f d s f.next) (Qa0 (addN f n) []) ⟨okf.1,hx⟩ (by have:=Qks f d s f.next;omega) (Qg9 hp d s f.next))<|
 .run 2 [b3=b3] rt1<|
 .fin (x:=.tup [.agg [.sl 5 false ((putF (enterF f d s f.next) (Qa0 (addN f n) [])).l.map nodA),aI ((putF (enterF f d s f.next) (Qa0 (addN f n) [])).next)],aI 0]) (r:=.tup [.agg (fsyA (if Qak f d s n=0 then addF f d s (addN f n) else f)),aI (Qak f d s n)]) [b3=b3] rt1 (by
  have e:Qak f d s n=0:=by
   unfold Qak
   rw [Qav (bneF q1)]
   rw [Qav (bneF q2)]
   rw [Qav (by simp only [q3,Bool.true_or,Bool.false_or,Bool.or_true,Bool.or_false,Bool.not_true,Bool.not_false];rfl)]
   rw [Qav (by simp only [q4,q5,Bool.true_or,Bool.false_or,Bool.or_true,Bool.or_false,Bool.not_true,Bool.not_false];rfl)]
   rw [Qav (by simp only [q6,q7,Bool.true_or,Bool.false_or,Bool.or_true,Bool.or_false,Bool.not_true,Bool.not_false];rfl)]
   rfl
  rw [if_pos e,e]
  exact sR)) Tryz.func120 rfl (by kernel_rfl) (by kernel_rfl)
theorem Qwd (f:Fsy) (d:Int) (s:Txt) (i:Int) (okf:OkF f) (hp:Qal f) (hs:s.length≤1000000):Qaj Tryz.prog 73 [.agg (fsyA f),aI d,aS s,aI i] (.tup [.agg (fsyA (Qc1 f d s i)),aI (Qa5 f d s i)]):=by
 have hl:=hp.1
 have hr:=Qad hp
 have hlk:=Qdt hp i
 exact Qac (F:=Tryz.f73) 400 (
 .new fun b1=>.new fun b2=>.r 1<|.run 2 [b1=b1] rt1<|
 .call (Qgg f d hp)<|
 .r 3<|.new fun b3=>.run 2 [b3=b3] rt1<|
 .r 2<|.br 24 ((dirE f d) != 0) (fun q1=>have p1:=bneT q1;.run 4 [b1=b1,b2=b2] rt2<|
 .fin (x:=.tup [.agg (fsyA f),aI (dirE f d)]) (r:=.tup [.agg (fsyA (Qc1 f d s i)),aI (Qa5 f d s i)]) [b2=b2] rt1 (by
  have e:Qa5 f d s i=dirE f d:=by
   unfold Qa5
   rw [Qcv (bneT q1)]
  rw [show Qc1 f d s i=f from if_neg (by rw [e];exact bneT q1),e]
  exact sR))
 <| fun q1=>have p1:=bneF q1;.run 2 [b1=b1] rt1<|
 .call (Qbd f i (by omega))<|
 .r 3<|.new fun b4=>.run 2 [b4=b4] rt1<|
 .r 2<|.br 34 (!(Qar f i)) (fun q2=>have q2:=notT q2;have p2:=booF q2;.run 3 [b1=b1,b2=b2] rt2<|
 .fin (x:=.tup [.agg (fsyA f),aI 6]) (r:=.tup [.agg (fsyA (Qc1 f d s i)),aI (Qa5 f d s i)]) [b2=b2] rt1 (by
  have e:Qa5 f d s i=6:=by
   unfold Qa5
   rw [Qav (bneF q1)]
   rw [Qcv (by simp only [q2,Bool.true_or,Bool.false_or,Bool.or_true,Bool.or_false,Bool.not_true,Bool.not_false];decide)]
   simp only [q2,Bool.true_or,Bool.false_or,Bool.or_true,Bool.or_false,Bool.not_true,Bool.not_false]
   rfl
  rw [show Qc1 f d s i=f from if_neg (by rw [e];decide),e]
  exact sR))
 <| fun q2=>have q2:=notF q2;have p2:=booT q2;.run 3 [b4=b4] rt1<|
 .br 38 (((Qaa f i).kind)==2) (fun q3=>have p3:=beqT q3;.run 3 [b1=b1,b2=b2] rt2<|
 .fin (x:=.tup [.agg (fsyA f),aI 9]) (r:=.tup [.agg (fsyA (Qc1 f d s i)),aI (Qa5 f d s i)]) [b2=b2] rt1 (by
  have e:Qa5 f d s i=9:=by
   unfold Qa5
   rw [Qav (bneF q1)]
   rw [Qav (by simp only [q2,Bool.true_or,Bool.false_or,Bool.or_true,Bool.or_false,Bool.not_true,Bool.not_false];rfl)]
   rw [Qcv (by simp only [q3,Bool.true_or,Bool.false_or,Bool.or_true,Bool.or_false,Bool.not_true,Bool.not_false];decide)]
   simp only [q3,Bool.true_or,Bool.false_or,Bool.or_true,Bool.or_false,Bool.not_true,Bool.not_false]
   rfl
  rw [show Qc1 f d s i=f from if_neg (by rw [e];decide),e]
  exact sR))
 <| fun q3=>have p3:=beqF q3;.r 1<|.call (Qdr s (by omega))<|
 .r 1<|.r 2<|.br 43 ((Qah s) != 0) (fun q4=>have p4:=bneT q4;.run 4 [b1=b1,b2=b2] rt2<|
 .fin (x:=.tup [.agg (fsyA f),aI (Qah s)]) (r:=.tup [.agg (fsyA (Qc1 f d s i)),aI (Qa5 f d s i)]) [b2=b2] rt1 (by
  have e:Qa5 f d s i=Qah s:=by
   unfold Qa5
   rw [Qav (bneF q1)]
   rw [Qav (by simp only [q2,Bool.true_or,Bool.false_or,Bool.or_true,Bool.or_false,Bool.not_true,Bool.not_false];rfl)]
   rw [Qav (by simp only [q3,Bool.true_or,Bool.false_or,Bool.or_true,Bool.or_false,Bool.not_true,Bool.not_false];rfl)]
   rw [Qcv (bneT q4)]
  rw [show Qc1 f d s i=f from if_neg (by rw [e];exact bneT q4),e]
  exact sR))
 <| fun q4=>have p4:=bneF q4;.run 3 [b3=b3] rt1<|
 .call (Qem (dirN f d).l s (by have:=(Qc2 hp d).2;omega))<|
 .r 5<|.r 1<|.br 53 (isB (dirN f d).l s) (fun q5=>have p5:=booT q5;.run 3 [b1=b1,b2=b2] rt2<|
 .fin (x:=.tup [.agg (fsyA f),aI 7]) (r:=.tup [.agg (fsyA (Qc1 f d s i)),aI (Qa5 f d s i)]) [b2=b2] rt1 (by
  have e:Qa5 f d s i=7:=by
   unfold Qa5
   rw [Qav (bneF q1)]
   rw [Qav (by simp only [q2,Bool.true_or,Bool.false_or,Bool.or_true,Bool.or_false,Bool.not_true,Bool.not_false];rfl)]
   rw [Qav (by simp only [q3,Bool.true_or,Bool.false_or,Bool.or_true,Bool.or_false,Bool.not_true,Bool.not_false];rfl)]
   rw [Qav (bneF q4)]
   rw [Qcv (by simp only [q5,Bool.true_or,Bool.false_or,Bool.or_true,Bool.or_false,Bool.not_true,Bool.not_false];decide)]
   simp only [q5,Bool.true_or,Bool.false_or,Bool.or_true,Bool.or_false,Bool.not_true,Bool.not_false]
   rfl
  rw [show Qc1 f d s i=f from if_neg (by rw [e];decide),e]
  exact sR))
 <| fun q5=>have p5:=booF q5;.run 3 [b3=b3] rt1<|
 .val 57 (show (aI (((dirN f d).l.map entA).length:Int):AV)=aI (((dirN f d).l).length:Int) from by rw [List.length_map])<|.r 2<|.br 59 (decide ((((dirN f d).l).length:Int)≥256)) (fun q6=>have p6:=decT q6;.r 4<|.run 3 [b1=b1,b2=b2] rt2<|
 .fin (x:=.tup [.agg (fsyA f),aI 12]) (r:=.tup [.agg (fsyA (Qc1 f d s i)),aI (Qa5 f d s i)]) [b2=b2] rt1 (by
  have e:Qa5 f d s i=12:=by
   unfold Qa5
   rw [Qav (bneF q1)]
   rw [Qav (by simp only [q2,Bool.true_or,Bool.false_or,Bool.or_true,Bool.or_false,Bool.not_true,Bool.not_false];rfl)]
   rw [Qav (by simp only [q3,Bool.true_or,Bool.false_or,Bool.or_true,Bool.or_false,Bool.not_true,Bool.not_false];rfl)]
   rw [Qav (bneF q4)]
   rw [Qav (by simp only [q5,Bool.true_or,Bool.false_or,Bool.or_true,Bool.or_false,Bool.not_true,Bool.not_false];rfl)]
   rw [Qcv (by simp only [q6,Bool.true_or,Bool.false_or,Bool.or_true,Bool.or_false,Bool.not_true,Bool.not_false];decide)]
   simp only [q6,Bool.true_or,Bool.false_or,Bool.or_true,Bool.or_false,Bool.not_true,Bool.not_false]
   rfl
  rw [show Qc1 f d s i=f from if_neg (by rw [e];decide),e]
  exact sR))
 <| fun q6=>have p6:=decF q6;.run 4 [b4=b4] rt1<|
 .br 63 (decide (((Qaa f i).links)≥64)) (fun q7=>have p7:=decT q7;.run 3 [b1=b1,b2=b2] rt2<|
 .fin (x:=.tup [.agg (fsyA f),aI 12]) (r:=.tup [.agg (fsyA (Qc1 f d s i)),aI (Qa5 f d s i)]) [b2=b2] rt1 (by
  have e:Qa5 f d s i=12:=by
   unfold Qa5
   rw [Qav (bneF q1)]
   rw [Qav (by simp only [q2,Bool.true_or,Bool.false_or,Bool.or_true,Bool.or_false,Bool.not_true,Bool.not_false];rfl)]
   rw [Qav (by simp only [q3,Bool.true_or,Bool.false_or,Bool.or_true,Bool.or_false,Bool.not_true,Bool.not_false];rfl)]
   rw [Qav (bneF q4)]
   rw [Qav (by simp only [q5,Bool.true_or,Bool.false_or,Bool.or_true,Bool.or_false,Bool.not_true,Bool.not_false];rfl)]
   rw [Qcv (by simp only [q6,q7,Bool.true_or,Bool.false_or,Bool.or_true,Bool.or_false,Bool.not_true,Bool.not_false];decide)]
   simp only [q6,q7,Bool.true_or,Bool.false_or,Bool.or_true,Bool.or_false,Bool.not_true,Bool.not_false]
   rfl
  rw [show Qc1 f d s i=f from if_neg (by rw [e];decide),e]
  exact sR))
 <| fun q7=>have p7:=decF q7;.run 5 [b4=b4,rng .i64 (((Qaa f i).links)+1),b4=b4] ⟨rfl,Qas (by omega) (by omega),rfl,trivial⟩<|
 .ord [0,1,2,3,5,4,6,7,8]<|.run 5 [b1=b1,b4=b4] rt2<|
 .call (Qby f d s i okf hp hs)<|
 .callS (args0:=[.agg [.sl 5 false ((enterF f d s i).l.map nodA),aI ((enterF f d s i).next)],.agg [aI ((Qaa f i).ino),aI ((Qaa f i).kind),aI (((Qaa f i).links)+1),aS ((Qaa f i).text),.sl 2 false ((Qaa f i).l.map entA)]]) (args:=[.agg [.sl 5 false ((enterF f d s i).l.map nodA),aI ((enterF f d s i).next)],.agg [aI ((Qec (Qaa f i)).ino),aI ((Qec (Qaa f i)).kind),aI ((Qec (Qaa f i)).links),aS ((Qec (Qaa f i)).text),.sl 2 false ((Qec (Qaa f i)).l.map entA)]]) sr2 (Qdi (enterF f d s i) (Qec (Qaa f i)) (Qb4 okf hp i) (by have:=Qks f d s i;omega) (Qg9 hp d s i))<|
 .run 2 [b2=b2] rt1<|
 .fin (x:=.tup [.agg [.sl 5 false ((putF (enterF f d s i) (Qec (Qaa f i))).l.map nodA),aI ((putF (enterF f d s i) (Qec (Qaa f i))).next)],aI 0]) (r:=.tup [.agg (fsyA (Qc1 f d s i)),aI (Qa5 f d s i)]) [b2=b2] rt1 (by
  have e:Qa5 f d s i=0:=by
   unfold Qa5
   rw [Qav (bneF q1)]
   rw [Qav (by simp only [q2,Bool.true_or,Bool.false_or,Bool.or_true,Bool.or_false,Bool.not_true,Bool.not_false];rfl)]
   rw [Qav (by simp only [q3,Bool.true_or,Bool.false_or,Bool.or_true,Bool.or_false,Bool.not_true,Bool.not_false];rfl)]
   rw [Qav (bneF q4)]
   rw [Qav (by simp only [q5,Bool.true_or,Bool.false_or,Bool.or_true,Bool.or_false,Bool.not_true,Bool.not_false];rfl)]
   rw [Qav (by simp only [q6,q7,Bool.true_or,Bool.false_or,Bool.or_true,Bool.or_false,Bool.not_true,Bool.not_false];rfl)]
   rfl
  rw [show Qc1 f d s i=Qdm f d s i (Qaa f i) from if_pos e,e]
  exact sR)) Tryz.func73 rfl (by kernel_rfl) (by kernel_rfl)
end Go.Proofs.YtahlldgocpabjaaGreat

namespace Go.Proofs.YtahlldgocpabjaaGreat
open Go Go.RowKit Copyhold
open Copyhold.Name (Srt insE delE getE isAt)
theorem Qx2 {f:Fsy} {d:Int} {s:Txt} (okf:OkF f) (hp:Qal f) (h:Qaz f d s=0) (hz:¬ ((lookN f d s).l.length:Int)>0) :
  OkF (leaveF f d s)∧Qal (leaveF f d s)∧Qlt (leaveF f d s) (lookN f d s).ino=Qbc f d s (lookN f d s)∧Qbh f d s=0:=by
 obtain ⟨e,j,n,a1,a2,a3,a4,a5⟩:=(Qin hp).1 h
 have hn:=(Qe3 a1 a2 a3 a4 a5).2
 rw [hn] at hz ⊢
 have hnl:n.l=[]:=List.eq_nil_of_length_eq_zero (by omega)
 have hnj:=Qcy a5
 have hne:¬ j=d:=fun ej=>by
  rw [ej,a1] at a5
  obtain rfl:=Option.some.inj a5
  rw [hnl] at a4
  cases a4
 obtain ⟨l1,l2,l3,l4,l5⟩:=Qdk (s:=s) okf hp a1 a2
 have hfl:Qcc n=false:=by unfold Qcc;rw [hnl];simp
 refine ⟨l1,l2,Qqo ?_,?_⟩
 ·refine (Qfo ?_).2
  rw [hnj,l5,if_neg hne]
  exact a5
 ·unfold Qbh
  rw [Qq6,if_pos h,hn,hfl]
  rfl
theorem Qx3 {f:Fsy} {d:Int} {s:Txt} (hp:Qal f) (h:Qaz f d s=0) (hz:((lookN f d s).l.length:Int)>0):Qbh f d s=11:=by
 obtain ⟨e,j,n,a1,a2,a3,a4,a5⟩:=(Qin hp).1 h
 have hn:=(Qe3 a1 a2 a3 a4 a5).2
 unfold Qbh
 rw [Qq6,if_pos h]
 rw [hn] at hz ⊢
 have hk:n.kind=2:=by
  by_cases hk:n.kind=2
  ·exact hk
  ·rw [Qfn (Qbn hp a5).1 hk] at hz
   simp at hz
 unfold Qcc Qab
 rw [hk,decide_eq_true hz]
 rfl
theorem Zc9 {f:Fsy} {d:Int} {s:Txt} (h:¬ Qaz f d s=0):Qbh f d s=Qaz f d s:=by unfold Qbh;rw [Qq6,if_neg h]
theorem Qm9 (f:Fsy) (d:Int) (s:Txt) (okf:OkF f) (hp:Qal f) (hs:s.length≤1000000):Qaj Tryz.prog 121 [.agg (fsyA f),aI d,aS s] (.tup [.agg (fsyA (Qdx f d s)),aI (Qbh f d s)]):=by
 have hl:=hp.1
 have hr:=Qad hp
 exact Qac (F:=Tryz.f121) 400 (
 .new fun b1=>.new fun b2=>.r 1<|.run 3 [b1=b1] rt1<|
 .call (Qdq f d s hp hs)<|
 .r 3<|.new fun b3=>.run 2 [b3=b3] rt1<|
 .r 2<|.br 18 ((Qaz f d s) != 0) (fun q1=>have p1:=bneT q1;.run 4 [b1=b1,b2=b2] rt2<|
 .fin (x:=.tup [.agg (fsyA f),aI (Qaz f d s)]) (r:=.tup [.agg (fsyA (Qdx f d s)),aI (Qbh f d s)]) [b2=b2] rt1 (by
  have e:=Zc9 (bneT q1)
  have e2:Qdx f d s=f:=if_neg (by rw [e];exact bneT q1)
  rw [e2,e]
  exact sR))
 <| fun q1=>have p1:=bneF q1;have h0:Qaz f d s=0:=bneF q1;.run 3 [b3=b3] rt1<|
 .val 23 (show (aI (((lookN f d s).l.map entA).length:Int):AV)=aI (((lookN f d s).l).length:Int) from by rw [List.length_map])<|.r 1<|.br 24 (decide ((((lookN f d s).l).length:Int)>0)) (fun q2=>have p2:=decT q2;.run 3 [b1=b1,b2=b2] rt2<|
 .fin (x:=.tup [.agg (fsyA f),aI 11]) (r:=.tup [.agg (fsyA (Qdx f d s)),aI (Qbh f d s)]) [b2=b2] rt1 (by
  have e:=Qx3 hp h0 (by omega)
  have e2:Qdx f d s=f:=if_neg (by rw [e];decide)
  rw [e2,e]
  exact sR))
 <| fun q2=>have p2:=decF q2;have htl:=Qx2 okf hp h0 (by omega);.ord [0,1,2,4,5,3,6,7,8]<|.run 5 [b1=b1,b3=b3] rt2<|
 .call (Qcg f d s okf hp hs)<|
 .call (Qjf (leaveF f d s) (lookN f d s).ino htl.1 htl.2.1)<|
 .run 2 [b2=b2] rt1<|
 .fin (x:=.tup [.agg [.sl 5 false ((Qlt (leaveF f d s) (lookN f d s).ino).l.map nodA),aI ((Qlt (leaveF f d s) (lookN f d s).ino).next)],aI 0]) (r:=.tup [.agg (fsyA (Qdx f d s)),aI (Qbh f d s)]) [b2=b2] rt1 (by
  have e2:Qdx f d s=Qbc f d s (lookN f d s):=if_pos htl.2.2.2
  rw [e2,htl.2.2.2,← htl.2.2.1]
  exact sR)) Tryz.func121 rfl (by kernel_rfl) (by kernel_rfl)
end Go.Proofs.YtahlldgocpabjaaGreat

namespace Go.Proofs.YtahlldgocpabjaaGreat
open Go Go.RowKit Copyhold
def midF (f:Fsy):Prop:=f.l.length+(f.l.map wN).sum≤260
theorem Dst.leM {f:Fsy} {U:List Int} (h:Dst f U) (hf:midF f):U.length≤260:=by
 have:=Qoq h.1 h.2
 rw [Qux] at this
 unfold midF at hf
 omega
theorem UH.stepM {f:Fsy} {i:Int} {U:List Int} {p j:Nat} {z:Int} (hf:midF f) (h:UH f i U p) (hz:U[p]?=some z) (hj:(Qaa f z).l.length≤j):UH f i (addE U ((Qaa f z).l.take j)) (p+1):=by
 obtain ⟨h1,h2,h3⟩:=h
 have hp:=Qan hz
 have hl:=h1.leM hf
 refine ⟨Qde h1 z j,by have:=Qvp ((Qaa f z).l.take j) U;omega,?_⟩
 rw [Qay hj,← h3,show 300-p=(300-(p+1))+1 from by omega]
 simp only [goU,hz]
theorem Qpv {f:Fsy} (hf:midF f) (i:Int):(Qbx f i).length≤260:=
 (Za4 300 0 (Qe0 (Dst.nil f) fun e he=>Qez he)).leM hf
theorem Zb5 {f:Fsy} (hf:midF f) (i:Int) (k:Nat):((f.l.take k).map (cntE i)).sum≤260:=by
 have:=Zb4 i f.l
 have:=Qhl (cntE i) f.l k
 unfold midF at hf
 omega
theorem Qsw (f:Fsy) (i:Int) (okf:OkF f) (hf:midF f):Qaj Tryz.prog 86 [.agg (fsyA f),aI i] (aI (Qnm f i:Int)):=by
 have hfl:=okf.2.1
 exact Qac (F:=Tryz.f86) 400 (
 .new fun b1=>.r 1<|.r 1<|.r 1<|let L1:Lp (Nat):=⟨fun a1=>⟨[(1,aI i),(2,.ptr 2 b1 0),(6,aI (a1:Int)),(5,aI (((f.l.take a1).map (cntE i)).sum:Int))],[(2,.box b1 28 (fsyA f))]⟩,fun a1=>f.l.length-a1,fun a1=>a1≤f.l.length⟩
 .loop L1 0 (show 0≤f.l.length from Nat.zero_le _) ⟨[(1,aI i),(2,.ptr 2 b1 0),(6,aI 0),(5,aI 0)],[(2,.box b1 28 (fsyA f))]⟩ ⟨sR,sR,Sub.of_eq (congrArg aI (by first | omega | rfl)),Sub.of_eq (congrArg aI (by first | omega | rfl)),trivial⟩ ⟨⟨_,rfl,SubB.refl _⟩,trivial⟩ fun a1 ha1=>
 (fun (k:Nat) (hH1:k≤f.l.length)=>have hs1:=Zb5 hf i k;.run 4 [b1=b1] rt1<|
 .val 11 (show (aI ((f.l.map nodA).length:Int):AV)=aI (f.l.length:Int) from by rw [List.length_map])<|.r 1<|.br 12 (decide ((k:Int)<(f.l.length:Int))) (fun q1=>have p1:=decT q1;.r 1<|.ex (Qfs (l:=f.l) (k:=k) (by omega)) fun x1 hx1=>
 have okx1:=okf.2.2 x1 (List.mem_of_getElem? hx1);have blx1:=okx1.2.2.2.2.1;let L2:Lp (Nat):=⟨fun a2=>⟨[(1,aI i),(2,.ptr 2 b1 0),(6,aI (k:Int)),(7,aI (a2:Int)),(5,aI ((((f.l.take k).map (cntE i)).sum+cntK i x1.l a2:Nat):Int))],[(2,.box b1 28 (fsyA f))]⟩,fun a2=>x1.l.length-a2,fun a2=>a2≤x1.l.length⟩
 .loop L2 0 (show 0≤x1.l.length from Nat.zero_le _) ⟨[(1,aI i),(2,.ptr 2 b1 0),(6,aI (k:Int)),(7,aI 0),(5,aI (((f.l.take k).map (cntE i)).sum:Int))],[(2,.box b1 28 (fsyA f))]⟩ ⟨sR,sR,sR,Sub.of_eq (congrArg aI (by first | omega | rfl)),Sub.of_eq (congrArg aI (by simp [cntK])),trivial⟩ ⟨⟨_,rfl,SubB.refl _⟩,trivial⟩ fun a2 ha2=>
 (fun (j:Nat) (hH2:j≤x1.l.length)=>have hs2:=Zi6 i x1.l j;.run 4 [b1=b1] rt1<|
 .idx k (m:=(k:Int)) (xs:=f.l.map nodA) (e:=nodA x1) rfl (map_some hx1)<|
 .r 3<|.val 22 (show (aI ((x1.l.map entA).length:Int):AV)=aI (x1.l.length:Int) from by rw [List.length_map])<|.r 1<|.br 23 (decide ((j:Int)<(x1.l.length:Int))) (fun q2=>have p2:=decT q2;.run 3 [b1=b1] rt1<|
 .idx k (m:=(k:Int)) (xs:=f.l.map nodA) (e:=nodA x1) rfl (map_some hx1)<|
 .r 3<|.idxM x1.l entA j (m:=(j:Int)) rfl (by omega) fun x2 hx2=>
 .r 4<|.br 37 (x2.ino==i) (fun q3=>have p3:=beqT q3;.run 3 [rng .i64 (((((f.l.take k).map (cntE i)).sum+cntK i x1.l j:Nat):Int)+1)] ⟨Qas (by omega) (by omega),trivial⟩<|
 .run 3 [rng .i64 ((j:Int)+1)] ⟨Qas (by omega) (by omega),trivial⟩<|
 .back L2 j (j+1) (show (j+1)≤x1.l.length from (by show _≤_;omega)) (show x1.l.length-(j+1)<x1.l.length-j from (by omega)) ⟨[(1,aI i),(2,.ptr 2 b1 0),(6,aI (k:Int)),(7,aI ((j:Int)+1)),(5,aI (((((f.l.take k).map (cntE i)).sum+cntK i x1.l j:Nat):Int)+1))],[(2,.box b1 28 (fsyA f))]⟩ ⟨sR,sR,sR,Sub.of_eq (congrArg aI (by first | omega | rfl)),Sub.of_eq (congrArg aI (by rw [Zfs hx2 q3]<;>omega)),trivial⟩ ⟨⟨_,rfl,SubB.refl _⟩,trivial⟩)
 <| fun q3=>have p3:=beqF q3;.run 3 [rng .i64 ((j:Int)+1)] ⟨Qas (by omega) (by omega),trivial⟩<|
 .back L2 j (j+1) (show (j+1)≤x1.l.length from (by show _≤_;omega)) (show x1.l.length-(j+1)<x1.l.length-j from (by omega)) ⟨[(1,aI i),(2,.ptr 2 b1 0),(6,aI (k:Int)),(7,aI ((j:Int)+1)),(5,aI ((((f.l.take k).map (cntE i)).sum+cntK i x1.l j:Nat):Int))],[(2,.box b1 28 (fsyA f))]⟩ ⟨sR,sR,sR,Sub.of_eq (congrArg aI (by first | omega | rfl)),Sub.of_eq (congrArg aI (by rw [Zi5 hx2 q3]<;>omega)),trivial⟩ ⟨⟨_,rfl,SubB.refl _⟩,trivial⟩)
 <| fun q2=>have p2:=decF q2;.run 3 [rng .i64 ((k:Int)+1)] ⟨Qas (by omega) (by omega),trivial⟩<|
 .back L1 k (k+1) (show (k+1)≤f.l.length from (by show _≤_;omega)) (show f.l.length-(k+1)<f.l.length-k from (by omega)) ⟨[(1,aI i),(2,.ptr 2 b1 0),(6,aI ((k:Int)+1)),(5,aI ((((f.l.take k).map (cntE i)).sum+cntK i x1.l j:Nat):Int))],[(2,.box b1 28 (fsyA f))]⟩ ⟨sR,sR,Sub.of_eq (congrArg aI (by first | omega | rfl)),Sub.of_eq (congrArg aI (by rw [Qtz (cntE i) hx1,← Zft (i:=i) (n:=x1) (j:=j) (by omega)]<;>omega)),trivial⟩ ⟨⟨_,rfl,SubB.refl _⟩,trivial⟩) a2 ha2)
 <| fun q1=>have p1:=decF q1;.r 2<|.fin (x:=aI (((f.l.take k).map (cntE i)).sum:Int)) (r:=aI (Qnm f i:Int)) [] trivial (by exact Sub.of_eq (congrArg aI (by rw [Qay (by omega)];rfl)))) a1 ha1) Tryz.func86 rfl (by kernel_rfl) (by kernel_rfl)
end Go.Proofs.YtahlldgocpabjaaGreat
