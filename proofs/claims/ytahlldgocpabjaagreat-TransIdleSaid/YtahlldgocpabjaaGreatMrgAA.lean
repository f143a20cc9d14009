import Derived.Test.YtahlldgocpabjaaGreatMrgZ
import Derived.Test.YtahlldgocpabjaaGreatMrgW
import Derived.Test.YtahlldgocpabjaaGreatMrgQ
set_option maxRecDepth 100000
set_option maxHeartbeats 8000000
set_option linter.unusedVariables false
set_option linter.unusedSimpArgs false
namespace Go.Proofs.YtahlldgocpabjaaGreat
open Go Go.RowKit Copyhold Go.Proofs.Tryz
open Copyhold.Name (Srt insE delE getE isAt)
theorem Qc8 {a:Int} {l:List Int} (h:¬ a=0):Qax (a :: l)=a:=by unfold Qax;rw [List.find?_cons,show (a != 0)=true from by simpa using h];rfl
theorem Qaz {a:Int} {l:List Int} (h:a=0):Qax (a :: l)=Qax l:=by unfold Qax;rw [List.find?_cons,show (a != 0)=false from by simpa using h]
theorem Qs2 {f:Fsy} {d:Int} {s:Txt} {n:Nod} (h:Qaa (leaveF f d s) n.ino=n):Qnk (leaveF f d s) n.ino=Qbd f d s n:=by
 unfold Qnk Qbd;rw [h];by_cases hl:n.links≤1
 ·rw [if_pos hl,if_pos (by omega)]
 ·rw [if_neg hl,if_neg (by omega)]
theorem Qm0 (f:Fsy) (d:Int) (s:Txt) (n:Nod) (okf:OkF f) (hp:Qar f) (hs:s.length≤1000000) (okn:OkN n) (hx:f.next<9223372036854775807):Qah prog 120 [.agg (fsyA f),aI d,aS s,.agg (nodA n)] (.tup [.agg (fsyA (if Qat f d s n=0 then addF f d s (addN f n) else f)),aI (Qat f d s n)]):=by
 have hl:=hp.1;have hr:=Qaf hp;exact Qac func120 (
 .new fun b1=>.new fun b2=>.new fun b3=>.r 1<|.u 2 [b1]<|
 .call (Qhp f d hp)<|
 .r 3<|.new fun b4=>.u 2 [b4]<|
 .r 2<|.br 23 ((dirE f d) != 0) (fun q1=>have p1:=bneT q1;.u 4 [b1,b3]<|
 .f (.tup [.agg (fsyA (if Qat f d s n=0 then addF f d s (addN f n) else f)),aI (Qat f d s n)]) [b3] (.tup [.agg (fsyA f),aI (dirE f d)]) (by
  have e:Qat f d s n=dirE f d:=by
   unfold Qat;rw [Qc8 (bneT q1)]
  rw [if_neg (by rw [e];exact bneT q1),e];exact sR))
 <| fun q1=>have p1:=bneF q1;.r 1<|.call (Qed s (by omega))<|
 .r 1<|.r 2<|.br 29 ((Qai s) != 0) (fun q2=>have p2:=bneT q2;.u 4 [b1,b3]<|
 .f (.tup [.agg (fsyA (if Qat f d s n=0 then addF f d s (addN f n) else f)),aI (Qat f d s n)]) [b3] (.tup [.agg (fsyA f),aI (Qai s)]) (by
  have e:Qat f d s n=Qai s:=by
   unfold Qat;rw [Qaz (bneF q1)];rw [Qc8 (bneT q2)]
  rw [if_neg (by rw [e];exact bneT q2),e];exact sR))
 <| fun q2=>have p2:=bneF q2;.u 3 [b4]<|
 .call (Qeb (dirN f d).l s (by have:=(Qdo hp d).2;omega))<|
 .r 5<|.r 1<|.br 39 (isB (dirN f d).l s) (fun q3=>have p3:=booT q3;.u 3 [b1,b3]<|
 .f (.tup [.agg (fsyA (if Qat f d s n=0 then addF f d s (addN f n) else f)),aI (Qat f d s n)]) [b3] (.tup [.agg (fsyA f),aI 7]) (by
  have e:Qat f d s n=7:=by
   unfold Qat;rw [Qaz (bneF q1)];rw [Qaz (bneF q2)];rw [Qc8 (by simp only [q3,Bool.true_or,Bool.false_or,Bool.or_true,Bool.or_false,Bool.not_true,Bool.not_false];decide)];simp only [q3,Bool.true_or,Bool.false_or,Bool.or_true,Bool.or_false,Bool.not_true,Bool.not_false];rfl
  rw [if_neg (by rw [e];decide),e];exact sR))
 <| fun q3=>have p3:=booF q3;.u 3 [b1]<|
 .lm 43 f.l nodA<|.r 2<|.br 45 (decide ((f.l.length:Int)≥256)) (fun q4=>have p4:=decT q4;.r 5<|.u 3 [b1,b3]<|
 .f (.tup [.agg (fsyA (if Qat f d s n=0 then addF f d s (addN f n) else f)),aI (Qat f d s n)]) [b3] (.tup [.agg (fsyA f),aI 12]) (by
  have e:Qat f d s n=12:=by
   unfold Qat;rw [Qaz (bneF q1)];rw [Qaz (bneF q2)];rw [Qaz (by simp only [q3,Bool.true_or,Bool.false_or,Bool.or_true,Bool.or_false,Bool.not_true,Bool.not_false];rfl)];rw [Qc8 (by simp only [q4,Bool.true_or,Bool.false_or,Bool.or_true,Bool.or_false,Bool.not_true,Bool.not_false];decide)];simp only [q4,Bool.true_or,Bool.false_or,Bool.or_true,Bool.or_false,Bool.not_true,Bool.not_false];rfl
  rw [if_neg (by rw [e];decide),e];exact sR))
 <| fun q4=>have p4:=decF q4;.u 3 [b4]<|
 .lm 48 ((dirN f d).l) entA<|.r 2<|.br 50 (decide ((((dirN f d).l).length:Int)≥256)) (fun q5=>have p5:=decT q5;.u 3 [b1,b3]<|
 .f (.tup [.agg (fsyA (if Qat f d s n=0 then addF f d s (addN f n) else f)),aI (Qat f d s n)]) [b3] (.tup [.agg (fsyA f),aI 12]) (by
  have e:Qat f d s n=12:=by
   unfold Qat;rw [Qaz (bneF q1)];rw [Qaz (bneF q2)];rw [Qaz (by simp only [q3,Bool.true_or,Bool.false_or,Bool.or_true,Bool.or_false,Bool.not_true,Bool.not_false];rfl)];rw [Qc8 (by simp only [q4,q5,Bool.true_or,Bool.false_or,Bool.or_true,Bool.or_false,Bool.not_true,Bool.not_false];decide)];simp only [q4,q5,Bool.true_or,Bool.false_or,Bool.or_true,Bool.or_false,Bool.not_true,Bool.not_false];rfl
  rw [if_neg (by rw [e];decide),e];exact sR))
 <| fun q5=>have p5:=decF q5;.u 4 [b1,b2]<|
 .u 2 [b2]<|
 .u 1 [b2]<|
 .cs (args0:=[.agg [aI f.next,aI n.kind,aI 1,aS n.text,.sl 2 false (n.l.map entA)]]) (Qhm (addN f n) (Qrp okf okn)) sr1<|
 .r 1<|.r 3<|.br 60 (!(dP (nodP (addN f n)))) (fun q6=>have q6:=notT q6;have p6:=booF q6;.r 5<|.u 3 [b1,b3]<|
 .f (.tup [.agg (fsyA (if Qat f d s n=0 then addF f d s (addN f n) else f)),aI (Qat f d s n)]) [b3] (.tup [.agg (fsyA f),aI 1]) (by
  have e:Qat f d s n=1:=by
   unfold Qat;rw [Qaz (bneF q1)];rw [Qaz (bneF q2)];rw [Qaz (by simp only [q3,Bool.true_or,Bool.false_or,Bool.or_true,Bool.or_false,Bool.not_true,Bool.not_false];rfl)];rw [Qaz (by simp only [q4,q5,Bool.true_or,Bool.false_or,Bool.or_true,Bool.or_false,Bool.not_true,Bool.not_false];rfl)];rw [Qc8 (by simp only [q6,Bool.true_or,Bool.false_or,Bool.or_true,Bool.or_false,Bool.not_true,Bool.not_false];decide)];simp only [q6,Bool.true_or,Bool.false_or,Bool.or_true,Bool.or_false,Bool.not_true,Bool.not_false];rfl
  rw [if_neg (by rw [e];decide),e];exact sR))
 <| fun q6=>have q6:=notF q6;have p6:=booT q6;.u 3 [b2]<|
 .lm 63 n.l entA<|.r 2<|.br 65 (decide ((n.l.length:Int)>0)) (fun q7=>have p7:=decT q7;.u 3 [b1,b3]<|
 .f (.tup [.agg (fsyA (if Qat f d s n=0 then addF f d s (addN f n) else f)),aI (Qat f d s n)]) [b3] (.tup [.agg (fsyA f),aI 1]) (by
  have e:Qat f d s n=1:=by
   unfold Qat;rw [Qaz (bneF q1)];rw [Qaz (bneF q2)];rw [Qaz (by simp only [q3,Bool.true_or,Bool.false_or,Bool.or_true,Bool.or_false,Bool.not_true,Bool.not_false];rfl)];rw [Qaz (by simp only [q4,q5,Bool.true_or,Bool.false_or,Bool.or_true,Bool.or_false,Bool.not_true,Bool.not_false];rfl)];rw [Qc8 (by simp only [q6,q7,Bool.true_or,Bool.false_or,Bool.or_true,Bool.or_false,Bool.not_true,Bool.not_false];decide)];simp only [q6,q7,Bool.true_or,Bool.false_or,Bool.or_true,Bool.or_false,Bool.not_true,Bool.not_false];rfl
  rw [if_neg (by rw [e];decide),e];exact sR))
 <| fun q7=>have p7:=decF q7;have hnl:n.l=[]:=List.eq_nil_of_length_eq_zero (by omega);.ord [0,1,2,3,4,6,5,7,8,9]<|.u 6 [b1,b2,b2]<|
 .call (Qb6 f d s f.next okf hp hs)<|
 .cs (args0:=[.agg [.sl 5 false ((enterF f d s f.next).l.map nodA),aI ((enterF f d s f.next).next)],.agg [aI f.next,aI n.kind,aI 1,aS n.text,.sl 2 false (n.l.map entA)]]) (Qdw (enterF f d s f.next) (Qbr (addN f n) []) ⟨okf.1,hx⟩ (by have:=Qme f d s f.next;omega) (Qiw hp d s f.next)) ⟨sR,Sub.aggs ⟨sR,sR,sR,sR,Sub.of_eq (by rw [hnl];rfl),trivial⟩,trivial⟩<|
 .u 2 [b3]<|
 .f (.tup [.agg (fsyA (if Qat f d s n=0 then addF f d s (addN f n) else f)),aI (Qat f d s n)]) [b3] (.tup [.agg [.sl 5 false ((putF (enterF f d s f.next) (Qbr (addN f n) [])).l.map nodA),aI ((putF (enterF f d s f.next) (Qbr (addN f n) [])).next)],aI 0]) (by
  have e:Qat f d s n=0:=by
   unfold Qat;rw [Qaz (bneF q1)];rw [Qaz (bneF q2)];rw [Qaz (by simp only [q3,Bool.true_or,Bool.false_or,Bool.or_true,Bool.or_false,Bool.not_true,Bool.not_false];rfl)];rw [Qaz (by simp only [q4,q5,Bool.true_or,Bool.false_or,Bool.or_true,Bool.or_false,Bool.not_true,Bool.not_false];rfl)];rw [Qaz (by simp only [q6,q7,Bool.true_or,Bool.false_or,Bool.or_true,Bool.or_false,Bool.not_true,Bool.not_false];rfl)];rfl
  rw [if_pos e,e];exact sR))
theorem Qzt (f:Fsy) (d:Int) (s:Txt) (i:Int) (okf:OkF f) (hp:Qar f) (hs:s.length≤1000000):Qah prog 73 [.agg (fsyA f),aI d,aS s,aI i] (.tup [.agg (fsyA (Qdg f d s i)),aI (Qa7 f d s i)]):=by
 have hl:=hp.1;have hr:=Qaf hp;have hlk:=Qeh hp i;exact Qac func73 (
 .new fun b1=>.new fun b2=>.r 1<|.u 2 [b1]<|
 .call (Qhp f d hp)<|
 .r 3<|.new fun b3=>.u 2 [b3]<|
 .r 2<|.br 24 ((dirE f d) != 0) (fun q1=>have p1:=bneT q1;.u 4 [b1,b2]<|
 .f (.tup [.agg (fsyA (Qdg f d s i)),aI (Qa7 f d s i)]) [b2] (.tup [.agg (fsyA f),aI (dirE f d)]) (by
  have e:Qa7 f d s i=dirE f d:=by
   unfold Qa7;rw [Qc8 (bneT q1)]
  rw [show Qdg f d s i=f from if_neg (by rw [e];exact bneT q1),e];exact sR))
 <| fun q1=>have p1:=bneF q1;.u 2 [b1]<|
 .call (Qa1 f i (by omega))<|
 .r 3<|.new fun b4=>.u 2 [b4]<|
 .r 2<|.br 34 (!(Qau f i)) (fun q2=>have q2:=notT q2;have p2:=booF q2;.u 3 [b1,b2]<|
 .f (.tup [.agg (fsyA (Qdg f d s i)),aI (Qa7 f d s i)]) [b2] (.tup [.agg (fsyA f),aI 6]) (by
  have e:Qa7 f d s i=6:=by
   unfold Qa7;rw [Qaz (bneF q1)];rw [Qc8 (by simp only [q2,Bool.true_or,Bool.false_or,Bool.or_true,Bool.or_false,Bool.not_true,Bool.not_false];decide)];simp only [q2,Bool.true_or,Bool.false_or,Bool.or_true,Bool.or_false,Bool.not_true,Bool.not_false];rfl
  rw [show Qdg f d s i=f from if_neg (by rw [e];decide),e];exact sR))
 <| fun q2=>have q2:=notF q2;have p2:=booT q2;.u 3 [b4]<|
 .br 38 (((Qaa f i).kind)==2) (fun q3=>have p3:=beqT q3;.u 3 [b1,b2]<|
 .f (.tup [.agg (fsyA (Qdg f d s i)),aI (Qa7 f d s i)]) [b2] (.tup [.agg (fsyA f),aI 9]) (by
  have e:Qa7 f d s i=9:=by
   unfold Qa7;rw [Qaz (bneF q1)];rw [Qaz (by simp only [q2,Bool.true_or,Bool.false_or,Bool.or_true,Bool.or_false,Bool.not_true,Bool.not_false];rfl)];rw [Qc8 (by simp only [q3,Bool.true_or,Bool.false_or,Bool.or_true,Bool.or_false,Bool.not_true,Bool.not_false];decide)];simp only [q3,Bool.true_or,Bool.false_or,Bool.or_true,Bool.or_false,Bool.not_true,Bool.not_false];rfl
  rw [show Qdg f d s i=f from if_neg (by rw [e];decide),e];exact sR))
 <| fun q3=>have p3:=beqF q3;.r 1<|.call (Qed s (by omega))<|
 .r 1<|.r 2<|.br 43 ((Qai s) != 0) (fun q4=>have p4:=bneT q4;.u 4 [b1,b2]<|
 .f (.tup [.agg (fsyA (Qdg f d s i)),aI (Qa7 f d s i)]) [b2] (.tup [.agg (fsyA f),aI (Qai s)]) (by
  have e:Qa7 f d s i=Qai s:=by
   unfold Qa7;rw [Qaz (bneF q1)];rw [Qaz (by simp only [q2,Bool.true_or,Bool.false_or,Bool.or_true,Bool.or_false,Bool.not_true,Bool.not_false];rfl)];rw [Qaz (by simp only [q3,Bool.true_or,Bool.false_or,Bool.or_true,Bool.or_false,Bool.not_true,Bool.not_false];rfl)];rw [Qc8 (bneT q4)]
  rw [show Qdg f d s i=f from if_neg (by rw [e];exact bneT q4),e];exact sR))
 <| fun q4=>have p4:=bneF q4;.u 3 [b3]<|
 .call (Qeb (dirN f d).l s (by have:=(Qdo hp d).2;omega))<|
 .r 5<|.r 1<|.br 53 (isB (dirN f d).l s) (fun q5=>have p5:=booT q5;.u 3 [b1,b2]<|
 .f (.tup [.agg (fsyA (Qdg f d s i)),aI (Qa7 f d s i)]) [b2] (.tup [.agg (fsyA f),aI 7]) (by
  have e:Qa7 f d s i=7:=by
   unfold Qa7;rw [Qaz (bneF q1)];rw [Qaz (by simp only [q2,Bool.true_or,Bool.false_or,Bool.or_true,Bool.or_false,Bool.not_true,Bool.not_false];rfl)];rw [Qaz (by simp only [q3,Bool.true_or,Bool.false_or,Bool.or_true,Bool.or_false,Bool.not_true,Bool.not_false];rfl)];rw [Qaz (bneF q4)];rw [Qc8 (by simp only [q5,Bool.true_or,Bool.false_or,Bool.or_true,Bool.or_false,Bool.not_true,Bool.not_false];decide)];simp only [q5,Bool.true_or,Bool.false_or,Bool.or_true,Bool.or_false,Bool.not_true,Bool.not_false];rfl
  rw [show Qdg f d s i=f from if_neg (by rw [e];decide),e];exact sR))
 <| fun q5=>have p5:=booF q5;.u 3 [b3]<|
 .lm 57 ((dirN f d).l) entA<|.r 2<|.br 59 (decide ((((dirN f d).l).length:Int)≥256)) (fun q6=>have p6:=decT q6;.r 4<|.u 3 [b1,b2]<|
 .f (.tup [.agg (fsyA (Qdg f d s i)),aI (Qa7 f d s i)]) [b2] (.tup [.agg (fsyA f),aI 12]) (by
  have e:Qa7 f d s i=12:=by
   unfold Qa7;rw [Qaz (bneF q1)];rw [Qaz (by simp only [q2,Bool.true_or,Bool.false_or,Bool.or_true,Bool.or_false,Bool.not_true,Bool.not_false];rfl)];rw [Qaz (by simp only [q3,Bool.true_or,Bool.false_or,Bool.or_true,Bool.or_false,Bool.not_true,Bool.not_false];rfl)];rw [Qaz (bneF q4)];rw [Qaz (by simp only [q5,Bool.true_or,Bool.false_or,Bool.or_true,Bool.or_false,Bool.not_true,Bool.not_false];rfl)];rw [Qc8 (by simp only [q6,Bool.true_or,Bool.false_or,Bool.or_true,Bool.or_false,Bool.not_true,Bool.not_false];decide)];simp only [q6,Bool.true_or,Bool.false_or,Bool.or_true,Bool.or_false,Bool.not_true,Bool.not_false];rfl
  rw [show Qdg f d s i=f from if_neg (by rw [e];decide),e];exact sR))
 <| fun q6=>have p6:=decF q6;.u 4 [b4]<|
 .br 63 (decide (((Qaa f i).links)≥64)) (fun q7=>have p7:=decT q7;.u 3 [b1,b2]<|
 .f (.tup [.agg (fsyA (Qdg f d s i)),aI (Qa7 f d s i)]) [b2] (.tup [.agg (fsyA f),aI 12]) (by
  have e:Qa7 f d s i=12:=by
   unfold Qa7;rw [Qaz (bneF q1)];rw [Qaz (by simp only [q2,Bool.true_or,Bool.false_or,Bool.or_true,Bool.or_false,Bool.not_true,Bool.not_false];rfl)];rw [Qaz (by simp only [q3,Bool.true_or,Bool.false_or,Bool.or_true,Bool.or_false,Bool.not_true,Bool.not_false];rfl)];rw [Qaz (bneF q4)];rw [Qaz (by simp only [q5,Bool.true_or,Bool.false_or,Bool.or_true,Bool.or_false,Bool.not_true,Bool.not_false];rfl)];rw [Qc8 (by simp only [q6,q7,Bool.true_or,Bool.false_or,Bool.or_true,Bool.or_false,Bool.not_true,Bool.not_false];decide)];simp only [q6,q7,Bool.true_or,Bool.false_or,Bool.or_true,Bool.or_false,Bool.not_true,Bool.not_false];rfl
  rw [show Qdg f d s i=f from if_neg (by rw [e];decide),e];exact sR))
 <| fun q7=>have p7:=decF q7;.run 5 [b4=b4,rng .i64 (((Qaa f i).links)+1),b4=b4] ⟨rfl,Qak (by omega) (by omega),rfl,trivial⟩<|
 .ord [0,1,2,3,5,4,6,7,8]<|.u 5 [b1,b4]<|
 .call (Qb6 f d s i okf hp hs)<|
 .cs (args0:=[.agg [.sl 5 false ((enterF f d s i).l.map nodA),aI ((enterF f d s i).next)],.agg [aI ((Qaa f i).ino),aI ((Qaa f i).kind),aI (((Qaa f i).links)+1),aS ((Qaa f i).text),.sl 2 false ((Qaa f i).l.map entA)]]) (Qdw (enterF f d s i) (Qlz (Qaa f i)) (Qcb okf hp i) (by have:=Qme f d s i;omega) (Qiw hp d s i)) sr2<|
 .u 2 [b2]<|
 .f (.tup [.agg (fsyA (Qdg f d s i)),aI (Qa7 f d s i)]) [b2] (.tup [.agg [.sl 5 false ((putF (enterF f d s i) (Qlz (Qaa f i))).l.map nodA),aI ((putF (enterF f d s i) (Qlz (Qaa f i))).next)],aI 0]) (by
  have e:Qa7 f d s i=0:=by
   unfold Qa7;rw [Qaz (bneF q1)];rw [Qaz (by simp only [q2,Bool.true_or,Bool.false_or,Bool.or_true,Bool.or_false,Bool.not_true,Bool.not_false];rfl)];rw [Qaz (by simp only [q3,Bool.true_or,Bool.false_or,Bool.or_true,Bool.or_false,Bool.not_true,Bool.not_false];rfl)];rw [Qaz (bneF q4)];rw [Qaz (by simp only [q5,Bool.true_or,Bool.false_or,Bool.or_true,Bool.or_false,Bool.not_true,Bool.not_false];rfl)];rw [Qaz (by simp only [q6,q7,Bool.true_or,Bool.false_or,Bool.or_true,Bool.or_false,Bool.not_true,Bool.not_false];rfl)];rfl
  rw [show Qdg f d s i=Qd2 f d s i (Qaa f i) from if_pos e,e];exact sR))
end Go.Proofs.YtahlldgocpabjaaGreat

namespace Go.Proofs.YtahlldgocpabjaaGreat
open Go Go.RowKit Copyhold Go.Proofs.Tryz
open Copyhold.Name (Srt insE delE getE isAt)
theorem Zbt {f:Fsy} {d:Int} {s:Txt} (okf:OkF f) (hp:Qar f) (h:Qa3 f d s=0) (hz:¬ ((lookN f d s).l.length:Int)>0) :
  OkF (leaveF f d s)∧Qar (leaveF f d s)∧Qnk (leaveF f d s) (lookN f d s).ino=Qbd f d s (lookN f d s)∧Qbg f d s=0:=by
 obtain ⟨e,j,n,a1,a2,a3,a4,a5⟩:=(Qkd hp).1 h;have hn:=(Qfx a1 a2 a3 a4 a5).2;rw [hn] at hz ⊢;have hnl:n.l=[]:=List.eq_nil_of_length_eq_zero (by omega);have hnj:=Qc9 a5;have hne:¬ j=d:=fun ej=>by
  rw [ej,a1] at a5;obtain rfl:=Option.some.inj a5;rw [hnl] at a4;cases a4
 obtain ⟨l1,l2,l3,l4,l5⟩:=Qd0 (s:=s) okf hp a1 a2;have hfl:Qc7 n=false:=by unfold Qc7;rw [hnl];simp
 refine ⟨l1,l2,Qs2 ?_,?_⟩
 ·refine (Qgq ?_).2;rw [hnj,l5,if_neg hne];exact a5
 ·unfold Qbg;rw [Qtj,if_pos h,hn,hfl];rfl
theorem Zbu {f:Fsy} {d:Int} {s:Txt} (hp:Qar f) (h:Qa3 f d s=0) (hz:((lookN f d s).l.length:Int)>0):Qbg f d s=11:=by
 obtain ⟨e,j,n,a1,a2,a3,a4,a5⟩:=(Qkd hp).1 h;have hn:=(Qfx a1 a2 a3 a4 a5).2;unfold Qbg;rw [Qtj,if_pos h];rw [hn] at hz ⊢;have hk:n.kind=2:=by
  by_cases hk:n.kind=2
  ·exact hk
  ·rw [Qgm (Qbk hp a5).1 hk] at hz;simp at hz
 unfold Qc7 Qae;rw [hk,decide_eq_true hz];rfl
theorem Zha {f:Fsy} {d:Int} {s:Txt} (h:¬ Qa3 f d s=0):Qbg f d s=Qa3 f d s:=by unfold Qbg;rw [Qtj,if_neg h]
theorem Qo5 (f:Fsy) (d:Int) (s:Txt) (okf:OkF f) (hp:Qar f) (hs:s.length≤1000000):Qah prog 121 [.agg (fsyA f),aI d,aS s] (.tup [.agg (fsyA (Qeq f d s)),aI (Qbg f d s)]):=by
 have hl:=hp.1;have hr:=Qaf hp;exact Qac func121 (
 .new fun b1=>.new fun b2=>.r 1<|.u 3 [b1]<|
 .call (Qec f d s hp hs)<|
 .r 3<|.new fun b3=>.u 2 [b3]<|
 .r 2<|.br 18 ((Qa3 f d s) != 0) (fun q1=>have p1:=bneT q1;.u 4 [b1,b2]<|
 .f (.tup [.agg (fsyA (Qeq f d s)),aI (Qbg f d s)]) [b2] (.tup [.agg (fsyA f),aI (Qa3 f d s)]) (by
  have e:=Zha (bneT q1);have e2:Qeq f d s=f:=if_neg (by rw [e];exact bneT q1);rw [e2,e];exact sR))
 <| fun q1=>have p1:=bneF q1;have h0:Qa3 f d s=0:=bneF q1;.u 3 [b3]<|
 .lm 23 ((lookN f d s).l) entA<|.r 1<|.bd 24 ((((lookN f d s).l).length:Int)>0) (fun p2=>.u 3 [b1,b2]<|
 .f (.tup [.agg (fsyA (Qeq f d s)),aI (Qbg f d s)]) [b2] (.tup [.agg (fsyA f),aI 11]) (by
  have e:=Zbu hp h0 (by omega);have e2:Qeq f d s=f:=if_neg (by rw [e];decide);rw [e2,e];exact sR))
 <| fun p2=>have htl:=Zbt okf hp h0 (by omega);.ord [0,1,2,4,5,3,6,7,8]<|.u 5 [b1,b3]<|
 .call (Qcp f d s okf hp hs)<|
 .call (Qk4 (leaveF f d s) (lookN f d s).ino htl.1 htl.2.1)<|
 .u 2 [b2]<|
 .f (.tup [.agg (fsyA (Qeq f d s)),aI (Qbg f d s)]) [b2] (.tup [.agg [.sl 5 false ((Qnk (leaveF f d s) (lookN f d s).ino).l.map nodA),aI ((Qnk (leaveF f d s) (lookN f d s).ino).next)],aI 0]) (by
  have e2:Qeq f d s=Qbd f d s (lookN f d s):=if_pos htl.2.2.2;rw [e2,htl.2.2.2,← htl.2.2.1];exact sR))
end Go.Proofs.YtahlldgocpabjaaGreat

namespace Go.Proofs.YtahlldgocpabjaaGreat
open Go Go.RowKit Copyhold Go.Proofs.Tryz
def midF (f:Fsy):Prop:=f.l.length+(f.l.map wN).sum≤260
theorem Dst.leM {f:Fsy} {U:List Int} (h:Dst f U) (hf:midF f):U.length≤260:=by
 have:=Qqn h.1 h.2;rw [Qx2] at this;unfold midF at hf;omega
theorem UH.stepM {f:Fsy} {i:Int} {U:List Int} {p j:Nat} {z:Int} (hf:midF f) (h:UH f i U p) (hz:U[p]?=some z) (hj:(Qaa f z).l.length≤j):UH f i (addE U ((Qaa f z).l.take j)) (p+1):=by
 obtain ⟨h1,h2,h3⟩:=h;have hp:=Qap hz;have hl:=h1.leM hf;refine ⟨Qdu h1 z j,by have:=Qy0 ((Qaa f z).l.take j) U;omega,?_⟩;rw [Qav hj,← h3,show 300-p=(300-(p+1))+1 from by omega];simp only [goU,hz]
theorem Qr7 {f:Fsy} (hf:midF f) (i:Int):(Qc4 f i).length≤260:=
 (Ze4 300 0 (Qfu (Dst.nil f) fun e he=>Qfs he)).leM hf
theorem Zf7 {f:Fsy} (hf:midF f) (i:Int) (k:Nat):((f.l.take k).map (cntE i)).sum≤260:=by
 have:=Zf6 i f.l;have:=Qe7 (cntE i) f.l k;unfold midF at hf;omega
theorem Qvp (f:Fsy) (i:Int) (okf:OkF f) (hf:midF f):Qah prog 86 [.agg (fsyA f),aI i] (aI (Qpg f i:Int)):=by
 have hfl:=okf.2.1;exact Qac func86 (
 .new fun b1=>.r 1<|.r 1<|.r 1<|let L1:Lp (Nat):=⟨fun a1=>⟨[(1,aI i),(2,.ptr 2 b1 0),(6,aI (a1:Int)),(5,aI (((f.l.take a1).map (cntE i)).sum:Int))],[(2,.box b1 28 (fsyA f))]⟩,fun a1=>f.l.length-a1,fun a1=>a1≤f.l.length⟩
 .lp L1 0 (show 0≤f.l.length from Nat.zero_le _) [(6,aI 0),(5,aI 0)] [] ⟨sR,sR,sO,sO,trivial⟩ bb1 fun a1 ha1=>
 (fun (k:Nat) (hH1:k≤f.l.length)=>have hs1:=Zf7 hf i k;.u 4 [b1]<|
 .lm 11 f.l nodA<|.r 1<|.bd 12 ((k:Int)<(f.l.length:Int)) (fun p1=>.r 1<|.ex (Qdm (l:=f.l) (k:=k) (by omega)) fun x1 hx1=>
 have okx1:=okf.2.2 x1 (List.mem_of_getElem? hx1);have blx1:=okx1.2.2.2.2.1;let L2:Lp (Nat):=⟨fun a2=>⟨[(1,aI i),(2,.ptr 2 b1 0),(6,aI (k:Int)),(7,aI (a2:Int)),(5,aI ((((f.l.take k).map (cntE i)).sum+cntK i x1.l a2:Nat):Int))],[(2,.box b1 28 (fsyA f))]⟩,fun a2=>x1.l.length-a2,fun a2=>a2≤x1.l.length⟩
 .lp L2 0 (show 0≤x1.l.length from Nat.zero_le _) [(7,aI 0),(5,aI (((f.l.take k).map (cntE i)).sum:Int))] [] ⟨sR,sR,sR,sO,Sub.of_eq (congrArg aI (by simp [cntK])),trivial⟩ bb1 fun a2 ha2=>
 (fun (j:Nat) (hH2:j≤x1.l.length)=>have hs2:=Zni i x1.l j;.u 4 [b1]<|
 .idx k (m:=(k:Int)) (xs:=f.l.map nodA) (e:=nodA x1) rfl (map_some hx1)<|
 .r 3<|.lm 22 x1.l entA<|.r 1<|.bd 23 ((j:Int)<(x1.l.length:Int)) (fun p2=>.u 3 [b1]<|
 .idx k (m:=(k:Int)) (xs:=f.l.map nodA) (e:=nodA x1) rfl (map_some hx1)<|
 .r 3<|.idxM x1.l entA j (m:=(j:Int)) rfl (by omega) fun x2 hx2=>
 .r 4<|.br 37 (x2.ino==i) (fun q3=>have p3:=beqT q3;.run 3 [rng .i64 (((((f.l.take k).map (cntE i)).sum+cntK i x1.l j:Nat):Int)+1)] ⟨Qak (by omega) (by omega),trivial⟩<|
 .run 3 [rng .i64 ((j:Int)+1)] ⟨Qak (by omega) (by omega),trivial⟩<|
 .bk L2 j (j+1) (show (j+1)≤x1.l.length from (by show _≤_;omega)) (show x1.l.length-(j+1)<x1.l.length-j from (by omega)) [(7,aI ((j:Int)+1)),(5,aI (((((f.l.take k).map (cntE i)).sum+cntK i x1.l j:Nat):Int)+1))] [] ⟨sR,sR,sR,sO,Sub.of_eq (congrArg aI (by rw [Zjx hx2 q3]<;>omega)),trivial⟩ bb1)
 <| fun q3=>have p3:=beqF q3;.run 3 [rng .i64 ((j:Int)+1)] ⟨Qak (by omega) (by omega),trivial⟩<|
 .bk L2 j (j+1) (show (j+1)≤x1.l.length from (by show _≤_;omega)) (show x1.l.length-(j+1)<x1.l.length-j from (by omega)) [(7,aI ((j:Int)+1)),(5,aI ((((f.l.take k).map (cntE i)).sum+cntK i x1.l j:Nat):Int))] [] ⟨sR,sR,sR,sO,Sub.of_eq (congrArg aI (by rw [Znh hx2 q3]<;>omega)),trivial⟩ bb1)
 <| fun p2=>.run 3 [rng .i64 ((k:Int)+1)] ⟨Qak (by omega) (by omega),trivial⟩<|
 .bk L1 k (k+1) (show (k+1)≤f.l.length from (by show _≤_;omega)) (show f.l.length-(k+1)<f.l.length-k from (by omega)) [(6,aI ((k:Int)+1)),(5,aI ((((f.l.take k).map (cntE i)).sum+cntK i x1.l j:Nat):Int))] [] ⟨sR,sR,sO,Sub.of_eq (congrArg aI (by rw [Ql4 (cntE i) hx1,← Zjy (i:=i) (n:=x1) (j:=j) (by omega)]<;>omega)),trivial⟩ bb1) a2 ha2)
 <| fun p1=>.r 2<|.f (aI (Qpg f i:Int)) [] (aI (((f.l.take k).map (cntE i)).sum:Int)) (by exact Sub.of_eq (congrArg aI (by rw [Qav (by omega)];rfl)))) a1 ha1)
theorem Qml (f:Fsy) (i:Int) (okf:OkF f) (hf:midF f):Qah prog 85 [.agg (fsyA f),aI i] (.sl 1 false ((Qc4 f i).map intA)):=by
 have hfl:=okf.2.1;have hfb:=fun i=>(Qd4 okf i).2.2.2.2.1;exact Qac func85 (
 .new fun b1=>.r 1<|.r 1<|.rowNil 5 5 3 1<|.u 2 [b1]<|
 .call (Qa1 f i (by omega))<|
 .r 3<|.new fun b2=>.u 2 [b2]<|
 .r 1<|let L1:Lp (Nat × Value):=⟨fun a1=>⟨[(2,.ptr 2 b1 0),(6,.ptr 6 b2 0),(8,aI (a1.1:Int)),(5,.rw 5 a1.2 ((addE [] ((Qaa f i).l.take a1.1)).length))],[(2,.box b1 28 (fsyA f)),(5,.row a1.2 3 1 ((addE [] ((Qaa f i).l.take a1.1)).map intA)),(6,.box b2 84 [aI ((Qaa f i).ino),aI ((Qaa f i).kind),aI ((Qaa f i).links),aS ((Qaa f i).text),.sl 2 false ((Qaa f i).l.map entA)])]⟩,fun a1=>(Qaa f i).l.length-a1.1,fun a1=>a1.1≤(Qaa f i).l.length⟩
 .lp L1 (0,(.slice none 0 0)) (show 0≤(Qaa f i).l.length from Nat.zero_le _) [(8,aI 0),(5,.rw 5 (.slice none 0 0) 0)] [(5,.row (.slice none 0 0) 3 1 ([]))] ⟨sR,sR,sO,Sub.of_eq (congrArg (AV.rw 5 (.slice none 0 0)) (by simp [addE])),trivial⟩ ⟨sB,⟨_,rfl,SubB.of_eq (by simp [addE])⟩,sB,trivial⟩ fun a1 ha1=>
 (fun (j:Nat) (V:Value) (hH1:j≤(Qaa f i).l.length)=>have hd1:=(Qdu (Dst.nil f) i j).leM hf;have hb1:=hfb i;.u 4 [b2]<|
 .lm 24 ((Qaa f i).l) entA<|.r 1<|.bd 25 ((j:Int)<(((Qaa f i).l).length:Int)) (fun p1=>.u 4 [b2]<|
 .idxM ((Qaa f i).l) entA j (m:=(j:Int)) rfl (by omega) fun x1 hx1=>
 .r 2<|.op (cbR prog 5) ((87,[.rw 5 V ((addE [] ((Qaa f i).l.take j)).length),aI x1.ino],some 35),(V,3,1,(addE [] ((Qaa f i).l.take j)).map intA)) (fun (_:Unit) σ=>σ.put (some 35) (aB (hasB (addE [] ((Qaa f i).l.take j)) x1.ino))) (Qp5 (args':=[.sl 1 false ((addE [] ((Qaa f i).l.take j)).map intA),aI x1.ino]) ⟨Fz.row _ _ _ _ _ _ (by first | rfl | (simp;done) | (simp;omega)),Fz.refl _ _,trivial⟩ (Qkg (addE [] ((Qaa f i).l.take j)) x1.ino (by omega)) rfl) fun _=>
 .r 1<|.r 2<|.br 37 (!(hasB (addE [] ((Qaa f i).l.take j)) x1.ino)) (fun q2=>have q2:=notT q2;have p2:=booF q2;.u 4 [b2]<|
 .idx j (m:=(j:Int)) (xs:=(Qaa f i).l.map entA) (e:=entA x1) rfl (map_some hx1)<|
 .r 3<|.app 8 V ((addE [] ((Qaa f i).l.take j)).map intA) ([[aI x1.ino]]) (by simp only [List.length_map,List.length_cons,List.length_nil];omega) (by simp only [List.length_map,List.length_cons,List.length_nil];omega) fun V1=>
 .r 1<|.run 3 [rng .i64 ((j:Int)+1)] ⟨Qak (by omega) (by omega),trivial⟩<|
 .bk L1 (j,V) ((j+1),V1) (show (j+1)≤(Qaa f i).l.length from (by show _≤_;omega)) (show (Qaa f i).l.length-(j+1)<(Qaa f i).l.length-j from (by omega)) [(8,aI ((j:Int)+1)),(5,.rw 5 V1 (((addE [] ((Qaa f i).l.take j)).map intA).length+([[aI x1.ino]]:List (List AV)).length))] [(5,.row V1 3 1 (((addE [] ((Qaa f i).l.take j)).map intA)++([[aI x1.ino]])))] ⟨sR,sR,sO,Sub.of_eq (congrArg (AV.rw 5 V1) (by rw [Qlm hx1 q2];simp)),trivial⟩ ⟨sB,⟨_,rfl,SubB.of_eq (by rw [Qlm hx1 q2];simp [intA])⟩,sB,trivial⟩)
 <| fun q2=>have q2:=notF q2;have p2:=booT q2;.run 3 [rng .i64 ((j:Int)+1)] ⟨Qak (by omega) (by omega),trivial⟩<|
 .bk L1 (j,V) ((j+1),V) (show (j+1)≤(Qaa f i).l.length from (by show _≤_;omega)) (show (Qaa f i).l.length-(j+1)<(Qaa f i).l.length-j from (by omega)) [(8,aI ((j:Int)+1)),(5,.rw 5 V ((addE [] ((Qaa f i).l.take j)).length))] [(5,.row V 3 1 ((addE [] ((Qaa f i).l.take j)).map intA))] ⟨sR,sR,sO,Sub.of_eq (congrArg (AV.rw 5 V) (by rw [Qi1 hx1 q2])),trivial⟩ ⟨sB,⟨_,rfl,SubB.of_eq (by rw [Qi1 hx1 q2])⟩,sB,trivial⟩)
 <| fun p1=>.r 1<|let L2:Lp (Nat × List Int × Value):=⟨fun a2=>⟨[(2,.ptr 2 b1 0),(10,aI (a2.1:Int)),(5,.rw 5 a2.2.2 a2.2.1.length)],[(2,.box b1 28 (fsyA f)),(5,.row a2.2.2 3 1 (a2.2.1.map intA))]⟩,fun a2=>300-a2.1,fun a2=>UH f i a2.2.1 a2.1⟩
 .lp L2 (0,(addE [] ((Qaa f i).l.take j)),V) (show UH f i (addE [] ((Qaa f i).l.take j)) 0 from (UH.zero f i (by omega))) [(10,aI 0)] [] ⟨sR,sO,sR,trivial⟩ bb2 fun a2 ha2=>
 (fun (p:Nat) (U:List Int) (V:Value) (hH2:UH f i U p)=>have hu2:=hH2.1.leM hf;have hp2:=hH2.2.1;.r 4<|.bd 50 ((p:Int)<(U.length:Int)) (fun p3=>.st (rowR 5) (V,3,1,U.map intA) (fun _ σ=>σ) (Qb7 5 (by first | omega | (rw [List.length_map];omega) | (simp<;>omega))) fun a3r=>
 .pick [0,1,2,3,4]<|.u 3 [b1]<|
 .op (ixR prog) (5,V,U.length,1,(p:Int),some 57) (fun (_:Unit) σ=>σ.put (some 57) (.ep 5 V 1 p 0)) (Qfl p a3r.2.1 (by omega) (by first | omega | (rw [List.length_map];omega) | (simp<;>omega))) fun _=>
 .ex (Qdm (l:=U) (k:=p) (by first | omega | (rw [List.length_map];omega) | (simp<;>omega))) fun x2 hx2=>
 .op (ldR prog) (V,1,p,0,V,1,U.map intA,3,some 58) (fun (_:Unit) σ=>σ.put (some 58) (aI x2)) (Qp4 (intA x2) (map_some hx2) (by kernel_rfl)) fun _=>
 .fork<|.alt (.call (Qa1 f x2 (by omega))<|
 .pick [6,7,8,9,10,11]<|.r 3<|.new fun b4=>.u 2 [b4]<|
 .r 1<|let L3:Lp (Nat × Value):=⟨fun a3=>⟨[(2,.ptr 2 b1 0),(10,aI (p:Int)),(11,.ptr 11 b4 0),(13,aI (a3.1:Int)),(5,.rw 5 a3.2 ((addE U ((Qaa f x2).l.take a3.1)).length))],[(2,.box b1 28 (fsyA f)),(5,.row a3.2 3 1 ((addE U ((Qaa f x2).l.take a3.1)).map intA)),(11,.box b4 84 [aI ((Qaa f x2).ino),aI ((Qaa f x2).kind),aI ((Qaa f x2).links),aS ((Qaa f x2).text),.sl 2 false ((Qaa f x2).l.map entA)])]⟩,fun a3=>(Qaa f x2).l.length-a3.1,fun a3=>a3.1≤(Qaa f x2).l.length⟩
 .lp L3 (0,V) (show 0≤(Qaa f x2).l.length from Nat.zero_le _) [(13,aI 0),(5,.rw 5 V U.length)] [(5,.row V 3 1 (U.map intA))] ⟨sR,sR,sR,sO,Sub.of_eq (congrArg (AV.rw 5 V) (by simp [addE])),trivial⟩ ⟨sB,⟨_,rfl,SubB.of_eq (by simp [addE])⟩,sB,trivial⟩ fun a3 ha3=>
 (fun (j:Nat) (Y:Value) (hH3:j≤(Qaa f x2).l.length)=>have hd3:=(Qdu hH2.1 x2 j).leM hf;have hb3:=hfb x2;.u 4 [b4]<|
 .lm 65 ((Qaa f x2).l) entA<|.r 1<|.bd 66 ((j:Int)<(((Qaa f x2).l).length:Int)) (fun p4=>.u 4 [b4]<|
 .idxM ((Qaa f x2).l) entA j (m:=(j:Int)) rfl (by omega) fun x3 hx3=>
 .r 2<|.op (cbR prog 5) ((87,[.rw 5 Y ((addE U ((Qaa f x2).l.take j)).length),aI x3.ino],some 76),(Y,3,1,(addE U ((Qaa f x2).l.take j)).map intA)) (fun (_:Unit) σ=>σ.put (some 76) (aB (hasB (addE U ((Qaa f x2).l.take j)) x3.ino))) (Qp5 (args':=[.sl 1 false ((addE U ((Qaa f x2).l.take j)).map intA),aI x3.ino]) ⟨Fz.row _ _ _ _ _ _ (by first | rfl | (simp;done) | (simp;omega)),Fz.refl _ _,trivial⟩ (Qkg (addE U ((Qaa f x2).l.take j)) x3.ino (by omega)) rfl) fun _=>
 .r 1<|.r 2<|.br 78 (!(hasB (addE U ((Qaa f x2).l.take j)) x3.ino)) (fun q5=>have q5:=notT q5;have p5:=booF q5;.u 4 [b4]<|
 .idx j (m:=(j:Int)) (xs:=(Qaa f x2).l.map entA) (e:=entA x3) rfl (map_some hx3)<|
 .r 3<|.app 8 Y ((addE U ((Qaa f x2).l.take j)).map intA) ([[aI x3.ino]]) (by simp only [List.length_map,List.length_cons,List.length_nil];omega) (by simp only [List.length_map,List.length_cons,List.length_nil];omega) fun V2=>
 .r 1<|.run 3 [rng .i64 ((j:Int)+1)] ⟨Qak (by omega) (by omega),trivial⟩<|
 .bk L3 (j,Y) ((j+1),V2) (show (j+1)≤(Qaa f x2).l.length from (by show _≤_;omega)) (show (Qaa f x2).l.length-(j+1)<(Qaa f x2).l.length-j from (by omega)) [(13,aI ((j:Int)+1)),(5,.rw 5 V2 (((addE U ((Qaa f x2).l.take j)).map intA).length+([[aI x3.ino]]:List (List AV)).length))] [(5,.row V2 3 1 (((addE U ((Qaa f x2).l.take j)).map intA)++([[aI x3.ino]])))] ⟨sR,sR,sR,sO,Sub.of_eq (congrArg (AV.rw 5 V2) (by rw [Qlm hx3 q5];simp)),trivial⟩ ⟨sB,⟨_,rfl,SubB.of_eq (by rw [Qlm hx3 q5];simp [intA])⟩,sB,trivial⟩)
 <| fun q5=>have q5:=notF q5;have p5:=booT q5;.run 3 [rng .i64 ((j:Int)+1)] ⟨Qak (by omega) (by omega),trivial⟩<|
 .bk L3 (j,Y) ((j+1),Y) (show (j+1)≤(Qaa f x2).l.length from (by show _≤_;omega)) (show (Qaa f x2).l.length-(j+1)<(Qaa f x2).l.length-j from (by omega)) [(13,aI ((j:Int)+1)),(5,.rw 5 Y ((addE U ((Qaa f x2).l.take j)).length))] [(5,.row Y 3 1 ((addE U ((Qaa f x2).l.take j)).map intA))] ⟨sR,sR,sR,sO,Sub.of_eq (congrArg (AV.rw 5 Y) (by rw [Qi1 hx3 q5])),trivial⟩ ⟨sB,⟨_,rfl,SubB.of_eq (by rw [Qi1 hx3 q5])⟩,sB,trivial⟩)
 <| fun p4=>.run 3 [rng .i64 ((p:Int)+1)] ⟨Qak (by omega) (by omega),trivial⟩<|
 .bk L2 (p,U,V) ((p+1),(addE U ((Qaa f x2).l.take j)),Y) (show UH f i (addE U ((Qaa f x2).l.take j)) (p+1) from (UH.stepM hf hH2 hx2 (by omega))) (show 300-(p+1)<300-p from (by omega)) [(10,aI ((p:Int)+1))] [] ⟨sR,sO,sR,trivial⟩ bb2) a3.1 a3.2 ha3)
 <| .new fun b5=>.pick [5,6,7,8,10,11]<|.call (Qa1 f x2 (by omega))<|
 .u 5 [b5]<|
 .r 1<|let L3:Lp (Nat × Value):=⟨fun a3=>⟨[(2,.ptr 2 b1 0),(10,aI (p:Int)),(11,.ptr 11 b5 0),(13,aI (a3.1:Int)),(5,.rw 5 a3.2 ((addE U ((Qaa f x2).l.take a3.1)).length))],[(2,.box b1 28 (fsyA f)),(5,.row a3.2 3 1 ((addE U ((Qaa f x2).l.take a3.1)).map intA)),(11,.box b5 84 [aI ((Qaa f x2).ino),aI ((Qaa f x2).kind),aI ((Qaa f x2).links),aS ((Qaa f x2).text),.sl 2 false ((Qaa f x2).l.map entA)])]⟩,fun a3=>(Qaa f x2).l.length-a3.1,fun a3=>a3.1≤(Qaa f x2).l.length⟩
 .lp L3 (0,V) (show 0≤(Qaa f x2).l.length from Nat.zero_le _) [(13,aI 0),(5,.rw 5 V U.length)] [(5,.row V 3 1 (U.map intA))] ⟨sR,sR,sR,sO,Sub.of_eq (congrArg (AV.rw 5 V) (by simp [addE])),trivial⟩ ⟨sB,⟨_,rfl,SubB.of_eq (by simp [addE])⟩,sB,trivial⟩ fun a3 ha3=>
 (fun (j:Nat) (Y:Value) (hH3:j≤(Qaa f x2).l.length)=>have hd3:=(Qdu hH2.1 x2 j).leM hf;have hb3:=hfb x2;.u 4 [b5]<|
 .lm 65 ((Qaa f x2).l) entA<|.r 1<|.bd 66 ((j:Int)<(((Qaa f x2).l).length:Int)) (fun p6=>.u 4 [b5]<|
 .idxM ((Qaa f x2).l) entA j (m:=(j:Int)) rfl (by omega) fun x4 hx4=>
 .r 2<|.op (cbR prog 5) ((87,[.rw 5 Y ((addE U ((Qaa f x2).l.take j)).length),aI x4.ino],some 76),(Y,3,1,(addE U ((Qaa f x2).l.take j)).map intA)) (fun (_:Unit) σ=>σ.put (some 76) (aB (hasB (addE U ((Qaa f x2).l.take j)) x4.ino))) (Qp5 (args':=[.sl 1 false ((addE U ((Qaa f x2).l.take j)).map intA),aI x4.ino]) ⟨Fz.row _ _ _ _ _ _ (by first | rfl | (simp;done) | (simp;omega)),Fz.refl _ _,trivial⟩ (Qkg (addE U ((Qaa f x2).l.take j)) x4.ino (by omega)) rfl) fun _=>
 .r 1<|.r 2<|.br 78 (!(hasB (addE U ((Qaa f x2).l.take j)) x4.ino)) (fun q7=>have q7:=notT q7;have p7:=booF q7;.u 4 [b5]<|
 .idx j (m:=(j:Int)) (xs:=(Qaa f x2).l.map entA) (e:=entA x4) rfl (map_some hx4)<|
 .r 3<|.app 8 Y ((addE U ((Qaa f x2).l.take j)).map intA) ([[aI x4.ino]]) (by simp only [List.length_map,List.length_cons,List.length_nil];omega) (by simp only [List.length_map,List.length_cons,List.length_nil];omega) fun V3=>
 .r 1<|.run 3 [rng .i64 ((j:Int)+1)] ⟨Qak (by omega) (by omega),trivial⟩<|
 .bk L3 (j,Y) ((j+1),V3) (show (j+1)≤(Qaa f x2).l.length from (by show _≤_;omega)) (show (Qaa f x2).l.length-(j+1)<(Qaa f x2).l.length-j from (by omega)) [(13,aI ((j:Int)+1)),(5,.rw 5 V3 (((addE U ((Qaa f x2).l.take j)).map intA).length+([[aI x4.ino]]:List (List AV)).length))] [(5,.row V3 3 1 (((addE U ((Qaa f x2).l.take j)).map intA)++([[aI x4.ino]])))] ⟨sR,sR,sR,sO,Sub.of_eq (congrArg (AV.rw 5 V3) (by rw [Qlm hx4 q7];simp)),trivial⟩ ⟨sB,⟨_,rfl,SubB.of_eq (by rw [Qlm hx4 q7];simp [intA])⟩,sB,trivial⟩)
 <| fun q7=>have q7:=notF q7;have p7:=booT q7;.run 3 [rng .i64 ((j:Int)+1)] ⟨Qak (by omega) (by omega),trivial⟩<|
 .bk L3 (j,Y) ((j+1),Y) (show (j+1)≤(Qaa f x2).l.length from (by show _≤_;omega)) (show (Qaa f x2).l.length-(j+1)<(Qaa f x2).l.length-j from (by omega)) [(13,aI ((j:Int)+1)),(5,.rw 5 Y ((addE U ((Qaa f x2).l.take j)).length))] [(5,.row Y 3 1 ((addE U ((Qaa f x2).l.take j)).map intA))] ⟨sR,sR,sR,sO,Sub.of_eq (congrArg (AV.rw 5 Y) (by rw [Qi1 hx4 q7])),trivial⟩ ⟨sB,⟨_,rfl,SubB.of_eq (by rw [Qi1 hx4 q7])⟩,sB,trivial⟩)
 <| fun p6=>.run 3 [rng .i64 ((p:Int)+1)] ⟨Qak (by omega) (by omega),trivial⟩<|
 .bk L2 (p,U,V) ((p+1),(addE U ((Qaa f x2).l.take j)),Y) (show UH f i (addE U ((Qaa f x2).l.take j)) (p+1) from (UH.stepM hf hH2 hx2 (by omega))) (show 300-(p+1)<300-p from (by omega)) [(10,aI ((p:Int)+1))] [] ⟨sR,sO,sR,trivial⟩ bb2) a3.1 a3.2 ha3)
 <| fun p3=>.r 2<|.frz 5 [4] [] [V=V,U.length=(U.map intA).length] ⟨rfl,(by first | rfl | (simp;done) | (simp;omega)),trivial⟩<|
 .f (.sl 1 false ((Qc4 f i).map intA)) [] (.sl 1 false (U.map intA)) (by exact (Sub.of_eq (by rw [UH.done hH2 (by omega)])).trans (Sub.loose _ _ _))) a2.1 a2.2.1 a2.2.2 ha2) a1.1 a1.2 ha1)
end Go.Proofs.YtahlldgocpabjaaGreat
