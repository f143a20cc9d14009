import Derived.Test.YtahlldgocpabjaaGreatMrgAB
set_option maxRecDepth 100000
set_option maxHeartbeats 8000000
set_option linter.unusedVariables false
set_option linter.unusedSimpArgs false
namespace Go.Proofs.YtahlldgocpabjaaGreat
open Go Go.RowKit Copyhold Go.Proofs.Tryz
theorem tk_1 {f:Fsy} {c:Cal} {dir:Bool} {odd:Int} (hd:Qbu f c=Qcs f c dir odd) (h:¬ Qa3 f c.ino c.name=0):doF f c=(f,errR (Qa3 f c.ino c.name)):=dono (by rw [hd];unfold Qcs;rw [if_neg h];rfl) h
theorem tk_2 {f:Fsy} {c:Cal} {dir:Bool} {odd:Int} (hd:Qbu f c=Qcs f c dir odd) (h:Qa3 f c.ino c.name=0) (h2:(((lookN f c.ino c.name).kind==2) != dir)=true) (ho:¬ odd=0):doF f c=(f,errR odd):=dono (by rw [hd];unfold Qcs;rw [if_pos h,if_pos h2];rfl) ho
theorem tk_3 {f:Fsy} {c:Cal} {dir:Bool} {odd:Int} (hd:Qbu f c=Qcs f c dir odd) (h:Qa3 f c.ino c.name=0) (h2:(((lookN f c.ino c.name).kind==2) != dir)=false):doF f c=(Qd6 f c.ino c.name,errR (Qbf f c.ino c.name)):=by
 have hd2:Qbu f c=(Qd6 f c.ino c.name,errR (Qbf f c.ino c.name)):=by rw [hd];unfold Qcs;rw [if_pos h,if_neg (by rw [h2];decide)]
 by_cases he:Qbf f c.ino c.name=0
 ·exact Qex hd2 he
 ·rw [Qn1 hd2 he,show Qd6 f c.ino c.name=f from if_neg he];rfl
theorem Qua (f:Fsy) (c:Cal) (okf:OkF f) (okc:OkCal c) (hp:Qam f) (hx:f.next<9223372036854775807) (hk:c.kind=6):Qaf prog 71 [.agg (fsyA f),.agg (calA c)] (.tup [.agg (fsyA (doF f c).1),.agg (repA (doF f c).2)]):=by
 have hl:=hp.1;have hr:=Qad hp;have hcn:=okc.name;have hcn2:=okc.name2;have hct:=okc.text;exact Qac func71 (
 .new fun b1=>.new fun b2=>.new fun b3=>.new fun b4=>.r 1<|.new fun b5=>.u 1 [b5]<|
 .u 3 [b2]<|
 .is 12 (show (c.kind==7)=false from (by rw [hk];rfl))<|.u 3 [b2]<|
 .is 16 (show (c.kind==8)=false from (by rw [hk];rfl))<|.u 6 [b1,b2,b2,b5]<|
 .cs (args0:=[.agg (fsyA f),aI c.ino,aS c.name,.agg [aI 0,aI 1,aI 0,aS ([]),aN]]) (Qmd f c.ino c.name ⟨0,1,0,[],[]⟩ okf hp hcn Qp8 hx) ⟨sR,sR,sR,Sub.aggs ⟨sR,sR,sR,sR,Sub.nil _ _,trivial⟩,trivial⟩<|
 .r 3<|.new fun b6=>.u 2 [b6]<|
 .r 2<|.br 38 ((Qaq f c.ino c.name ⟨0,1,0,[],[]⟩) != 0) (fun q1=>have p1:=bneT q1;.ord [0,1,2,3,4]<|.u 2 [b1]<|
 .call (Qbh (Qaq f c.ino c.name ⟨0,1,0,[],[]⟩))<|
 .u 2 [b3,b4]<|
 .f (.tup [.agg (fsyA (doF f c).1),.agg (repA (doF f c).2)]) [b3,b4] (.tup [.agg (fsyA f),.agg [aI ((errR (Qaq f c.ino c.name ⟨0,1,0,[],[]⟩)).e),aI ((errR (Qaq f c.ino c.name ⟨0,1,0,[],[]⟩)).a),aI ((errR (Qaq f c.ino c.name ⟨0,1,0,[],[]⟩)).b),aI ((errR (Qaq f c.ino c.name ⟨0,1,0,[],[]⟩)).n),aS ((errR (Qaq f c.ino c.name ⟨0,1,0,[],[]⟩)).text),.sl 1 false ((errR (Qaq f c.ino c.name ⟨0,1,0,[],[]⟩)).names.map txA)]]) (by
  rw [Zfa (Qo7 hk) rfl (bneT q1)];exact sR))
 <| fun q1=>have p1:=bneF q1;let J1:Jn (Unit):=⟨fun j1=>⟨[(4,.ptr 4 b3 0),(5,.ptr 5 b4 0)],[(4,.box b3 28 [.sl 5 false ((if Qaq f c.ino c.name ⟨0,1,0,[],[]⟩=0 then addF f c.ino c.name (addN f ⟨0,1,0,[],[]⟩) else f).l.map nodA),aI ((if Qaq f c.ino c.name ⟨0,1,0,[],[]⟩=0 then addF f c.ino c.name (addN f ⟨0,1,0,[],[]⟩) else f).next)]),(5,.box b4 45 [aI 0,aI f.next,aI 0,aI 0,aS ([]),aN])]⟩,fun _=>True⟩
 .cut J1 (.pick [0,1]<|.u 2 [b6]<|
 .fork<|.alt (.u 1 [b1]<|
 .pick [3,4,5]<|.u 3 [b3,b4]<|
 .jo J1 () [] [] sr2 bb2)
 <| .u 1 [b3]<|
 .pick [2,3,5]<|.u 3 [b1,b4]<|
 .jo J1 () [] [] sr2 bb2)
 <| fun _ _=>.f (.tup [.agg (fsyA (doF f c).1),.agg (repA (doF f c).2)]) [b3,b4] (.tup [.agg [.sl 5 false ((if Qaq f c.ino c.name ⟨0,1,0,[],[]⟩=0 then addF f c.ino c.name (addN f ⟨0,1,0,[],[]⟩) else f).l.map nodA),aI ((if Qaq f c.ino c.name ⟨0,1,0,[],[]⟩=0 then addF f c.ino c.name (addN f ⟨0,1,0,[],[]⟩) else f).next)],.agg [aI 0,aI f.next,aI 0,aI 0,aS ([]),aN]]) (by
  have h0:=bneF q1;rw [Qvs (Qo7 hk) h0,if_pos h0];exact Sub.tups ⟨sR,Qbn _ _ _ _ _,trivial⟩))
theorem Qt9 (f:Fsy) (c:Cal) (okf:OkF f) (okc:OkCal c) (hp:Qam f) (hx:f.next<9223372036854775807) (hk:c.kind=7):Qaf prog 71 [.agg (fsyA f),.agg (calA c)] (.tup [.agg (fsyA (doF f c).1),.agg (repA (doF f c).2)]):=by
 have hl:=hp.1;have hr:=Qad hp;have hcn:=okc.name;have hcn2:=okc.name2;have hct:=okc.text;exact Qac func71 (
 .new fun b1=>.new fun b2=>.new fun b3=>.new fun b4=>.r 1<|.new fun b5=>.u 1 [b5]<|
 .u 3 [b2]<|
 .is 12 (show (c.kind==7)=true from (by rw [hk];rfl))<|.u 2 [b5]<|
 .u 3 [b2]<|
 .is 16 (show (c.kind==8)=false from (by rw [hk];rfl))<|.u 6 [b1,b2,b2,b5]<|
 .cs (args0:=[.agg (fsyA f),aI c.ino,aS c.name,.agg [aI 0,aI 2,aI 0,aS ([]),aN]]) (Qmd f c.ino c.name ⟨0,2,0,[],[]⟩ okf hp hcn Qu0 hx) ⟨sR,sR,sR,Sub.aggs ⟨sR,sR,sR,sR,Sub.nil _ _,trivial⟩,trivial⟩<|
 .r 3<|.new fun b6=>.u 2 [b6]<|
 .r 2<|.br 38 ((Qaq f c.ino c.name ⟨0,2,0,[],[]⟩) != 0) (fun q1=>have p1:=bneT q1;.ord [0,1,2,3,4]<|.u 2 [b1]<|
 .call (Qbh (Qaq f c.ino c.name ⟨0,2,0,[],[]⟩))<|
 .u 2 [b3,b4]<|
 .f (.tup [.agg (fsyA (doF f c).1),.agg (repA (doF f c).2)]) [b3,b4] (.tup [.agg (fsyA f),.agg [aI ((errR (Qaq f c.ino c.name ⟨0,2,0,[],[]⟩)).e),aI ((errR (Qaq f c.ino c.name ⟨0,2,0,[],[]⟩)).a),aI ((errR (Qaq f c.ino c.name ⟨0,2,0,[],[]⟩)).b),aI ((errR (Qaq f c.ino c.name ⟨0,2,0,[],[]⟩)).n),aS ((errR (Qaq f c.ino c.name ⟨0,2,0,[],[]⟩)).text),.sl 1 false ((errR (Qaq f c.ino c.name ⟨0,2,0,[],[]⟩)).names.map txA)]]) (by
  rw [Zfa (Qss hk) rfl (bneT q1)];exact sR))
 <| fun q1=>have p1:=bneF q1;let J1:Jn (Unit):=⟨fun j1=>⟨[(4,.ptr 4 b3 0),(5,.ptr 5 b4 0)],[(4,.box b3 28 [.sl 5 false ((if Qaq f c.ino c.name ⟨0,2,0,[],[]⟩=0 then addF f c.ino c.name (addN f ⟨0,2,0,[],[]⟩) else f).l.map nodA),aI ((if Qaq f c.ino c.name ⟨0,2,0,[],[]⟩=0 then addF f c.ino c.name (addN f ⟨0,2,0,[],[]⟩) else f).next)]),(5,.box b4 45 [aI 0,aI f.next,aI 0,aI 0,aS ([]),aN])]⟩,fun _=>True⟩
 .cut J1 (.pick [0,1]<|.u 2 [b6]<|
 .fork<|.alt (.u 1 [b1]<|
 .pick [3,4,5]<|.u 3 [b3,b4]<|
 .jo J1 () [] [] sr2 bb2)
 <| .u 1 [b3]<|
 .pick [2,3,5]<|.u 3 [b1,b4]<|
 .jo J1 () [] [] sr2 bb2)
 <| fun _ _=>.f (.tup [.agg (fsyA (doF f c).1),.agg (repA (doF f c).2)]) [b3,b4] (.tup [.agg [.sl 5 false ((if Qaq f c.ino c.name ⟨0,2,0,[],[]⟩=0 then addF f c.ino c.name (addN f ⟨0,2,0,[],[]⟩) else f).l.map nodA),aI ((if Qaq f c.ino c.name ⟨0,2,0,[],[]⟩=0 then addF f c.ino c.name (addN f ⟨0,2,0,[],[]⟩) else f).next)],.agg [aI 0,aI f.next,aI 0,aI 0,aS ([]),aN]]) (by
  have h0:=bneF q1;rw [Qvs (Qss hk) h0,if_pos h0];exact Sub.tups ⟨sR,Qbn _ _ _ _ _,trivial⟩))
theorem Qt8 (f:Fsy) (c:Cal) (okf:OkF f) (okc:OkCal c) (hp:Qam f) (hx:f.next<9223372036854775807) (hk:c.kind=8):Qaf prog 71 [.agg (fsyA f),.agg (calA c)] (.tup [.agg (fsyA (doF f c).1),.agg (repA (doF f c).2)]):=by
 have hl:=hp.1;have hr:=Qad hp;have hcn:=okc.name;have hcn2:=okc.name2;have hct:=okc.text;exact Qac func71 (
 .new fun b1=>.new fun b2=>.new fun b3=>.new fun b4=>.r 1<|.new fun b5=>.u 1 [b5]<|
 .u 3 [b2]<|
 .is 12 (show (c.kind==7)=false from (by rw [hk];rfl))<|.u 3 [b2]<|
 .is 16 (show (c.kind==8)=true from (by rw [hk];rfl))<|.u 2 [b5]<|
 .u 4 [b2,b5]<|
 .u 4 [b2]<|
 .bd 24 (((c.text).length:Int)>4096) (fun p1=>.ord [0,1,2,3]<|.u 1 [b1]<|
 .call (Qbh 5)<|
 .u 2 [b3,b4]<|
 .f (.tup [.agg (fsyA (doF f c).1),.agg (repA (doF f c).2)]) [b3,b4] (.tup [.agg (fsyA f),.agg [aI ((errR 5).e),aI ((errR 5).a),aI ((errR 5).b),aI ((errR 5).n),aS ((errR 5).text),.sl 1 false ((errR 5).names.map txA)]]) (by
  rw [Zkg hk (by omega)];exact sR))
 <| fun p1=>.u 6 [b1,b2,b2,b5]<|
 .cs (args0:=[.agg (fsyA f),aI c.ino,aS c.name,.agg [aI 0,aI 3,aI 0,aS c.text,aN]]) (Qmd f c.ino c.name ⟨0,3,0,c.text,[]⟩ okf hp hcn (Qp6 (by omega)) hx) ⟨sR,sR,sR,Sub.aggs ⟨sR,sR,sR,sR,Sub.nil _ _,trivial⟩,trivial⟩<|
 .r 3<|.new fun b6=>.u 2 [b6]<|
 .r 2<|.br 38 ((Qaq f c.ino c.name ⟨0,3,0,c.text,[]⟩) != 0) (fun q2=>have p2:=bneT q2;.ord [0,1,2,3,4]<|.u 2 [b1]<|
 .call (Qbh (Qaq f c.ino c.name ⟨0,3,0,c.text,[]⟩))<|
 .u 2 [b3,b4]<|
 .f (.tup [.agg (fsyA (doF f c).1),.agg (repA (doF f c).2)]) [b3,b4] (.tup [.agg (fsyA f),.agg [aI ((errR (Qaq f c.ino c.name ⟨0,3,0,c.text,[]⟩)).e),aI ((errR (Qaq f c.ino c.name ⟨0,3,0,c.text,[]⟩)).a),aI ((errR (Qaq f c.ino c.name ⟨0,3,0,c.text,[]⟩)).b),aI ((errR (Qaq f c.ino c.name ⟨0,3,0,c.text,[]⟩)).n),aS ((errR (Qaq f c.ino c.name ⟨0,3,0,c.text,[]⟩)).text),.sl 1 false ((errR (Qaq f c.ino c.name ⟨0,3,0,c.text,[]⟩)).names.map txA)]]) (by
  rw [Zfa (Qz9 hk (by omega)) rfl (bneT q2)];exact sR))
 <| fun q2=>have p2:=bneF q2;let J1:Jn (Unit):=⟨fun j1=>⟨[(4,.ptr 4 b3 0),(5,.ptr 5 b4 0)],[(4,.box b3 28 [.sl 5 false ((if Qaq f c.ino c.name ⟨0,3,0,c.text,[]⟩=0 then addF f c.ino c.name (addN f ⟨0,3,0,c.text,[]⟩) else f).l.map nodA),aI ((if Qaq f c.ino c.name ⟨0,3,0,c.text,[]⟩=0 then addF f c.ino c.name (addN f ⟨0,3,0,c.text,[]⟩) else f).next)]),(5,.box b4 45 [aI 0,aI f.next,aI 0,aI 0,aS ([]),aN])]⟩,fun _=>True⟩
 .cut J1 (.pick [0,1]<|.u 2 [b6]<|
 .fork<|.alt (.u 1 [b1]<|
 .pick [3,4,5]<|.u 3 [b3,b4]<|
 .jo J1 () [] [] sr2 bb2)
 <| .u 1 [b3]<|
 .pick [2,3,5]<|.u 3 [b1,b4]<|
 .jo J1 () [] [] sr2 bb2)
 <| fun _ _=>.f (.tup [.agg (fsyA (doF f c).1),.agg (repA (doF f c).2)]) [b3,b4] (.tup [.agg [.sl 5 false ((if Qaq f c.ino c.name ⟨0,3,0,c.text,[]⟩=0 then addF f c.ino c.name (addN f ⟨0,3,0,c.text,[]⟩) else f).l.map nodA),aI ((if Qaq f c.ino c.name ⟨0,3,0,c.text,[]⟩=0 then addF f c.ino c.name (addN f ⟨0,3,0,c.text,[]⟩) else f).next)],.agg [aI 0,aI f.next,aI 0,aI 0,aS ([]),aN]]) (by
  have h0:=bneF q2;rw [Qvs (Qz9 hk (by omega)) h0,if_pos h0];exact Sub.tups ⟨sR,Qbn _ _ _ _ _,trivial⟩))
theorem Qrp (f:Fsy) (c:Cal) (okf:OkF f) (okc:OkCal c) (hp:Qam f) (hk:c.kind=9):Qaf prog 72 [.agg (fsyA f),.agg (calA c)] (.tup [.agg (fsyA (doF f c).1),.agg (repA (doF f c).2)]):=by
 have hl:=hp.1;have hr:=Qad hp;have hcn:=okc.name;have hcn2:=okc.name2;have hct:=okc.text;exact Qac func72 (
 .new fun b1=>.new fun b2=>.new fun b3=>.new fun b4=>.u 5 [b1,b2,b2]<|
 .call (Qdv f c.ino c.name hp hcn)<|
 .r 3<|.new fun b5=>.u 2 [b5]<|
 .r 2<|.br 20 ((Qa3 f c.ino c.name) != 0) (fun q1=>have p1:=bneT q1;.ord [0,1,2,3,4]<|.u 2 [b1]<|
 .call (Qbh (Qa3 f c.ino c.name))<|
 .u 2 [b3,b4]<|
 .f (.tup [.agg (fsyA (doF f c).1),.agg (repA (doF f c).2)]) [b3,b4] (.tup [.agg (fsyA f),.agg [aI ((errR (Qa3 f c.ino c.name)).e),aI ((errR (Qa3 f c.ino c.name)).a),aI ((errR (Qa3 f c.ino c.name)).b),aI ((errR (Qa3 f c.ino c.name)).n),aS ((errR (Qa3 f c.ino c.name)).text),.sl 1 false ((errR (Qa3 f c.ino c.name)).names.map txA)]]) (by
  rw [tk_1 (Qo6 hk) (bneT q1)];exact sR))
 <| fun q1=>have p1:=bneF q1;.u 4 [b2]<|
 .is 27 (show (c.kind==9)=true from (by rw [hk];rfl))<|.u 4 [b5]<|
 .br 31 (((lookN f c.ino c.name).kind)==2) (fun q2=>have p2:=beqT q2;.ord [0,1,2,3]<|.u 1 [b1]<|
 .call (Qbh 9)<|
 .u 2 [b3,b4]<|
 .f (.tup [.agg (fsyA (doF f c).1),.agg (repA (doF f c).2)]) [b3,b4] (.tup [.agg (fsyA f),.agg [aI ((errR 9).e),aI ((errR 9).a),aI ((errR 9).b),aI ((errR 9).n),aS ((errR 9).text),.sl 1 false ((errR 9).names.map txA)]]) (by
  rw [tk_2 (Qo6 hk) (bneF q1) (by simpa [bne] using q2) (by decide)];exact sR))
 <| fun q2=>have p2:=beqF q2;.u 4 [b2]<|
 .is 37 (show (c.kind==10)=false from (by rw [hk];rfl))<|.r 4<|.u 5 [b1,b2,b2]<|
 .call (Qoh f c.ino c.name okf hp hcn)<|
 .r 3<|.new fun b6=>.u 2 [b6]<|
 .ord [0,1,2,3,4]<|.u 2 [b6]<|
 .call (Qbh (Qbf f c.ino c.name))<|
 .u 2 [b3,b4]<|
 .f (.tup [.agg (fsyA (doF f c).1),.agg (repA (doF f c).2)]) [b3,b4] (.tup [.agg [.sl 5 false ((Qd6 f c.ino c.name).l.map nodA),aI ((Qd6 f c.ino c.name).next)],.agg [aI ((errR (Qbf f c.ino c.name)).e),aI ((errR (Qbf f c.ino c.name)).a),aI ((errR (Qbf f c.ino c.name)).b),aI ((errR (Qbf f c.ino c.name)).n),aS ((errR (Qbf f c.ino c.name)).text),.sl 1 false ((errR (Qbf f c.ino c.name)).names.map txA)]]) (by
  rw [tk_3 (Qo6 hk) (bneF q1) (by simpa [bne] using q2)];exact sR))
theorem Qpq (f:Fsy) (c:Cal) (okf:OkF f) (okc:OkCal c) (hp:Qam f) (hk:c.kind=10):Qaf prog 72 [.agg (fsyA f),.agg (calA c)] (.tup [.agg (fsyA (doF f c).1),.agg (repA (doF f c).2)]):=by
 have hl:=hp.1;have hr:=Qad hp;have hcn:=okc.name;have hcn2:=okc.name2;have hct:=okc.text;exact Qac func72 (
 .new fun b1=>.new fun b2=>.new fun b3=>.new fun b4=>.u 5 [b1,b2,b2]<|
 .call (Qdv f c.ino c.name hp hcn)<|
 .r 3<|.new fun b5=>.u 2 [b5]<|
 .r 2<|.br 20 ((Qa3 f c.ino c.name) != 0) (fun q1=>have p1:=bneT q1;.ord [0,1,2,3,4]<|.u 2 [b1]<|
 .call (Qbh (Qa3 f c.ino c.name))<|
 .u 2 [b3,b4]<|
 .f (.tup [.agg (fsyA (doF f c).1),.agg (repA (doF f c).2)]) [b3,b4] (.tup [.agg (fsyA f),.agg [aI ((errR (Qa3 f c.ino c.name)).e),aI ((errR (Qa3 f c.ino c.name)).a),aI ((errR (Qa3 f c.ino c.name)).b),aI ((errR (Qa3 f c.ino c.name)).n),aS ((errR (Qa3 f c.ino c.name)).text),.sl 1 false ((errR (Qa3 f c.ino c.name)).names.map txA)]]) (by
  rw [tk_1 (Qko hk) (bneT q1)];exact sR))
 <| fun q1=>have p1:=bneF q1;.u 4 [b2]<|
 .is 27 (show (c.kind==9)=false from (by rw [hk];rfl))<|.r 4<|.u 4 [b2]<|
 .is 37 (show (c.kind==10)=true from (by rw [hk];rfl))<|.u 4 [b5]<|
 .br 41 (((lookN f c.ino c.name).kind) != 2) (fun q2=>have p2:=bneT q2;.ord [0,1,2,3]<|.u 1 [b1]<|
 .call (Qbh 8)<|
 .u 2 [b3,b4]<|
 .f (.tup [.agg (fsyA (doF f c).1),.agg (repA (doF f c).2)]) [b3,b4] (.tup [.agg (fsyA f),.agg [aI ((errR 8).e),aI ((errR 8).a),aI ((errR 8).b),aI ((errR 8).n),aS ((errR 8).text),.sl 1 false ((errR 8).names.map txA)]]) (by
  rw [tk_2 (Qko hk) (bneF q1) (by simpa [bne] using q2) (by decide)];exact sR))
 <| fun q2=>have p2:=bneF q2;.u 5 [b1,b2,b2]<|
 .call (Qoh f c.ino c.name okf hp hcn)<|
 .r 3<|.new fun b6=>.u 2 [b6]<|
 .ord [0,1,2,3,4]<|.u 2 [b6]<|
 .call (Qbh (Qbf f c.ino c.name))<|
 .u 2 [b3,b4]<|
 .f (.tup [.agg (fsyA (doF f c).1),.agg (repA (doF f c).2)]) [b3,b4] (.tup [.agg [.sl 5 false ((Qd6 f c.ino c.name).l.map nodA),aI ((Qd6 f c.ino c.name).next)],.agg [aI ((errR (Qbf f c.ino c.name)).e),aI ((errR (Qbf f c.ino c.name)).a),aI ((errR (Qbf f c.ino c.name)).b),aI ((errR (Qbf f c.ino c.name)).n),aS ((errR (Qbf f c.ino c.name)).text),.sl 1 false ((errR (Qbf f c.ino c.name)).names.map txA)]]) (by
  rw [tk_3 (Qko hk) (bneF q1) (by simpa [bne] using q2)];exact sR))
end Go.Proofs.YtahlldgocpabjaaGreat
