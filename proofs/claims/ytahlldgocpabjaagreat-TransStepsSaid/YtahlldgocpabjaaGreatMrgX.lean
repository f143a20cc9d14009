import Derived.Test.YtahlldgocpabjaaGreatMrgW
set_option maxRecDepth 100000
set_option maxHeartbeats 8000000
set_option linter.unusedVariables false
set_option linter.unusedSimpArgs false
namespace Go.Proofs.YtahlldgocpabjaaGreat
open Go Go.RowKit Copyhold Go.Proofs.Tryz
theorem Zef (f:Fsy) (c:Cal) (okf:OkF f) (okc:OkCal c) (hp:Qam f) (n:Nod) (okn:OkN n) (hx:f.next<9223372036854775807):Qaf prog 136 [.agg (fsyA f),.agg (calA c),.agg (nodA n)] (.tup [.agg (fsyA (addO f c n).1),.agg (repA (addO f c n).2)]):=by
 have hl:=hp.1;have hr:=Qad hp;have hcn:=okc.name;have hcn2:=okc.name2;have hct:=okc.text;exact Qac func136 (let R:AV:=.tup [.agg (fsyA (addO f c n).1),.agg (repA (addO f c n).2)];
 .new fun b1=>.new fun b2=>.new fun b3=>.new fun b4=>.new fun b5=>.u 6 [b1,b2,b2,b3]<|
 .call (Zi8 f c.ino c.name n okf hp hcn okn hx)<|
 .r 3<|.new fun b6=>.u 2 [b6]<|
 let J1:Jn (Unit):=⟨fun j1=>⟨[(6,.ptr 6 b4 0),(7,.ptr 7 b5 0)],[(6,.box b4 28 [.sl 5 false ((if Qaq f c.ino c.name n=0 then addF f c.ino c.name (addN f n) else f).l.map nodA),aI ((if Qaq f c.ino c.name n=0 then addF f c.ino c.name (addN f n) else f).next)]),(7,.box b5 45 [aI (Qaq f c.ino c.name n),aI f.next,aI 0,aI 0,aS ([]),aN])]⟩,fun _=>True⟩
 .cut J1 (.pick [0,1,2]<|.u 3 [b6]<|
 .fork<|.alt (.u 1 [b1]<|
 .pick [4,5,6]<|.u 3 [b4,b5]<|
 .jo J1 () [] [] sr2 bb2)
 <| .u 1 [b4]<|
 .pick [3,4,6]<|.u 3 [b1,b5]<|
 .jo J1 () [] [] sr2 bb2)
 <| fun _ _=>.f R [b4,b5] (.tup [.agg [.sl 5 false ((if Qaq f c.ino c.name n=0 then addF f c.ino c.name (addN f n) else f).l.map nodA),aI ((if Qaq f c.ino c.name n=0 then addF f c.ino c.name (addN f n) else f).next)],.agg [aI (Qaq f c.ino c.name n),aI f.next,aI 0,aI 0,aS ([]),aN]]) (by exact Sub.tups ⟨sR,(Qbn _ _ _ _ _),trivial⟩))
theorem Qp8:OkN ⟨0,1,0,[],[]⟩:=⟨⟨by decide,by decide⟩,⟨by decide,by decide⟩,⟨by decide,by decide⟩,by show (0:Nat)≤_;omega,by show (0:Nat)≤_;omega,fun e h=>by cases h⟩
theorem Qu0:OkN ⟨0,2,0,[],[]⟩:=⟨⟨by decide,by decide⟩,⟨by decide,by decide⟩,⟨by decide,by decide⟩,by show (0:Nat)≤_;omega,by show (0:Nat)≤_;omega,fun e h=>by cases h⟩
theorem Qp6 {t:Txt} (h:t.length≤1000000):OkN ⟨0,3,0,t,[]⟩:=⟨⟨by show (_:Int)≤0;omega,by show (0:Int)≤_;omega⟩,⟨by show (_:Int)≤3;omega,by show (3:Int)≤_;omega⟩,⟨by show (_:Int)≤0;omega,by show (0:Int)≤_;omega⟩,by show t.length≤_;omega,by show (0:Nat)≤_;omega,fun e h=>by cases h⟩
theorem Zl8 (f:Fsy) (c:Cal) (okf:OkF f) (okc:OkCal c) (hp:Qam f) (hx:f.next<9223372036854775807):Qaf prog 135 [.agg (fsyA f),.agg (calA c)] (.tup [.agg (fsyA (addO f c ⟨0,1,0,[],[]⟩).1),.agg (repA (addO f c ⟨0,1,0,[],[]⟩).2)]):=by
 have hl:=hp.1;have hr:=Qad hp;have hcn:=okc.name;have hcn2:=okc.name2;have hct:=okc.text;exact Qac func135 (let R:AV:=.tup [.agg (fsyA (addO f c ⟨0,1,0,[],[]⟩).1),.agg (repA (addO f c ⟨0,1,0,[],[]⟩).2)];
 .new fun b1=>.new fun b2=>.new fun b3=>.new fun b4=>.u 3 [b1,b2]<|
 .cs (args0:=[.agg (fsyA f),.agg (calA c),.agg [aI 0,aI 1,aI 0,aS ([]),aN]]) (Zef f c okf okc hp ⟨0,1,0,[],[]⟩ Qp8 hx) ⟨sR,sR,Sub.aggs ⟨sR,sR,sR,sR,Sub.nil _ _,trivial⟩,trivial⟩<|
 .u 4 [b3,b4]<|
 .fi R [b3,b4])
theorem Zl7 (f:Fsy) (c:Cal) (okf:OkF f) (okc:OkCal c) (hp:Qam f) (hx:f.next<9223372036854775807):Qaf prog 137 [.agg (fsyA f),.agg (calA c)] (.tup [.agg (fsyA (addO f c ⟨0,2,0,[],[]⟩).1),.agg (repA (addO f c ⟨0,2,0,[],[]⟩).2)]):=by
 have hl:=hp.1;have hr:=Qad hp;have hcn:=okc.name;have hcn2:=okc.name2;have hct:=okc.text;exact Qac func137 (let R:AV:=.tup [.agg (fsyA (addO f c ⟨0,2,0,[],[]⟩).1),.agg (repA (addO f c ⟨0,2,0,[],[]⟩).2)];
 .new fun b1=>.new fun b2=>.new fun b3=>.new fun b4=>.u 3 [b1,b2]<|
 .cs (args0:=[.agg (fsyA f),.agg (calA c),.agg [aI 0,aI 2,aI 0,aS ([]),aN]]) (Zef f c okf okc hp ⟨0,2,0,[],[]⟩ Qu0 hx) ⟨sR,sR,Sub.aggs ⟨sR,sR,sR,sR,Sub.nil _ _,trivial⟩,trivial⟩<|
 .u 4 [b3,b4]<|
 .fi R [b3,b4])
theorem Zl6 (f:Fsy) (c:Cal) (okf:OkF f) (okc:OkCal c) (hp:Qam f) (hx:f.next<9223372036854775807):Qaf prog 138 [.agg (fsyA f),.agg (calA c)] (.tup [.agg (fsyA (symO f c).1),.agg (repA (symO f c).2)]):=by
 have hl:=hp.1;have hr:=Qad hp;have hcn:=okc.name;have hcn2:=okc.name2;have hct:=okc.text;exact Qac func138 (
 .new fun b1=>.new fun b2=>.new fun b3=>.new fun b4=>.u 4 [b2]<|
 .bd 9 (((c.text).length:Int)>4096) (fun p1=>.u 4 [b1,b3,b4]<|
 .f (.tup [.agg (fsyA (symO f c).1),.agg (repA (symO f c).2)]) [b3,b4] (.tup [.agg (fsyA f),.agg [aI 5,aI 0,aI 0,aI 0,aS ([]),aN]]) (by
  have e:symO f c=_:=if_pos (by omega);rw [e];exact Sub.tups ⟨sR,(Qbn _ _ _ _ _),trivial⟩))
 <| fun p1=>.u 5 [b1,b2,b2]<|
 .cs (args0:=[.agg (fsyA f),.agg (calA c),.agg [aI 0,aI 3,aI 0,aS c.text,aN]]) (Zef f c okf okc hp ⟨0,3,0,c.text,[]⟩ (Qp6 (by omega)) hx) ⟨sR,sR,Sub.aggs ⟨sR,sR,sR,sR,Sub.nil _ _,trivial⟩,trivial⟩<|
 .u 4 [b3,b4]<|
 .f (.tup [.agg (fsyA (symO f c).1),.agg (repA (symO f c).2)]) [b3,b4] (.tup [.agg [.sl 5 false ((addO f c ⟨0,3,0,c.text,[]⟩).1.l.map nodA),aI ((addO f c ⟨0,3,0,c.text,[]⟩).1.next)],.agg [aI ((addO f c ⟨0,3,0,c.text,[]⟩).2.e),aI ((addO f c ⟨0,3,0,c.text,[]⟩).2.a),aI ((addO f c ⟨0,3,0,c.text,[]⟩).2.b),aI ((addO f c ⟨0,3,0,c.text,[]⟩).2.n),aS ((addO f c ⟨0,3,0,c.text,[]⟩).2.text),.sl 1 false ((addO f c ⟨0,3,0,c.text,[]⟩).2.names.map txA)]]) (by
  have e:symO f c=_:=if_neg (by omega);rw [e];exact sR))
theorem Zd1 (f:Fsy) (c:Cal) (okf:OkF f) (okc:OkCal c) (hp:Qam f) (dir:Bool) (odd:Int) (ho:¬ odd=0):Qaf prog 140 [.agg (fsyA f),.agg (calA c),aB dir,aI odd] (.tup [.agg (fsyA (Qcs f c dir odd).1),.agg (repA (Qcs f c dir odd).2)]):=by
 have hl:=hp.1;have hr:=Qad hp;have hcn:=okc.name;have hcn2:=okc.name2;have hct:=okc.text;exact Qac func140 (
 .new fun b1=>.new fun b2=>.new fun b3=>.new fun b4=>.u 5 [b1,b2,b2]<|
 .call (Qji f c.ino c.name hp hcn)<|
 .r 3<|.new fun b5=>.u 2 [b5]<|
 .r 3<|.br 24 ((Qa3 f c.ino c.name)==0) (fun q1=>have p1:=beqT q1;.u 6 [b5]<|
 .br 30 (!((((lookN f c.ino c.name).kind)==2)==dir)) (fun q2=>have q2:=notT q2;have p2:=beqF q2;.r 2<|.r 2<|.is 33 (show (odd != 0)=true from (by simpa using ho))<|.u 5 [b1,b3,b4]<|
 .f (.tup [.agg (fsyA (Qcs f c dir odd).1),.agg (repA (Qcs f c dir odd).2)]) [b3,b4] (.tup [.agg (fsyA f),.agg [aI odd,aI 0,aI 0,aI 0,aS ([]),aN]]) (by
  have e0:Qa3 f c.ino c.name=0:=beqT q1;have e1:(((lookN f c.ino c.name).kind==2) != dir)=true:=by simpa [bne] using q2
  have e:Qcs f c dir odd=(f,errR odd):=by unfold Qcs;rw [if_pos e0,if_pos e1]
  rw [e];exact Sub.tups ⟨sR,(Qbn _ _ _ _ _),trivial⟩))
 <| fun q2=>have q2:=notF q2;have p2:=beqT q2;.r 2<|.is 33 (show ((Qa3 f c.ino c.name) != 0)=false from (by simpa [bne] using q1))<|.u 5 [b1,b2,b2]<|
 .call (Qz5 f c.ino c.name okf hp hcn)<|
 .r 3<|.new fun b6=>.u 2 [b6]<|
 .u 5 [b6,b3,b4]<|
 .f (.tup [.agg (fsyA (Qcs f c dir odd).1),.agg (repA (Qcs f c dir odd).2)]) [b3,b4] (.tup [.agg [.sl 5 false ((Qd6 f c.ino c.name).l.map nodA),aI ((Qd6 f c.ino c.name).next)],.agg [aI (Qbf f c.ino c.name),aI 0,aI 0,aI 0,aS ([]),aN]]) (by
  have e0:Qa3 f c.ino c.name=0:=beqT q1;have e1:¬ (((lookN f c.ino c.name).kind==2) != dir)=true:=by simpa [bne] using q2
  have e:Qcs f c dir odd=(Qd6 f c.ino c.name,errR (Qbf f c.ino c.name)):=by unfold Qcs;rw [if_pos e0,if_neg e1]
  rw [e];exact Sub.tups ⟨sR,(Qbn _ _ _ _ _),trivial⟩))
 <| fun q1=>have p1:=beqF q1;.r 6<|.r 2<|.is 33 (show ((Qa3 f c.ino c.name) != 0)=true from (by simpa [bne] using q1))<|.u 5 [b1,b3,b4]<|
 .f (.tup [.agg (fsyA (Qcs f c dir odd).1),.agg (repA (Qcs f c dir odd).2)]) [b3,b4] (.tup [.agg (fsyA f),.agg [aI (Qa3 f c.ino c.name),aI 0,aI 0,aI 0,aS ([]),aN]]) (by
  have e:Qcs f c dir odd=(f,errR (Qa3 f c.ino c.name)):=if_neg (beqF q1);rw [e];exact Sub.tups ⟨sR,(Qbn _ _ _ _ _),trivial⟩))
theorem Zl5 (f:Fsy) (c:Cal) (okf:OkF f) (okc:OkCal c) (hp:Qam f):Qaf prog 139 [.agg (fsyA f),.agg (calA c)] (.tup [.agg (fsyA (Qcs f c false 9).1),.agg (repA (Qcs f c false 9).2)]):=by
 have hl:=hp.1;have hr:=Qad hp;have hcn:=okc.name;have hcn2:=okc.name2;have hct:=okc.text;exact Qac func139 (let R:AV:=.tup [.agg (fsyA (Qcs f c false 9).1),.agg (repA (Qcs f c false 9).2)];
 .new fun b1=>.new fun b2=>.new fun b3=>.new fun b4=>.u 2 [b1,b2]<|
 .call (Zd1 f c okf okc hp false 9 (by decide))<|
 .u 4 [b3,b4]<|
 .fi R [b3,b4])
theorem Zik (f:Fsy) (c:Cal) (okf:OkF f) (okc:OkCal c) (hp:Qam f):Qaf prog 141 [.agg (fsyA f),.agg (calA c)] (.tup [.agg (fsyA (Qcs f c true 8).1),.agg (repA (Qcs f c true 8).2)]):=by
 have hl:=hp.1;have hr:=Qad hp;have hcn:=okc.name;have hcn2:=okc.name2;have hct:=okc.text;exact Qac func141 (let R:AV:=.tup [.agg (fsyA (Qcs f c true 8).1),.agg (repA (Qcs f c true 8).2)];
 .new fun b1=>.new fun b2=>.new fun b3=>.new fun b4=>.u 2 [b1,b2]<|
 .call (Zd1 f c okf okc hp true 8 (by decide))<|
 .u 4 [b3,b4]<|
 .fi R [b3,b4])
theorem Zij (f:Fsy) (c:Cal) (okf:OkF f) (okc:OkCal c) (hp:Qam f):Qaf prog 142 [.agg (fsyA f),.agg (calA c)] (.tup [.agg (fsyA (Quz f c).1),.agg (repA (Quz f c).2)]):=by
 have hl:=hp.1;have hr:=Qad hp;have hcn:=okc.name;have hcn2:=okc.name2;have hct:=okc.text;exact Qac func142 (let R:AV:=.tup [.agg (fsyA (Quz f c).1),.agg (repA (Quz f c).2)];
 .new fun b1=>.new fun b2=>.new fun b3=>.new fun b4=>.u 7 [b1,b2,b2,b2]<|
 .call (Zdj f c.ino c.name c.to okf hp hcn okc.to)<|
 .r 3<|.new fun b5=>.u 2 [b5]<|
 .u 5 [b5,b3,b4]<|
 .f R [b3,b4] (.tup [.agg [.sl 5 false ((Qc4 f c.ino c.name c.to).l.map nodA),aI ((Qc4 f c.ino c.name c.to).next)],.agg [aI (Qa6 f c.ino c.name c.to),aI 0,aI 0,aI 0,aS ([]),aN]]) (by exact Sub.tups ⟨sR,(Qbn _ _ _ _ _),trivial⟩))
theorem Zii (f:Fsy) (c:Cal) (okf:OkF f) (okc:OkCal c) (hp:Qam f):Qaf prog 144 [.agg (fsyA f),.agg (calA c)] (.tup [.agg (fsyA (renO f c).1),.agg (repA (renO f c).2)]):=by
 have hl:=hp.1;have hr:=Qad hp;have hcn:=okc.name;have hcn2:=okc.name2;have hct:=okc.text;exact Qac func144 (let R:AV:=.tup [.agg (fsyA (renO f c).1),.agg (repA (renO f c).2)];
 .new fun b1=>.new fun b2=>.new fun b3=>.new fun b4=>.u 9 [b1,b2,b2,b2,b2]<|
 .call (Zci f c.ino c.name c.to c.name2 okf hp hcn hcn2)<|
 .r 3<|.new fun b5=>.u 2 [b5]<|
 .u 5 [b5,b3,b4]<|
 .f R [b3,b4] (.tup [.agg [.sl 5 false ((movF f c.ino c.name c.to c.name2).l.map nodA),aI ((movF f c.ino c.name c.to c.name2).next)],.agg [aI (Qa8 f c.ino c.name c.to c.name2),aI 0,aI 0,aI 0,aS ([]),aN]]) (by exact Sub.tups ⟨sR,(Qbn _ _ _ _ _),trivial⟩))
theorem Zih (f:Fsy) (c:Cal) (okf:OkF f) (okc:OkCal c) (hp:Qam f):Qaf prog 146 [.agg (fsyA f),.agg (calA c)] (.tup [.agg (fsyA (Quc f c).1),.agg (repA (Quc f c).2)]):=by
 have hl:=hp.1;have hr:=Qad hp;have hcn:=okc.name;have hcn2:=okc.name2;have hct:=okc.text;exact Qac func146 (let R:AV:=.tup [.agg (fsyA (Quc f c).1),.agg (repA (Quc f c).2)];
 .new fun b1=>.new fun b2=>.new fun b3=>.new fun b4=>.u 3 [b1,b2]<|
 .call (Qpz f c.ino 3 hp)<|
 .r 3<|.new fun b5=>.u 2 [b5]<|
 let J1:Jn (Unit):=⟨fun j1=>⟨[(4,.ptr 4 b3 0),(5,.ptr 5 b4 0)],[(4,.box b3 28 (fsyA f)),(5,.box b4 45 [aI (ofE f c.ino 3),aI 0,aI 0,aI 0,aS ((ofN f c.ino 3).text),aN])]⟩,fun _=>True⟩
 .cut J1 (.pick [0,1,2]<|.u 3 [b1]<|
 .fork<|.alt (.u 1 [b5]<|
 .pick [4,5,6]<|.u 3 [b3,b4]<|
 .jo J1 () [] [] sr2 bb2)
 <| .u 1 [b3]<|
 .pick [3,4,6]<|.u 3 [b5,b4]<|
 .jo J1 () [] [] sr2 bb2)
 <| fun _ _=>.f R [b3,b4] (.tup [.agg (fsyA f),.agg [aI (ofE f c.ino 3),aI 0,aI 0,aI 0,aS ((ofN f c.ino 3).text),aN]]) (by exact Sub.tups ⟨sR,(Qbn _ _ _ _ _),trivial⟩))
theorem Zig (f:Fsy) (c:Cal) (okf:OkF f) (okc:OkCal c) (hp:Qam f):Qaf prog 148 [.agg (fsyA f),.agg (calA c)] (.tup [.agg (fsyA (Qyq f c).1),.agg (repA (Qyq f c).2)]):=by
 have hl:=hp.1;have hr:=Qad hp;have hcn:=okc.name;have hcn2:=okc.name2;have hct:=okc.text;exact Qac func148 (let R:AV:=.tup [.agg (fsyA (Qyq f c).1),.agg (repA (Qyq f c).2)];
 .new fun b1=>.new fun b2=>.new fun b3=>.new fun b4=>.u 3 [b1,b2]<|
 .call (Qhx f c.ino hp)<|
 .r 3<|.new fun b5=>.u 2 [b5]<|
 .ord [0,1,2,3,4,5,6,7]<|.u 4 [b1,b5]<|
 .call (Qu9 (dirN f c.ino).l (by have:=(Qc5 hp c.ino).2;omega))<|
 .u 3 [b3,b4]<|
 .fi R [b3,b4])
theorem Zif (f:Fsy) (c:Cal) (okf:OkF f) (okc:OkCal c) (hp:Qam f):Qaf prog 150 [.agg (fsyA f),.agg (calA c)] (.tup [.agg (fsyA (sfsO f).1),.agg (repA (sfsO f).2)]):=by
 have hl:=hp.1;have hr:=Qad hp;have hcn:=okc.name;have hcn2:=okc.name2;have hct:=okc.text;exact Qac func150 (
 .new fun b1=>.new fun b2=>.new fun b3=>.new fun b4=>.u 3 [b1]<|
 .lm 11 f.l nodA<|.r 1<|.new fun b5=>.u 1 [b5]<|
 .u 3 [b1]<|
 .lm 15 f.l nodA<|.r 1<|let L1:Lp (Nat):=⟨fun a1=>⟨[(2,.ptr 2 b1 0),(4,.ptr 4 b3 0),(5,.ptr 5 b4 0),(6,.ptr 6 b5 0),(14,.sl 5 false (f.l.map nodA)),(15,aI (f.l.length:Int)),(16,aI (a1:Int))],[(2,.box b1 28 (fsyA f)),(4,.box b3 28 [aN,aI 0]),(5,.box b4 45 [aI 0,aI 0,aI 0,aI 0,aS ([]),aN]),(6,.box b5 45 [aI 0,aI (f.l.length:Int),aI (txtS (f.l.take a1):Int),aI 0,aS ([]),aN])]⟩,fun a1=>f.l.length-a1,fun a1=>a1≤f.l.length∧txtS (f.l.take a1)≤4096*a1⟩
 .lp L1 0 ⟨Nat.zero_le _,Nat.le_refl _⟩ [(16,aI 0)] [(6,.box b5 45 [aI 0,aI (f.l.length:Int),aI 0,aI 0,aS ([]),aN])] ⟨sR,sR,sR,sR,sR,sR,sO,trivial⟩ ⟨sB,sB,sB,⟨_,rfl,SubB.of_eq rfl⟩,trivial⟩ fun a1 ha1=>
 (fun (k:Nat) (hH1:k≤f.l.length∧txtS (f.l.take k)≤4096*k)=>.r 1<|.bd 17 ((k:Int)<(f.l.length:Int)) (fun p1=>.idxM f.l nodA k (m:=(k:Int)) rfl (by omega) fun x1 hx1=>
 have tlx1:=Qle hp (List.mem_of_getElem? hx1);.r 1<|.new fun b6=>.u 1 [b6]<|
 .run 8 [b5=b5,b6=b6,rng .i64 ((txtS (f.l.take k):Int)+((x1.text).length:Int)),b5=b5] ⟨rfl,rfl,Qaj (by omega) (by omega),rfl,trivial⟩<|
 .run 2 [rng .i64 ((k:Int)+1)] ⟨Qaj (by omega) (by omega),trivial⟩<|
 .bk L1 k (k+1) ⟨by omega,by rw [show txtS (f.l.take (k+1))=txtS (f.l.take k)+x1.text.length from by unfold txtS;rw [Qak hx1];simp];have:=Qle hp (List.mem_of_getElem? hx1);omega⟩ (show f.l.length-(k+1)<f.l.length-k from (by omega)) [(16,aI ((k:Int)+1))] [(6,.box b5 45 [aI 0,aI (f.l.length:Int),aI ((txtS (f.l.take k):Int)+((x1.text).length:Int)),aI 0,aS ([]),aN])] ⟨sR,sR,sR,sR,sR,sR,sO,trivial⟩ ⟨sB,sB,sB,⟨_,rfl,SubB.of_eq (by rw [show txtS (f.l.take (k+1))=txtS (f.l.take k)+x1.text.length from by unfold txtS;rw [Qak hx1];simp];simp)⟩,trivial⟩)
 <| fun p1=>.pick [0]<|.u 1 [b1]<|
 .fork<|.alt (.u 1 [b5]<|
 .pick [2,3]<|.u 2 [b3,b4]<|
 .f (.tup [.agg (fsyA (sfsO f).1),.agg (repA (sfsO f).2)]) [b3,b4] (.tup [.agg (fsyA f),.agg [aI 0,aI (f.l.length:Int),aI (txtS (f.l.take k):Int),aI 0,aS ([]),aN]]) (by
  rw [show k=f.l.length from by omega,Qav (Nat.le_refl _)];exact Sub.tups ⟨sR,(Qbn _ _ _ _ _),trivial⟩))
 <| .u 1 [b3]<|
 .pick [1,3]<|.u 2 [b5,b4]<|
 .f (.tup [.agg (fsyA (sfsO f).1),.agg (repA (sfsO f).2)]) [b3,b4] (.tup [.agg (fsyA f),.agg [aI 0,aI (f.l.length:Int),aI (txtS (f.l.take k):Int),aI 0,aS ([]),aN]]) (by
  rw [show k=f.l.length from by omega,Qav (Nat.le_refl _)];exact Sub.tups ⟨sR,(Qbn _ _ _ _ _),trivial⟩)) a1 ha1)
noncomputable def Qbu (f:Fsy) (c:Cal):Fsy × Rep:=if c.kind=1 then Qy2 f c else if c.kind=2 then Qiw f c else if c.kind=3 then Qi4 f c else if c.kind=4 then Qey f c else if c.kind=5 then cutO f c else if c.kind=6 then addO f c ⟨0,1,0,[],[]⟩ else if c.kind=7 then addO f c ⟨0,2,0,[],[]⟩ else if c.kind=8 then symO f c else if c.kind=9 then Qcs f c false 9 else if c.kind=10 then Qcs f c true 8 else if c.kind=11 then Quz f c else if c.kind=12 then renO f c else if c.kind=13 then Quc f c else if c.kind=14 then Qyq f c else if c.kind=15 then sfsO f else (f,errR 1)
noncomputable def doF (f:Fsy) (c:Cal):Fsy × Rep:=if (Qbu f c).2.e=0 then Qbu f c else (f,errR (Qbu f c).2.e)
theorem Qxe {f:Fsy} {c:Cal} (h:c.kind=1):Qbu f c=Qy2 f c:=by unfold Qbu;rw [if_pos h]
theorem Qsw {f:Fsy} {c:Cal} (h:c.kind=2):Qbu f c=Qiw f c:=by unfold Qbu;rw [if_neg (by omega),if_pos h]
theorem Qsv {f:Fsy} {c:Cal} (h:c.kind=3):Qbu f c=Qi4 f c:=by unfold Qbu;rw [if_neg (by omega),if_neg (by omega),if_pos h]
theorem Qsu {f:Fsy} {c:Cal} (h:c.kind=4):Qbu f c=Qey f c:=by unfold Qbu;rw [if_neg (by omega),if_neg (by omega),if_neg (by omega),if_pos h]
theorem Qst {f:Fsy} {c:Cal} (h:c.kind=5):Qbu f c=cutO f c:=by unfold Qbu;rw [if_neg (by omega),if_neg (by omega),if_neg (by omega),if_neg (by omega),if_pos h]
theorem Qo7 {f:Fsy} {c:Cal} (h:c.kind=6):Qbu f c=addO f c ⟨0,1,0,[],[]⟩:=by unfold Qbu;rw [if_neg (by omega),if_neg (by omega),if_neg (by omega),if_neg (by omega),if_neg (by omega),if_pos h]
theorem Qss {f:Fsy} {c:Cal} (h:c.kind=7):Qbu f c=addO f c ⟨0,2,0,[],[]⟩:=by unfold Qbu;rw [if_neg (by omega),if_neg (by omega),if_neg (by omega),if_neg (by omega),if_neg (by omega),if_neg (by omega),if_pos h]
theorem Qsr {f:Fsy} {c:Cal} (h:c.kind=8):Qbu f c=symO f c:=by unfold Qbu;rw [if_neg (by omega),if_neg (by omega),if_neg (by omega),if_neg (by omega),if_neg (by omega),if_neg (by omega),if_neg (by omega),if_pos h]
theorem Qo6 {f:Fsy} {c:Cal} (h:c.kind=9):Qbu f c=Qcs f c false 9:=by unfold Qbu;rw [if_neg (by omega),if_neg (by omega),if_neg (by omega),if_neg (by omega),if_neg (by omega),if_neg (by omega),if_neg (by omega),if_neg (by omega),if_pos h]
theorem Qko {f:Fsy} {c:Cal} (h:c.kind=10):Qbu f c=Qcs f c true 8:=by unfold Qbu;rw [if_neg (by omega),if_neg (by omega),if_neg (by omega),if_neg (by omega),if_neg (by omega),if_neg (by omega),if_neg (by omega),if_neg (by omega),if_neg (by omega),if_pos h]
theorem Qqu {f:Fsy} {c:Cal} (h:c.kind=11):Qbu f c=Quz f c:=by unfold Qbu;rw [if_neg (by omega),if_neg (by omega),if_neg (by omega),if_neg (by omega),if_neg (by omega),if_neg (by omega),if_neg (by omega),if_neg (by omega),if_neg (by omega),if_neg (by omega),if_pos h]
theorem Qqt {f:Fsy} {c:Cal} (h:c.kind=12):Qbu f c=renO f c:=by unfold Qbu;rw [if_neg (by omega),if_neg (by omega),if_neg (by omega),if_neg (by omega),if_neg (by omega),if_neg (by omega),if_neg (by omega),if_neg (by omega),if_neg (by omega),if_neg (by omega),if_neg (by omega),if_pos h]
theorem Qne {f:Fsy} {c:Cal} (h:c.kind=13):Qbu f c=Quc f c:=by unfold Qbu;rw [if_neg (by omega),if_neg (by omega),if_neg (by omega),if_neg (by omega),if_neg (by omega),if_neg (by omega),if_neg (by omega),if_neg (by omega),if_neg (by omega),if_neg (by omega),if_neg (by omega),if_neg (by omega),if_pos h]
theorem Qqs {f:Fsy} {c:Cal} (h:c.kind=14):Qbu f c=Qyq f c:=by unfold Qbu;rw [if_neg (by omega),if_neg (by omega),if_neg (by omega),if_neg (by omega),if_neg (by omega),if_neg (by omega),if_neg (by omega),if_neg (by omega),if_neg (by omega),if_neg (by omega),if_neg (by omega),if_neg (by omega),if_neg (by omega),if_pos h]
theorem Qqr {f:Fsy} {c:Cal} (h:c.kind=15):Qbu f c=sfsO f:=by unfold Qbu;rw [if_neg (by omega),if_neg (by omega),if_neg (by omega),if_neg (by omega),if_neg (by omega),if_neg (by omega),if_neg (by omega),if_neg (by omega),if_neg (by omega),if_neg (by omega),if_neg (by omega),if_neg (by omega),if_neg (by omega),if_neg (by omega),if_pos h]
theorem Qqq {f:Fsy} {c:Cal} (h:c.kind<1∨c.kind>15):Qbu f c=(f,errR 1):=by unfold Qbu;rw [if_neg (by omega),if_neg (by omega),if_neg (by omega),if_neg (by omega),if_neg (by omega),if_neg (by omega),if_neg (by omega),if_neg (by omega),if_neg (by omega),if_neg (by omega),if_neg (by omega),if_neg (by omega),if_neg (by omega),if_neg (by omega),if_neg (by omega)]
theorem Qex {f:Fsy} {c:Cal} {x:Fsy × Rep} (h:Qbu f c=x) (he:x.2.e=0):doF f c=x:=by unfold doF;rw [h,if_pos he]
theorem Qn1 {f:Fsy} {c:Cal} {x:Fsy × Rep} (h:Qbu f c=x) (he:¬ x.2.e=0):doF f c=(f,errR x.2.e):=by unfold doF;rw [h,if_neg he]
def Qzh:List (MK × AV):=[(.i 1,.val (.func (.func 130) #[] #[])),(.i 2,.val (.func (.func 131) #[] #[])),(.i 3,.val (.func (.func 132) #[] #[])),(.i 4,.val (.func (.func 133) #[] #[])),(.i 5,.val (.func (.func 134) #[] #[])),(.i 6,.val (.func (.func 135) #[] #[])),(.i 7,.val (.func (.func 137) #[] #[])),(.i 8,.val (.func (.func 138) #[] #[])),(.i 9,.val (.func (.func 139) #[] #[])),(.i 10,.val (.func (.func 141) #[] #[])),(.i 11,.val (.func (.func 142) #[] #[])),(.i 12,.val (.func (.func 144) #[] #[])),(.i 13,.val (.func (.func 146) #[] #[])),(.i 14,.val (.func (.func 148) #[] #[])),(.i 15,.val (.func (.func 150) #[] #[]))]
theorem Qo5 :Qaf prog 88 [] (.mp Qzh):=by
 exact Qac func88 (
 .r 1<|.mkMap fun r1=>.ins (kk:=.i 1) (es:=[]) r1 (by rfl)<|.ins (kk:=.i 2) (es:=[(.i 1,.val (.func (.func 130) #[] #[]))]) r1 (by rfl)<|.ins (kk:=.i 3) (es:=[(.i 1,.val (.func (.func 130) #[] #[])),(.i 2,.val (.func (.func 131) #[] #[]))]) r1 (by rfl)<|.ins (kk:=.i 4) (es:=[(.i 1,.val (.func (.func 130) #[] #[])),(.i 2,.val (.func (.func 131) #[] #[])),(.i 3,.val (.func (.func 132) #[] #[]))]) r1 (by rfl)<|.ins (kk:=.i 5) (es:=[(.i 1,.val (.func (.func 130) #[] #[])),(.i 2,.val (.func (.func 131) #[] #[])),(.i 3,.val (.func (.func 132) #[] #[])),(.i 4,.val (.func (.func 133) #[] #[]))]) r1 (by rfl)<|.ins (kk:=.i 6) (es:=[(.i 1,.val (.func (.func 130) #[] #[])),(.i 2,.val (.func (.func 131) #[] #[])),(.i 3,.val (.func (.func 132) #[] #[])),(.i 4,.val (.func (.func 133) #[] #[])),(.i 5,.val (.func (.func 134) #[] #[]))]) r1 (by rfl)<|.ins (kk:=.i 7) (es:=[(.i 1,.val (.func (.func 130) #[] #[])),(.i 2,.val (.func (.func 131) #[] #[])),(.i 3,.val (.func (.func 132) #[] #[])),(.i 4,.val (.func (.func 133) #[] #[])),(.i 5,.val (.func (.func 134) #[] #[])),(.i 6,.val (.func (.func 135) #[] #[]))]) r1 (by rfl)<|.ins (kk:=.i 8) (es:=[(.i 1,.val (.func (.func 130) #[] #[])),(.i 2,.val (.func (.func 131) #[] #[])),(.i 3,.val (.func (.func 132) #[] #[])),(.i 4,.val (.func (.func 133) #[] #[])),(.i 5,.val (.func (.func 134) #[] #[])),(.i 6,.val (.func (.func 135) #[] #[])),(.i 7,.val (.func (.func 137) #[] #[]))]) r1 (by rfl)<|.ins (kk:=.i 9) (es:=[(.i 1,.val (.func (.func 130) #[] #[])),(.i 2,.val (.func (.func 131) #[] #[])),(.i 3,.val (.func (.func 132) #[] #[])),(.i 4,.val (.func (.func 133) #[] #[])),(.i 5,.val (.func (.func 134) #[] #[])),(.i 6,.val (.func (.func 135) #[] #[])),(.i 7,.val (.func (.func 137) #[] #[])),(.i 8,.val (.func (.func 138) #[] #[]))]) r1 (by rfl)<|.ins (kk:=.i 10) (es:=[(.i 1,.val (.func (.func 130) #[] #[])),(.i 2,.val (.func (.func 131) #[] #[])),(.i 3,.val (.func (.func 132) #[] #[])),(.i 4,.val (.func (.func 133) #[] #[])),(.i 5,.val (.func (.func 134) #[] #[])),(.i 6,.val (.func (.func 135) #[] #[])),(.i 7,.val (.func (.func 137) #[] #[])),(.i 8,.val (.func (.func 138) #[] #[])),(.i 9,.val (.func (.func 139) #[] #[]))]) r1 (by rfl)<|.ins (kk:=.i 11) (es:=[(.i 1,.val (.func (.func 130) #[] #[])),(.i 2,.val (.func (.func 131) #[] #[])),(.i 3,.val (.func (.func 132) #[] #[])),(.i 4,.val (.func (.func 133) #[] #[])),(.i 5,.val (.func (.func 134) #[] #[])),(.i 6,.val (.func (.func 135) #[] #[])),(.i 7,.val (.func (.func 137) #[] #[])),(.i 8,.val (.func (.func 138) #[] #[])),(.i 9,.val (.func (.func 139) #[] #[])),(.i 10,.val (.func (.func 141) #[] #[]))]) r1 (by rfl)<|.ins (kk:=.i 12) (es:=[(.i 1,.val (.func (.func 130) #[] #[])),(.i 2,.val (.func (.func 131) #[] #[])),(.i 3,.val (.func (.func 132) #[] #[])),(.i 4,.val (.func (.func 133) #[] #[])),(.i 5,.val (.func (.func 134) #[] #[])),(.i 6,.val (.func (.func 135) #[] #[])),(.i 7,.val (.func (.func 137) #[] #[])),(.i 8,.val (.func (.func 138) #[] #[])),(.i 9,.val (.func (.func 139) #[] #[])),(.i 10,.val (.func (.func 141) #[] #[])),(.i 11,.val (.func (.func 142) #[] #[]))]) r1 (by rfl)<|.ins (kk:=.i 13) (es:=[(.i 1,.val (.func (.func 130) #[] #[])),(.i 2,.val (.func (.func 131) #[] #[])),(.i 3,.val (.func (.func 132) #[] #[])),(.i 4,.val (.func (.func 133) #[] #[])),(.i 5,.val (.func (.func 134) #[] #[])),(.i 6,.val (.func (.func 135) #[] #[])),(.i 7,.val (.func (.func 137) #[] #[])),(.i 8,.val (.func (.func 138) #[] #[])),(.i 9,.val (.func (.func 139) #[] #[])),(.i 10,.val (.func (.func 141) #[] #[])),(.i 11,.val (.func (.func 142) #[] #[])),(.i 12,.val (.func (.func 144) #[] #[]))]) r1 (by rfl)<|.ins (kk:=.i 14) (es:=[(.i 1,.val (.func (.func 130) #[] #[])),(.i 2,.val (.func (.func 131) #[] #[])),(.i 3,.val (.func (.func 132) #[] #[])),(.i 4,.val (.func (.func 133) #[] #[])),(.i 5,.val (.func (.func 134) #[] #[])),(.i 6,.val (.func (.func 135) #[] #[])),(.i 7,.val (.func (.func 137) #[] #[])),(.i 8,.val (.func (.func 138) #[] #[])),(.i 9,.val (.func (.func 139) #[] #[])),(.i 10,.val (.func (.func 141) #[] #[])),(.i 11,.val (.func (.func 142) #[] #[])),(.i 12,.val (.func (.func 144) #[] #[])),(.i 13,.val (.func (.func 146) #[] #[]))]) r1 (by rfl)<|.ins (kk:=.i 15) (es:=[(.i 1,.val (.func (.func 130) #[] #[])),(.i 2,.val (.func (.func 131) #[] #[])),(.i 3,.val (.func (.func 132) #[] #[])),(.i 4,.val (.func (.func 133) #[] #[])),(.i 5,.val (.func (.func 134) #[] #[])),(.i 6,.val (.func (.func 135) #[] #[])),(.i 7,.val (.func (.func 137) #[] #[])),(.i 8,.val (.func (.func 138) #[] #[])),(.i 9,.val (.func (.func 139) #[] #[])),(.i 10,.val (.func (.func 141) #[] #[])),(.i 11,.val (.func (.func 142) #[] #[])),(.i 12,.val (.func (.func 144) #[] #[])),(.i 13,.val (.func (.func 146) #[] #[])),(.i 14,.val (.func (.func 148) #[] #[]))]) r1 (by rfl)<|.r 2<|.frz 1 [0] [] [r1=r1] rt1<|
 .fi (.mp Qzh) [])
noncomputable def doCt (f:Fsy) (c:Cal) (fn j:Nat) (g:Fsy × Rep) (hl:Qcf (.i c.kind) Qzh 0=some (j,.val (.func (.func fn) #[] #[]))) (hd:Qbu f c=g) (hs:Qaf prog fn [.agg (fsyA f),.agg (calA c)] (.tup [.agg (fsyA g.1),.agg (repA g.2)])):Ct prog:=
 .new fun b1=>.new fun b2=>.new fun b3=>.new fun b4=>.ord [1,2,0,3,4,5,6,7,8]<|.u 2 [b2]<|
 .call (Qo5)<|
 .look (kk:=.i c.kind) (es:=Qzh) (fd:=some (j,.val (.func (.func fn) #[] #[]))) hl<|.r 5<|.r 2<|.u 3 [b1,b2]<|
 .call (hs)<|
 .r 3<|.new fun b5=>.new fun b6=>.u 2 [b5,b6]<|
 .u 3 [b6]<|
 .br 30 (g.2.e != 0) (fun q1=>have p1:=bneT q1;.pick [0,1]<|.u 2 [b1]<|
 .fork<|.alt (.u 1 [b6]<|
 .pick [3,4,5]<|.u 3 [b3,b4]<|
 .f (.tup [.agg (fsyA (doF f c).1),.agg (repA (doF f c).2)]) [b3,b4] (.tup [.agg (fsyA f),.agg [aI g.2.e,aI 0,aI 0,aI 0,aS ([]),aN]]) (by
  rw [Qn1 hd (bneT q1)];exact Sub.tups ⟨sR,(Qbn _ _ _ _ _),trivial⟩))
 <| .u 1 [b3]<|
 .pick [2,3,5]<|.u 3 [b6,b4]<|
 .f (.tup [.agg (fsyA (doF f c).1),.agg (repA (doF f c).2)]) [b3,b4] (.tup [.agg (fsyA f),.agg [aI g.2.e,aI 0,aI 0,aI 0,aS ([]),aN]]) (by
  rw [Qn1 hd (bneT q1)];exact Sub.tups ⟨sR,(Qbn _ _ _ _ _),trivial⟩))
 <| fun q1=>have p1:=bneF q1;.pick [0]<|.u 1 [b5]<|
 .fork<|.alt (.u 1 [b6]<|
 .pick [2,3]<|.u 2 [b3,b4]<|
 .f (.tup [.agg (fsyA (doF f c).1),.agg (repA (doF f c).2)]) [b3,b4] (.tup [.agg (fsyA g.1),.agg (repA g.2)]) (by
  rw [Qex hd (bneF q1)];exact sR))
 <| .u 1 [b3]<|
 .pick [1,3]<|.u 2 [b6,b4]<|
 .f (.tup [.agg (fsyA (doF f c).1),.agg (repA (doF f c).2)]) [b3,b4] (.tup [.agg (fsyA g.1),.agg (repA g.2)]) (by
  rw [Qex hd (bneF q1)];exact sR)
theorem Zie (f:Fsy) (c:Cal) (okf:OkF f) (okc:OkCal c) (hp:Qam f) (hx:f.next<9223372036854775807) (hk:c.kind=1):Qaf prog 48 [.agg (fsyA f),.agg (calA c)] (.tup [.agg (fsyA (doF f c).1),.agg (repA (doF f c).2)]):=
 Qac func48 (doCt f c 130 0 _ (by rw [hk];rfl) (Qxe hk) (Qzg f c okf okc hp))
theorem Zid (f:Fsy) (c:Cal) (okf:OkF f) (okc:OkCal c) (hp:Qam f) (hx:f.next<9223372036854775807) (hk:c.kind=2):Qaf prog 48 [.agg (fsyA f),.agg (calA c)] (.tup [.agg (fsyA (doF f c).1),.agg (repA (doF f c).2)]):=
 Qac func48 (doCt f c 131 1 _ (by rw [hk];rfl) (Qsw hk) (Qze f c okf okc hp))
theorem Zic (f:Fsy) (c:Cal) (okf:OkF f) (okc:OkCal c) (hp:Qam f) (hx:f.next<9223372036854775807) (hk:c.kind=3):Qaf prog 48 [.agg (fsyA f),.agg (calA c)] (.tup [.agg (fsyA (doF f c).1),.agg (repA (doF f c).2)]):=
 Qac func48 (doCt f c 132 2 _ (by rw [hk];rfl) (Qsv hk) (Zl2 f c okf okc hp))
theorem Zib (f:Fsy) (c:Cal) (okf:OkF f) (okc:OkCal c) (hp:Qam f) (hx:f.next<9223372036854775807) (hk:c.kind=4):Qaf prog 48 [.agg (fsyA f),.agg (calA c)] (.tup [.agg (fsyA (doF f c).1),.agg (repA (doF f c).2)]):=
 Qac func48 (doCt f c 133 3 _ (by rw [hk];rfl) (Qsu hk) (Zh3 f c okf okc hp))
theorem Zia (f:Fsy) (c:Cal) (okf:OkF f) (okc:OkCal c) (hp:Qam f) (hx:f.next<9223372036854775807) (hk:c.kind=5):Qaf prog 48 [.agg (fsyA f),.agg (calA c)] (.tup [.agg (fsyA (doF f c).1),.agg (repA (doF f c).2)]):=
 Qac func48 (doCt f c 134 4 _ (by rw [hk];rfl) (Qst hk) (dcut_o f c okf okc hp))
theorem Zh9 (f:Fsy) (c:Cal) (okf:OkF f) (okc:OkCal c) (hp:Qam f) (hx:f.next<9223372036854775807) (hk:c.kind=6):Qaf prog 48 [.agg (fsyA f),.agg (calA c)] (.tup [.agg (fsyA (doF f c).1),.agg (repA (doF f c).2)]):=
 Qac func48 (doCt f c 135 5 _ (by rw [hk];rfl) (Qo7 hk) (Zl8 f c okf okc hp hx))
theorem Zh8 (f:Fsy) (c:Cal) (okf:OkF f) (okc:OkCal c) (hp:Qam f) (hx:f.next<9223372036854775807) (hk:c.kind=7):Qaf prog 48 [.agg (fsyA f),.agg (calA c)] (.tup [.agg (fsyA (doF f c).1),.agg (repA (doF f c).2)]):=
 Qac func48 (doCt f c 137 6 _ (by rw [hk];rfl) (Qss hk) (Zl7 f c okf okc hp hx))
theorem Zh7 (f:Fsy) (c:Cal) (okf:OkF f) (okc:OkCal c) (hp:Qam f) (hx:f.next<9223372036854775807) (hk:c.kind=8):Qaf prog 48 [.agg (fsyA f),.agg (calA c)] (.tup [.agg (fsyA (doF f c).1),.agg (repA (doF f c).2)]):=
 Qac func48 (doCt f c 138 7 _ (by rw [hk];rfl) (Qsr hk) (Zl6 f c okf okc hp hx))
theorem Zh6 (f:Fsy) (c:Cal) (okf:OkF f) (okc:OkCal c) (hp:Qam f) (hx:f.next<9223372036854775807) (hk:c.kind=9):Qaf prog 48 [.agg (fsyA f),.agg (calA c)] (.tup [.agg (fsyA (doF f c).1),.agg (repA (doF f c).2)]):=
 Qac func48 (doCt f c 139 8 _ (by rw [hk];rfl) (Qo6 hk) (Zl5 f c okf okc hp))
theorem Zd8 (f:Fsy) (c:Cal) (okf:OkF f) (okc:OkCal c) (hp:Qam f) (hx:f.next<9223372036854775807) (hk:c.kind=10):Qaf prog 48 [.agg (fsyA f),.agg (calA c)] (.tup [.agg (fsyA (doF f c).1),.agg (repA (doF f c).2)]):=
 Qac func48 (doCt f c 141 9 _ (by rw [hk];rfl) (Qko hk) (Zik f c okf okc hp))
theorem Zd7 (f:Fsy) (c:Cal) (okf:OkF f) (okc:OkCal c) (hp:Qam f) (hx:f.next<9223372036854775807) (hk:c.kind=11):Qaf prog 48 [.agg (fsyA f),.agg (calA c)] (.tup [.agg (fsyA (doF f c).1),.agg (repA (doF f c).2)]):=
 Qac func48 (doCt f c 142 10 _ (by rw [hk];rfl) (Qqu hk) (Zij f c okf okc hp))
theorem Zd6 (f:Fsy) (c:Cal) (okf:OkF f) (okc:OkCal c) (hp:Qam f) (hx:f.next<9223372036854775807) (hk:c.kind=12):Qaf prog 48 [.agg (fsyA f),.agg (calA c)] (.tup [.agg (fsyA (doF f c).1),.agg (repA (doF f c).2)]):=
 Qac func48 (doCt f c 144 11 _ (by rw [hk];rfl) (Qqt hk) (Zii f c okf okc hp))
theorem Zd5 (f:Fsy) (c:Cal) (okf:OkF f) (okc:OkCal c) (hp:Qam f) (hx:f.next<9223372036854775807) (hk:c.kind=13):Qaf prog 48 [.agg (fsyA f),.agg (calA c)] (.tup [.agg (fsyA (doF f c).1),.agg (repA (doF f c).2)]):=
 Qac func48 (doCt f c 146 12 _ (by rw [hk];rfl) (Qne hk) (Zih f c okf okc hp))
theorem Zd4 (f:Fsy) (c:Cal) (okf:OkF f) (okc:OkCal c) (hp:Qam f) (hx:f.next<9223372036854775807) (hk:c.kind=14):Qaf prog 48 [.agg (fsyA f),.agg (calA c)] (.tup [.agg (fsyA (doF f c).1),.agg (repA (doF f c).2)]):=
 Qac func48 (doCt f c 148 13 _ (by rw [hk];rfl) (Qqs hk) (Zig f c okf okc hp))
theorem Zd3 (f:Fsy) (c:Cal) (okf:OkF f) (okc:OkCal c) (hp:Qam f) (hx:f.next<9223372036854775807) (hk:c.kind=15):Qaf prog 48 [.agg (fsyA f),.agg (calA c)] (.tup [.agg (fsyA (doF f c).1),.agg (repA (doF f c).2)]):=
 Qac func48 (doCt f c 150 14 _ (by rw [hk];rfl) (Qqr hk) (Zif f c okf okc hp))
theorem Zd2 (f:Fsy) (c:Cal) (okf:OkF f) (okc:OkCal c) (hp:Qam f) (hx:f.next<9223372036854775807) (hk:c.kind<1∨c.kind>15):Qaf prog 48 [.agg (fsyA f),.agg (calA c)] (.tup [.agg (fsyA (doF f c).1),.agg (repA (doF f c).2)]):=by
 exact Qac func48 (
 .new fun b1=>.new fun b2=>.new fun b3=>.new fun b4=>.ord [1,2,0,3,4,5,6,7,8]<|.u 2 [b2]<|
 .call (Qo5)<|
 .look (kk:=.i c.kind) (es:=Qzh) (fd:=none) (by simp only [Qzh,Qcf];repeat rw [if_neg (fun h=>by injection h with h;omega)])<|.r 5<|.r 2<|.u 4 [b1,b3,b4]<|
 .f (.tup [.agg (fsyA (doF f c).1),.agg (repA (doF f c).2)]) [b3,b4] (.tup [.agg (fsyA f),.agg [aI 1,aI 0,aI 0,aI 0,aS ([]),aN]]) (by
  rw [Qn1 (Qqq hk) (by show ¬ (1:Int)=0;omega)];exact Sub.tups ⟨sR,(Qbn _ _ _ _ _),trivial⟩))
theorem Zl3 (f:Fsy) (c:Cal) (okf:OkF f) (okc:OkCal c) (hp:Qam f) (hx:f.next<9223372036854775807):Qaf prog 48 [.agg (fsyA f),.agg (calA c)] (.tup [.agg (fsyA (doF f c).1),.agg (repA (doF f c).2)]):=by
 rcases (show c.kind=1∨c.kind=2∨c.kind=3∨c.kind=4∨c.kind=5∨c.kind=6∨c.kind=7∨c.kind=8∨c.kind=9∨c.kind=10∨c.kind=11∨c.kind=12∨c.kind=13∨c.kind=14∨c.kind=15∨(c.kind<1∨c.kind>15) from by omega) with h | h | h | h | h | h | h | h | h | h | h | h | h | h | h | h
 ·exact Zie f c okf okc hp hx h
 ·exact Zid f c okf okc hp hx h
 ·exact Zic f c okf okc hp hx h
 ·exact Zib f c okf okc hp hx h
 ·exact Zia f c okf okc hp hx h
 ·exact Zh9 f c okf okc hp hx h
 ·exact Zh8 f c okf okc hp hx h
 ·exact Zh7 f c okf okc hp hx h
 ·exact Zh6 f c okf okc hp hx h
 ·exact Zd8 f c okf okc hp hx h
 ·exact Zd7 f c okf okc hp hx h
 ·exact Zd6 f c okf okc hp hx h
 ·exact Zd5 f c okf okc hp hx h
 ·exact Zd4 f c okf okc hp hx h
 ·exact Zd3 f c okf okc hp hx h
 ·exact Zd2 f c okf okc hp hx h
end Go.Proofs.YtahlldgocpabjaaGreat
