import Derived.Test.YtkhodpknpligpaaGreatAl
import Derived.Test.YtkhodpknpligpaaGreatMrgR
import Derived.Test.YtkhodpknpligpaaGreatMrgQ
import Derived.Test.YtkhodpknpligpaaGreatMrgP
import Derived.Test.YtkhodpknpligpaaGreatMrgM
set_option maxRecDepth 100000
set_option maxHeartbeats 8000000
set_option linter.unusedVariables false
set_option linter.unusedSimpArgs false
namespace Go.Proofs.YtkhodpknpligpaaGreat
open Go Go.RowKit Copyhold Go.Proofs.Tryz
theorem Ze7 (f:Fsy) (c:Cal) (okf:OkF f) (okc:OkCal c) (hp:Qat f) (n:Nod) (okn:OkN n) (hx:f.next<9223372036854775807):Qag prog 265 [.agg (fsyA f),.agg (calA c),.agg (nodA n)] (.tup [.agg (fsyA (addO f c n).1),.agg (repA (addO f c n).2)]):=by
 have hl:=hp.1;have hr:=Qah hp;have hcn:=okc.name;have hcn2:=okc.name2;have hct:=okc.text;exact Qac func265 (let R:AV:=.tup [.agg (fsyA (addO f c n).1),.agg (repA (addO f c n).2)];
 .new fun b1=>.new fun b2=>.new fun b3=>.new fun b4=>.new fun b5=>.u 6 [b1,b2,b2,b3]<|
 .call (Zjv f c.ino c.name n okf hp hcn okn hx)<|
 .r 3<|.new fun b6=>.u 2 [b6]<|
 let J1:Jn (Unit):=⟨fun j1=>⟨[(6,.ptr 6 b4 0),(7,.ptr 7 b5 0)],[(6,.box b4 38 [.sl 5 false ((if Qbq f c.ino c.name n=0 then addF f c.ino c.name (addN f n) else f).l.map nodA),aI ((if Qbq f c.ino c.name n=0 then addF f c.ino c.name (addN f n) else f).next)]),(7,.box b5 45 [aI (Qbq f c.ino c.name n),aI f.next,aI 0,aI 0,aS ([]),aN])]⟩,fun _=>True⟩
 .cut J1 (.pick [0,1,2]<|.u 3 [b6]<|
 .fork<|.alt (.u 1 [b1]<|
 .pick [4,5,6]<|.u 3 [b4,b5]<|
 .jo J1 () [] [] sr2 bb2)
 <| .u 1 [b4]<|
 .pick [3,4,6]<|.u 3 [b1,b5]<|
 .jo J1 () [] [] sr2 bb2)
 <| fun _ _=>.f R [b4,b5] (.tup [.agg [.sl 5 false ((if Qbq f c.ino c.name n=0 then addF f c.ino c.name (addN f n) else f).l.map nodA),aI ((if Qbq f c.ino c.name n=0 then addF f c.ino c.name (addN f n) else f).next)],.agg [aI (Qbq f c.ino c.name n),aI f.next,aI 0,aI 0,aS ([]),aN]]) (by exact W2q ⟨sR,(Qb4 _ _ _ _ _),trivial⟩))
theorem Qw7:OkN ⟨0,1,0,[],[]⟩:=⟨⟨by decide,by decide⟩,⟨by decide,by decide⟩,⟨by decide,by decide⟩,by show (0:Nat)≤_;omega,by show (0:Nat)≤_;omega,fun e h=>by cases h⟩
theorem Zde:OkN ⟨0,2,0,[],[]⟩:=⟨⟨by decide,by decide⟩,⟨by decide,by decide⟩,⟨by decide,by decide⟩,by show (0:Nat)≤_;omega,by show (0:Nat)≤_;omega,fun e h=>by cases h⟩
theorem Qw6 {t:Txt} (h:t.length≤1000000):OkN ⟨0,3,0,t,[]⟩:=⟨⟨by show (_:Int)≤0;omega,by show (0:Int)≤_;omega⟩,⟨by show (_:Int)≤3;omega,by show (3:Int)≤_;omega⟩,⟨by show (_:Int)≤0;omega,by show (0:Int)≤_;omega⟩,by show t.length≤_;omega,by show (0:Nat)≤_;omega,fun e h=>by cases h⟩
theorem Zm3 (f:Fsy) (c:Cal) (okf:OkF f) (okc:OkCal c) (hp:Qat f) (hx:f.next<9223372036854775807):Qag prog 264 [.agg (fsyA f),.agg (calA c)] (.tup [.agg (fsyA (addO f c ⟨0,1,0,[],[]⟩).1),.agg (repA (addO f c ⟨0,1,0,[],[]⟩).2)]):=by
 have hl:=hp.1;have hr:=Qah hp;have hcn:=okc.name;have hcn2:=okc.name2;have hct:=okc.text;exact Qac func264 (let R:AV:=.tup [.agg (fsyA (addO f c ⟨0,1,0,[],[]⟩).1),.agg (repA (addO f c ⟨0,1,0,[],[]⟩).2)];
 .new fun b1=>.new fun b2=>.new fun b3=>.new fun b4=>.u 3 [b1,b2]<|
 .cs (args0:=[.agg (fsyA f),.agg (calA c),.agg [aI 0,aI 1,aI 0,aS ([]),aN]]) (Ze7 f c okf okc hp ⟨0,1,0,[],[]⟩ Qw7 hx) ⟨sR,sR,W2r ⟨sR,sR,sR,sR,Sub.nil _ _,trivial⟩,trivial⟩<|
 .u 4 [b3,b4]<|
 .fi R [b3,b4])
theorem Zm2 (f:Fsy) (c:Cal) (okf:OkF f) (okc:OkCal c) (hp:Qat f) (hx:f.next<9223372036854775807):Qag prog 266 [.agg (fsyA f),.agg (calA c)] (.tup [.agg (fsyA (addO f c ⟨0,2,0,[],[]⟩).1),.agg (repA (addO f c ⟨0,2,0,[],[]⟩).2)]):=by
 have hl:=hp.1;have hr:=Qah hp;have hcn:=okc.name;have hcn2:=okc.name2;have hct:=okc.text;exact Qac func266 (let R:AV:=.tup [.agg (fsyA (addO f c ⟨0,2,0,[],[]⟩).1),.agg (repA (addO f c ⟨0,2,0,[],[]⟩).2)];
 .new fun b1=>.new fun b2=>.new fun b3=>.new fun b4=>.u 3 [b1,b2]<|
 .cs (args0:=[.agg (fsyA f),.agg (calA c),.agg [aI 0,aI 2,aI 0,aS ([]),aN]]) (Ze7 f c okf okc hp ⟨0,2,0,[],[]⟩ Zde hx) ⟨sR,sR,W2r ⟨sR,sR,sR,sR,Sub.nil _ _,trivial⟩,trivial⟩<|
 .u 4 [b3,b4]<|
 .fi R [b3,b4])
theorem Zm1 (f:Fsy) (c:Cal) (okf:OkF f) (okc:OkCal c) (hp:Qat f) (hx:f.next<9223372036854775807):Qag prog 267 [.agg (fsyA f),.agg (calA c)] (.tup [.agg (fsyA (symO f c).1),.agg (repA (symO f c).2)]):=by
 have hl:=hp.1;have hr:=Qah hp;have hcn:=okc.name;have hcn2:=okc.name2;have hct:=okc.text;exact Qac func267 (
 .new fun b1=>.new fun b2=>.new fun b3=>.new fun b4=>.u 4 [b2]<|
 .bd 9 (((c.text).length:Int)>4096) (fun p1=>.u 4 [b1,b3,b4]<|
 .f (.tup [.agg (fsyA (symO f c).1),.agg (repA (symO f c).2)]) [b3,b4] (.tup [.agg (fsyA f),.agg [aI 5,aI 0,aI 0,aI 0,aS ([]),aN]]) (by
  have e:symO f c=_:=W1x (by omega);rw [e];exact W2q ⟨sR,(Qb4 _ _ _ _ _),trivial⟩))
 <| fun p1=>.u 5 [b1,b2,b2]<|
 .cs (args0:=[.agg (fsyA f),.agg (calA c),.agg [aI 0,aI 3,aI 0,aS c.text,aN]]) (Ze7 f c okf okc hp ⟨0,3,0,c.text,[]⟩ (Qw6 (by omega)) hx) ⟨sR,sR,W2r ⟨sR,sR,sR,sR,Sub.nil _ _,trivial⟩,trivial⟩<|
 .u 4 [b3,b4]<|
 .f (.tup [.agg (fsyA (symO f c).1),.agg (repA (symO f c).2)]) [b3,b4] (.tup [.agg [.sl 5 false ((addO f c ⟨0,3,0,c.text,[]⟩).1.l.map nodA),aI ((addO f c ⟨0,3,0,c.text,[]⟩).1.next)],.agg [aI ((addO f c ⟨0,3,0,c.text,[]⟩).2.e),aI ((addO f c ⟨0,3,0,c.text,[]⟩).2.a),aI ((addO f c ⟨0,3,0,c.text,[]⟩).2.b),aI ((addO f c ⟨0,3,0,c.text,[]⟩).2.n),aS ((addO f c ⟨0,3,0,c.text,[]⟩).2.text),.sl 1 false ((addO f c ⟨0,3,0,c.text,[]⟩).2.names.map txA)]]) (by
  have e:symO f c=_:=W1w (by omega);rw [e];exact sR))
theorem Zef (f:Fsy) (c:Cal) (okf:OkF f) (okc:OkCal c) (hp:Qat f) (dir:Bool) (odd:Int) (ho:¬ odd=0):Qag prog 269 [.agg (fsyA f),.agg (calA c),aB dir,aI odd] (.tup [.agg (fsyA (Qdj f c dir odd).1),.agg (repA (Qdj f c dir odd).2)]):=by
 have hl:=hp.1;have hr:=Qah hp;have hcn:=okc.name;have hcn2:=okc.name2;have hct:=okc.text;exact Qac func269 (
 .new fun b1=>.new fun b2=>.new fun b3=>.new fun b4=>.u 5 [b1,b2,b2]<|
 .call (Qjb f c.ino c.name hp hcn)<|
 .r 3<|.new fun b5=>.u 2 [b5]<|
 .r 3<|.br 24 ((Qb8 f c.ino c.name)==0) (fun q1=>have p1:=beqT q1;.u 6 [b5]<|
 .br 30 (!((((lookN f c.ino c.name).kind)==2)==dir)) (fun q2=>have q2:=notT q2;have p2:=beqF q2;.r 2<|.r 2<|.is 33 (show (odd != 0)=true from (by simpa using ho))<|.u 5 [b1,b3,b4]<|
 .f (.tup [.agg (fsyA (Qdj f c dir odd).1),.agg (repA (Qdj f c dir odd).2)]) [b3,b4] (.tup [.agg (fsyA f),.agg [aI odd,aI 0,aI 0,aI 0,aS ([]),aN]]) (by
  have e0:Qb8 f c.ino c.name=0:=beqT q1;have e1:(((lookN f c.ino c.name).kind==2) != dir)=true:=by simpa [bne] using q2
  have e:Qdj f c dir odd=(f,errR odd):=by unfold Qdj;rw [W1x e0,W1x e1]
  rw [e];exact W2q ⟨sR,(Qb4 _ _ _ _ _),trivial⟩))
 <| fun q2=>have q2:=notF q2;have p2:=beqT q2;.r 2<|.is 33 (show ((Qb8 f c.ino c.name) != 0)=false from (by simpa [bne] using q1))<|.u 5 [b1,b2,b2]<|
 .call (Za1 f c.ino c.name okf hp hcn)<|
 .r 3<|.new fun b6=>.u 2 [b6]<|
 .u 5 [b6,b3,b4]<|
 .f (.tup [.agg (fsyA (Qdj f c dir odd).1),.agg (repA (Qdj f c dir odd).2)]) [b3,b4] (.tup [.agg [.sl 5 false ((Qkz f c.ino c.name).l.map nodA),aI ((Qkz f c.ino c.name).next)],.agg [aI (Qee f c.ino c.name),aI 0,aI 0,aI 0,aS ([]),aN]]) (by
  have e0:Qb8 f c.ino c.name=0:=beqT q1;have e1:¬ (((lookN f c.ino c.name).kind==2) != dir)=true:=by simpa [bne] using q2
  have e:Qdj f c dir odd=(Qkz f c.ino c.name,errR (Qee f c.ino c.name)):=by unfold Qdj;rw [W1x e0,W1w e1]
  rw [e];exact W2q ⟨sR,(Qb4 _ _ _ _ _),trivial⟩))
 <| fun q1=>have p1:=beqF q1;.r 6<|.r 2<|.is 33 (show ((Qb8 f c.ino c.name) != 0)=true from (by simpa [bne] using q1))<|.u 5 [b1,b3,b4]<|
 .f (.tup [.agg (fsyA (Qdj f c dir odd).1),.agg (repA (Qdj f c dir odd).2)]) [b3,b4] (.tup [.agg (fsyA f),.agg [aI (Qb8 f c.ino c.name),aI 0,aI 0,aI 0,aS ([]),aN]]) (by
  have e:Qdj f c dir odd=(f,errR (Qb8 f c.ino c.name)):=W1w (beqF q1);rw [e];exact W2q ⟨sR,(Qb4 _ _ _ _ _),trivial⟩))
theorem Zm0 (f:Fsy) (c:Cal) (okf:OkF f) (okc:OkCal c) (hp:Qat f):Qag prog 268 [.agg (fsyA f),.agg (calA c)] (.tup [.agg (fsyA (Qdj f c false 9).1),.agg (repA (Qdj f c false 9).2)]):=by
 have hl:=hp.1;have hr:=Qah hp;have hcn:=okc.name;have hcn2:=okc.name2;have hct:=okc.text;exact Qac func268 (let R:AV:=.tup [.agg (fsyA (Qdj f c false 9).1),.agg (repA (Qdj f c false 9).2)];
 .new fun b1=>.new fun b2=>.new fun b3=>.new fun b4=>.u 2 [b1,b2]<|
 .call (Zef f c okf okc hp false 9 (by decide))<|
 .u 4 [b3,b4]<|
 .fi R [b3,b4])
theorem Zi7 (f:Fsy) (c:Cal) (okf:OkF f) (okc:OkCal c) (hp:Qat f):Qag prog 270 [.agg (fsyA f),.agg (calA c)] (.tup [.agg (fsyA (Qdj f c true 8).1),.agg (repA (Qdj f c true 8).2)]):=by
 have hl:=hp.1;have hr:=Qah hp;have hcn:=okc.name;have hcn2:=okc.name2;have hct:=okc.text;exact Qac func270 (let R:AV:=.tup [.agg (fsyA (Qdj f c true 8).1),.agg (repA (Qdj f c true 8).2)];
 .new fun b1=>.new fun b2=>.new fun b3=>.new fun b4=>.u 2 [b1,b2]<|
 .call (Zef f c okf okc hp true 8 (by decide))<|
 .u 4 [b3,b4]<|
 .fi R [b3,b4])
theorem Zi6 (f:Fsy) (c:Cal) (okf:OkF f) (okc:OkCal c) (hp:Qat f):Qag prog 271 [.agg (fsyA f),.agg (calA c)] (.tup [.agg (fsyA (Qur f c).1),.agg (repA (Qur f c).2)]):=by
 have hl:=hp.1;have hr:=Qah hp;have hcn:=okc.name;have hcn2:=okc.name2;have hct:=okc.text;exact Qac func271 (let R:AV:=.tup [.agg (fsyA (Qur f c).1),.agg (repA (Qur f c).2)];
 .new fun b1=>.new fun b2=>.new fun b3=>.new fun b4=>.u 7 [b1,b2,b2,b2]<|
 .call (Zdy f c.ino c.name c.to okf hp hcn okc.to)<|
 .r 3<|.new fun b5=>.u 2 [b5]<|
 .u 5 [b5,b3,b4]<|
 .f R [b3,b4] (.tup [.agg [.sl 5 false ((Qm3 f c.ino c.name c.to).l.map nodA),aI ((Qm3 f c.ino c.name c.to).next)],.agg [aI (Qdy f c.ino c.name c.to),aI 0,aI 0,aI 0,aS ([]),aN]]) (by exact W2q ⟨sR,(Qb4 _ _ _ _ _),trivial⟩))
theorem Zi5 (f:Fsy) (c:Cal) (okf:OkF f) (okc:OkCal c) (hp:Qat f):Qag prog 273 [.agg (fsyA f),.agg (calA c)] (.tup [.agg (fsyA (renO f c).1),.agg (repA (renO f c).2)]):=by
 have hl:=hp.1;have hr:=Qah hp;have hcn:=okc.name;have hcn2:=okc.name2;have hct:=okc.text;exact Qac func273 (let R:AV:=.tup [.agg (fsyA (renO f c).1),.agg (repA (renO f c).2)];
 .new fun b1=>.new fun b2=>.new fun b3=>.new fun b4=>.u 9 [b1,b2,b2,b2,b2]<|
 .call (Zcw f c.ino c.name c.to c.name2 okf hp hcn hcn2)<|
 .r 3<|.new fun b5=>.u 2 [b5]<|
 .u 5 [b5,b3,b4]<|
 .f R [b3,b4] (.tup [.agg [.sl 5 false ((movF f c.ino c.name c.to c.name2).l.map nodA),aI ((movF f c.ino c.name c.to c.name2).next)],.agg [aI (Qdt f c.ino c.name c.to c.name2),aI 0,aI 0,aI 0,aS ([]),aN]]) (by exact W2q ⟨sR,(Qb4 _ _ _ _ _),trivial⟩))
theorem Zi4 (f:Fsy) (c:Cal) (okf:OkF f) (okc:OkCal c) (hp:Qat f):Qag prog 275 [.agg (fsyA f),.agg (calA c)] (.tup [.agg (fsyA (Qy3 f c).1),.agg (repA (Qy3 f c).2)]):=by
 have hl:=hp.1;have hr:=Qah hp;have hcn:=okc.name;have hcn2:=okc.name2;have hct:=okc.text;exact Qac func275 (let R:AV:=.tup [.agg (fsyA (Qy3 f c).1),.agg (repA (Qy3 f c).2)];
 .new fun b1=>.new fun b2=>.new fun b3=>.new fun b4=>.u 3 [b1,b2]<|
 .call (Qp0 f c.ino 3 hp)<|
 .r 3<|.new fun b5=>.u 2 [b5]<|
 let J1:Jn (Unit):=⟨fun j1=>⟨[(4,.ptr 4 b3 0),(5,.ptr 5 b4 0)],[(4,.box b3 38 (fsyA f)),(5,.box b4 45 [aI (ofE f c.ino 3),aI 0,aI 0,aI 0,aS ((ofN f c.ino 3).text),aN])]⟩,fun _=>True⟩
 .cut J1 (.pick [0,1,2]<|.u 3 [b1]<|
 .fork<|.alt (.u 1 [b5]<|
 .pick [4,5,6]<|.u 3 [b3,b4]<|
 .jo J1 () [] [] sr2 bb2)
 <| .u 1 [b3]<|
 .pick [3,4,6]<|.u 3 [b5,b4]<|
 .jo J1 () [] [] sr2 bb2)
 <| fun _ _=>.f R [b3,b4] (.tup [.agg (fsyA f),.agg [aI (ofE f c.ino 3),aI 0,aI 0,aI 0,aS ((ofN f c.ino 3).text),aN]]) (by exact W2q ⟨sR,(Qb4 _ _ _ _ _),trivial⟩))
theorem Zi3 (f:Fsy) (c:Cal) (okf:OkF f) (okc:OkCal c) (hp:Qat f):Qag prog 277 [.agg (fsyA f),.agg (calA c)] (.tup [.agg (fsyA (Qy7 f c).1),.agg (repA (Qy7 f c).2)]):=by
 have hl:=hp.1;have hr:=Qah hp;have hcn:=okc.name;have hcn2:=okc.name2;have hct:=okc.text;exact Qac func277 (let R:AV:=.tup [.agg (fsyA (Qy7 f c).1),.agg (repA (Qy7 f c).2)];
 .new fun b1=>.new fun b2=>.new fun b3=>.new fun b4=>.u 3 [b1,b2]<|
 .call (Qhr f c.ino hp)<|
 .r 3<|.new fun b5=>.u 2 [b5]<|
 .ord [0,1,2,3,4,5,6,7]<|.u 4 [b1,b5]<|
 .call (Qu4 (dirN f c.ino).l (by have:=(Qef hp c.ino).2;omega))<|
 .u 3 [b3,b4]<|
 .fi R [b3,b4])
theorem Zi2 (f:Fsy) (c:Cal) (okf:OkF f) (okc:OkCal c) (hp:Qat f):Qag prog 280 [.agg (fsyA f),.agg (calA c)] (.tup [.agg (fsyA (sfsO f).1),.agg (repA (sfsO f).2)]):=by
 have hl:=hp.1;have hr:=Qah hp;have hcn:=okc.name;have hcn2:=okc.name2;have hct:=okc.text;exact Qac func280 (
 .new fun b1=>.new fun b2=>.new fun b3=>.new fun b4=>.u 3 [b1]<|
 .lm 11 f.l nodA<|.r 1<|.new fun b5=>.u 1 [b5]<|
 .u 3 [b1]<|
 .lm 15 f.l nodA<|.r 1<|let L1:Lp (Nat):=⟨fun a1=>⟨[(2,.ptr 2 b1 0),(4,.ptr 4 b3 0),(5,.ptr 5 b4 0),(6,.ptr 6 b5 0),(14,.sl 5 false (f.l.map nodA)),(15,aI (f.l.length:Int)),(16,aI (a1:Int))],[(2,.box b1 38 (fsyA f)),(4,.box b3 38 [aN,aI 0]),(5,.box b4 45 [aI 0,aI 0,aI 0,aI 0,aS ([]),aN]),(6,.box b5 45 [aI 0,aI (f.l.length:Int),aI (txtS (f.l.take a1):Int),aI 0,aS ([]),aN])]⟩,fun a1=>f.l.length-a1,fun a1=>a1≤f.l.length∧txtS (f.l.take a1)≤4096*a1⟩
 .lp L1 0 ⟨W0j _,W0m _⟩ [(16,aI 0)] [(6,.box b5 45 [aI 0,aI (f.l.length:Int),aI 0,aI 0,aS ([]),aN])] ⟨sR,sR,sR,sR,sR,sR,sO,trivial⟩ ⟨sB,sB,sB,⟨_,rfl,W2o rfl⟩,trivial⟩ fun a1 ha1=>
 (fun (k:Nat) (hH1:k≤f.l.length∧txtS (f.l.take k)≤4096*k)=>.r 1<|.bd 17 ((k:Int)<(f.l.length:Int)) (fun p1=>.idxM f.l nodA k (m:=(k:Int)) rfl (by omega) fun x1 hx1=>
 have tlx1:=Qv6 hp (W0h hx1);.r 1<|.new fun b6=>.u 1 [b6]<|
 .run 8 [b5=b5,b6=b6,rng .i64 ((txtS (f.l.take k):Int)+((x1.text).length:Int)),b5=b5] ⟨rfl,rfl,Qal,rfl,trivial⟩<|
 .run 2 [rng .i64 ((k:Int)+1)] ⟨Qal,trivial⟩<|
 .bk L1 k (k+1) ⟨by omega,by rw [show txtS (f.l.take (k+1))=txtS (f.l.take k)+x1.text.length from by unfold txtS;rw [Qaq hx1];simp];have:=Qv6 hp (W0h hx1);omega⟩ (show f.l.length-(k+1)<f.l.length-k from (by omega)) [(16,aI ((k:Int)+1))] [(6,.box b5 45 [aI 0,aI (f.l.length:Int),aI ((txtS (f.l.take k):Int)+((x1.text).length:Int)),aI 0,aS ([]),aN])] ⟨sR,sR,sR,sR,sR,sR,sO,trivial⟩ ⟨sB,sB,sB,⟨_,rfl,W2o (by rw [show txtS (f.l.take (k+1))=txtS (f.l.take k)+x1.text.length from by unfold txtS;rw [Qaq hx1];simp];simp)⟩,trivial⟩)
 <| fun p1=>.pick [0]<|.u 1 [b1]<|
 .fork<|.alt (.u 1 [b5]<|
 .pick [2,3]<|.u 2 [b3,b4]<|
 .f (.tup [.agg (fsyA (sfsO f).1),.agg (repA (sfsO f).2)]) [b3,b4] (.tup [.agg (fsyA f),.agg [aI 0,aI (f.l.length:Int),aI (txtS (f.l.take k):Int),aI 0,aS ([]),aN]]) (by
  rw [show k=f.l.length from by omega,Qap (W0m _)];exact W2q ⟨sR,(Qb4 _ _ _ _ _),trivial⟩))
 <| .u 1 [b3]<|
 .pick [1,3]<|.u 2 [b5,b4]<|
 .f (.tup [.agg (fsyA (sfsO f).1),.agg (repA (sfsO f).2)]) [b3,b4] (.tup [.agg (fsyA f),.agg [aI 0,aI (f.l.length:Int),aI (txtS (f.l.take k):Int),aI 0,aS ([]),aN]]) (by
  rw [show k=f.l.length from by omega,Qap (W0m _)];exact W2q ⟨sR,(Qb4 _ _ _ _ _),trivial⟩)) a1 ha1)
noncomputable def Qch (f:Fsy) (c:Cal):Fsy × Rep:=if c.kind=1 then Qzj f c else if c.kind=2 then Qk0 f c else if c.kind=3 then Qk1 f c else if c.kind=4 then Qga f c else if c.kind=5 then cutO f c else if c.kind=6 then addO f c ⟨0,1,0,[],[]⟩ else if c.kind=7 then addO f c ⟨0,2,0,[],[]⟩ else if c.kind=8 then symO f c else if c.kind=9 then Qdj f c false 9 else if c.kind=10 then Qdj f c true 8 else if c.kind=11 then Qur f c else if c.kind=12 then renO f c else if c.kind=13 then Qy3 f c else if c.kind=14 then Qy7 f c else if c.kind=15 then sfsO f else (f,errR 1)
noncomputable def doF (f:Fsy) (c:Cal):Fsy × Rep:=if (Qch f c).2.e=0 then Qch f c else (f,errR (Qch f c).2.e)
theorem Ze2 {f:Fsy} {c:Cal} (h:c.kind=1):Qch f c=Qzj f c:=by unfold Qch;rw [W1x h]
theorem Ze1 {f:Fsy} {c:Cal} (h:c.kind=2):Qch f c=Qk0 f c:=by unfold Qch;rw [W1w (by omega),W1x h]
theorem Ze0 {f:Fsy} {c:Cal} (h:c.kind=3):Qch f c=Qk1 f c:=by unfold Qch;rw [W1w (by omega),W1w (by omega),W1x h]
theorem Zez {f:Fsy} {c:Cal} (h:c.kind=4):Qch f c=Qga f c:=by unfold Qch;rw [W1w (by omega),W1w (by omega),W1w (by omega),W1x h]
theorem Zey {f:Fsy} {c:Cal} (h:c.kind=5):Qch f c=cutO f c:=by unfold Qch;rw [W1w (by omega),W1w (by omega),W1w (by omega),W1w (by omega),W1x h]
theorem Qxt {f:Fsy} {c:Cal} (h:c.kind=6):Qch f c=addO f c ⟨0,1,0,[],[]⟩:=by unfold Qch;rw [W1w (by omega),W1w (by omega),W1w (by omega),W1w (by omega),W1w (by omega),W1x h]
theorem Zex {f:Fsy} {c:Cal} (h:c.kind=7):Qch f c=addO f c ⟨0,2,0,[],[]⟩:=by unfold Qch;rw [W1w (by omega),W1w (by omega),W1w (by omega),W1w (by omega),W1w (by omega),W1w (by omega),W1x h]
theorem Zew {f:Fsy} {c:Cal} (h:c.kind=8):Qch f c=symO f c:=by unfold Qch;rw [W1w (by omega),W1w (by omega),W1w (by omega),W1w (by omega),W1w (by omega),W1w (by omega),W1w (by omega),W1x h]
theorem Zev {f:Fsy} {c:Cal} (h:c.kind=9):Qch f c=Qdj f c false 9:=by unfold Qch;rw [W1w (by omega),W1w (by omega),W1w (by omega),W1w (by omega),W1w (by omega),W1w (by omega),W1w (by omega),W1w (by omega),W1x h]
theorem Qve {f:Fsy} {c:Cal} (h:c.kind=10):Qch f c=Qdj f c true 8:=by unfold Qch;rw [W1w (by omega),W1w (by omega),W1w (by omega),W1w (by omega),W1w (by omega),W1w (by omega),W1w (by omega),W1w (by omega),W1w (by omega),W1x h]
theorem Qvd {f:Fsy} {c:Cal} (h:c.kind=11):Qch f c=Qur f c:=by unfold Qch;rw [W1w (by omega),W1w (by omega),W1w (by omega),W1w (by omega),W1w (by omega),W1w (by omega),W1w (by omega),W1w (by omega),W1w (by omega),W1w (by omega),W1x h]
theorem Qvc {f:Fsy} {c:Cal} (h:c.kind=12):Qch f c=renO f c:=by unfold Qch;rw [W1w (by omega),W1w (by omega),W1w (by omega),W1w (by omega),W1w (by omega),W1w (by omega),W1w (by omega),W1w (by omega),W1w (by omega),W1w (by omega),W1w (by omega),W1x h]
theorem Qvb {f:Fsy} {c:Cal} (h:c.kind=13):Qch f c=Qy3 f c:=by unfold Qch;rw [W1w (by omega),W1w (by omega),W1w (by omega),W1w (by omega),W1w (by omega),W1w (by omega),W1w (by omega),W1w (by omega),W1w (by omega),W1w (by omega),W1w (by omega),W1w (by omega),W1x h]
theorem Qva {f:Fsy} {c:Cal} (h:c.kind=14):Qch f c=Qy7 f c:=by unfold Qch;rw [W1w (by omega),W1w (by omega),W1w (by omega),W1w (by omega),W1w (by omega),W1w (by omega),W1w (by omega),W1w (by omega),W1w (by omega),W1w (by omega),W1w (by omega),W1w (by omega),W1w (by omega),W1x h]
theorem Qu9 {f:Fsy} {c:Cal} (h:c.kind=15):Qch f c=sfsO f:=by unfold Qch;rw [W1w (by omega),W1w (by omega),W1w (by omega),W1w (by omega),W1w (by omega),W1w (by omega),W1w (by omega),W1w (by omega),W1w (by omega),W1w (by omega),W1w (by omega),W1w (by omega),W1w (by omega),W1w (by omega),W1x h]
theorem Qu8 {f:Fsy} {c:Cal} (h:c.kind<1∨c.kind>15):Qch f c=(f,errR 1):=by unfold Qch;rw [W1w (by omega),W1w (by omega),W1w (by omega),W1w (by omega),W1w (by omega),W1w (by omega),W1w (by omega),W1w (by omega),W1w (by omega),W1w (by omega),W1w (by omega),W1w (by omega),W1w (by omega),W1w (by omega),W1w (by omega)]
theorem Zei {f:Fsy} {c:Cal} {x:Fsy × Rep} (h:Qch f c=x) (he:x.2.e=0):doF f c=x:=by unfold doF;rw [h,W1x he]
theorem Zmy {f:Fsy} {c:Cal} {x:Fsy × Rep} (h:Qch f c=x) (he:¬ x.2.e=0):doF f c=(f,errR x.2.e):=by unfold doF;rw [h,W1w he]
def Qz1:List (MK × AV):=[(.i 1,.val (.func (.func 259) #[] #[])),(.i 2,.val (.func (.func 260) #[] #[])),(.i 3,.val (.func (.func 261) #[] #[])),(.i 4,.val (.func (.func 262) #[] #[])),(.i 5,.val (.func (.func 263) #[] #[])),(.i 6,.val (.func (.func 264) #[] #[])),(.i 7,.val (.func (.func 266) #[] #[])),(.i 8,.val (.func (.func 267) #[] #[])),(.i 9,.val (.func (.func 268) #[] #[])),(.i 10,.val (.func (.func 270) #[] #[])),(.i 11,.val (.func (.func 271) #[] #[])),(.i 12,.val (.func (.func 273) #[] #[])),(.i 13,.val (.func (.func 275) #[] #[])),(.i 14,.val (.func (.func 277) #[] #[])),(.i 15,.val (.func (.func 280) #[] #[]))]
theorem Qo3 :Qag prog 241 [] (.mp Qz1):=by
 exact Qac func241 (
 .r 1<|.mkMap fun r1=>.ins (kk:=.i 1) (es:=[]) r1 (by rfl)<|.ins (kk:=.i 2) (es:=[(.i 1,.val (.func (.func 259) #[] #[]))]) r1 (by rfl)<|.ins (kk:=.i 3) (es:=[(.i 1,.val (.func (.func 259) #[] #[])),(.i 2,.val (.func (.func 260) #[] #[]))]) r1 (by rfl)<|.ins (kk:=.i 4) (es:=[(.i 1,.val (.func (.func 259) #[] #[])),(.i 2,.val (.func (.func 260) #[] #[])),(.i 3,.val (.func (.func 261) #[] #[]))]) r1 (by rfl)<|.ins (kk:=.i 5) (es:=[(.i 1,.val (.func (.func 259) #[] #[])),(.i 2,.val (.func (.func 260) #[] #[])),(.i 3,.val (.func (.func 261) #[] #[])),(.i 4,.val (.func (.func 262) #[] #[]))]) r1 (by rfl)<|.ins (kk:=.i 6) (es:=[(.i 1,.val (.func (.func 259) #[] #[])),(.i 2,.val (.func (.func 260) #[] #[])),(.i 3,.val (.func (.func 261) #[] #[])),(.i 4,.val (.func (.func 262) #[] #[])),(.i 5,.val (.func (.func 263) #[] #[]))]) r1 (by rfl)<|.ins (kk:=.i 7) (es:=[(.i 1,.val (.func (.func 259) #[] #[])),(.i 2,.val (.func (.func 260) #[] #[])),(.i 3,.val (.func (.func 261) #[] #[])),(.i 4,.val (.func (.func 262) #[] #[])),(.i 5,.val (.func (.func 263) #[] #[])),(.i 6,.val (.func (.func 264) #[] #[]))]) r1 (by rfl)<|.ins (kk:=.i 8) (es:=[(.i 1,.val (.func (.func 259) #[] #[])),(.i 2,.val (.func (.func 260) #[] #[])),(.i 3,.val (.func (.func 261) #[] #[])),(.i 4,.val (.func (.func 262) #[] #[])),(.i 5,.val (.func (.func 263) #[] #[])),(.i 6,.val (.func (.func 264) #[] #[])),(.i 7,.val (.func (.func 266) #[] #[]))]) r1 (by rfl)<|.ins (kk:=.i 9) (es:=[(.i 1,.val (.func (.func 259) #[] #[])),(.i 2,.val (.func (.func 260) #[] #[])),(.i 3,.val (.func (.func 261) #[] #[])),(.i 4,.val (.func (.func 262) #[] #[])),(.i 5,.val (.func (.func 263) #[] #[])),(.i 6,.val (.func (.func 264) #[] #[])),(.i 7,.val (.func (.func 266) #[] #[])),(.i 8,.val (.func (.func 267) #[] #[]))]) r1 (by rfl)<|.ins (kk:=.i 10) (es:=[(.i 1,.val (.func (.func 259) #[] #[])),(.i 2,.val (.func (.func 260) #[] #[])),(.i 3,.val (.func (.func 261) #[] #[])),(.i 4,.val (.func (.func 262) #[] #[])),(.i 5,.val (.func (.func 263) #[] #[])),(.i 6,.val (.func (.func 264) #[] #[])),(.i 7,.val (.func (.func 266) #[] #[])),(.i 8,.val (.func (.func 267) #[] #[])),(.i 9,.val (.func (.func 268) #[] #[]))]) r1 (by rfl)<|.ins (kk:=.i 11) (es:=[(.i 1,.val (.func (.func 259) #[] #[])),(.i 2,.val (.func (.func 260) #[] #[])),(.i 3,.val (.func (.func 261) #[] #[])),(.i 4,.val (.func (.func 262) #[] #[])),(.i 5,.val (.func (.func 263) #[] #[])),(.i 6,.val (.func (.func 264) #[] #[])),(.i 7,.val (.func (.func 266) #[] #[])),(.i 8,.val (.func (.func 267) #[] #[])),(.i 9,.val (.func (.func 268) #[] #[])),(.i 10,.val (.func (.func 270) #[] #[]))]) r1 (by rfl)<|.ins (kk:=.i 12) (es:=[(.i 1,.val (.func (.func 259) #[] #[])),(.i 2,.val (.func (.func 260) #[] #[])),(.i 3,.val (.func (.func 261) #[] #[])),(.i 4,.val (.func (.func 262) #[] #[])),(.i 5,.val (.func (.func 263) #[] #[])),(.i 6,.val (.func (.func 264) #[] #[])),(.i 7,.val (.func (.func 266) #[] #[])),(.i 8,.val (.func (.func 267) #[] #[])),(.i 9,.val (.func (.func 268) #[] #[])),(.i 10,.val (.func (.func 270) #[] #[])),(.i 11,.val (.func (.func 271) #[] #[]))]) r1 (by rfl)<|.ins (kk:=.i 13) (es:=[(.i 1,.val (.func (.func 259) #[] #[])),(.i 2,.val (.func (.func 260) #[] #[])),(.i 3,.val (.func (.func 261) #[] #[])),(.i 4,.val (.func (.func 262) #[] #[])),(.i 5,.val (.func (.func 263) #[] #[])),(.i 6,.val (.func (.func 264) #[] #[])),(.i 7,.val (.func (.func 266) #[] #[])),(.i 8,.val (.func (.func 267) #[] #[])),(.i 9,.val (.func (.func 268) #[] #[])),(.i 10,.val (.func (.func 270) #[] #[])),(.i 11,.val (.func (.func 271) #[] #[])),(.i 12,.val (.func (.func 273) #[] #[]))]) r1 (by rfl)<|.ins (kk:=.i 14) (es:=[(.i 1,.val (.func (.func 259) #[] #[])),(.i 2,.val (.func (.func 260) #[] #[])),(.i 3,.val (.func (.func 261) #[] #[])),(.i 4,.val (.func (.func 262) #[] #[])),(.i 5,.val (.func (.func 263) #[] #[])),(.i 6,.val (.func (.func 264) #[] #[])),(.i 7,.val (.func (.func 266) #[] #[])),(.i 8,.val (.func (.func 267) #[] #[])),(.i 9,.val (.func (.func 268) #[] #[])),(.i 10,.val (.func (.func 270) #[] #[])),(.i 11,.val (.func (.func 271) #[] #[])),(.i 12,.val (.func (.func 273) #[] #[])),(.i 13,.val (.func (.func 275) #[] #[]))]) r1 (by rfl)<|.ins (kk:=.i 15) (es:=[(.i 1,.val (.func (.func 259) #[] #[])),(.i 2,.val (.func (.func 260) #[] #[])),(.i 3,.val (.func (.func 261) #[] #[])),(.i 4,.val (.func (.func 262) #[] #[])),(.i 5,.val (.func (.func 263) #[] #[])),(.i 6,.val (.func (.func 264) #[] #[])),(.i 7,.val (.func (.func 266) #[] #[])),(.i 8,.val (.func (.func 267) #[] #[])),(.i 9,.val (.func (.func 268) #[] #[])),(.i 10,.val (.func (.func 270) #[] #[])),(.i 11,.val (.func (.func 271) #[] #[])),(.i 12,.val (.func (.func 273) #[] #[])),(.i 13,.val (.func (.func 275) #[] #[])),(.i 14,.val (.func (.func 277) #[] #[]))]) r1 (by rfl)<|.r 2<|.frz 1 [0] [] [r1=r1] rt1<|
 .fi (.mp Qz1) [])
noncomputable def doCt (f:Fsy) (c:Cal) (fn j:Nat) (g:Fsy × Rep) (hl:Qdb (.i c.kind) Qz1 0=some (j,.val (.func (.func fn) #[] #[]))) (hd:Qch f c=g) (hs:Qag prog fn [.agg (fsyA f),.agg (calA c)] (.tup [.agg (fsyA g.1),.agg (repA g.2)])):Ct prog:=
 .new fun b1=>.new fun b2=>.new fun b3=>.new fun b4=>.ord [1,2,0,3,4,5,6,7,8]<|.u 2 [b2]<|
 .call (Qo3)<|
 .look (kk:=.i c.kind) (es:=Qz1) (fd:=some (j,.val (.func (.func fn) #[] #[]))) hl<|.r 5<|.r 2<|.u 3 [b1,b2]<|
 .call (hs)<|
 .r 3<|.new fun b5=>.new fun b6=>.u 2 [b5,b6]<|
 .u 3 [b6]<|
 .br 30 (g.2.e != 0) (fun q1=>have p1:=bneT q1;.pick [0,1]<|.u 2 [b1]<|
 .fork<|.alt (.u 1 [b6]<|
 .pick [3,4,5]<|.u 3 [b3,b4]<|
 .f (.tup [.agg (fsyA (doF f c).1),.agg (repA (doF f c).2)]) [b3,b4] (.tup [.agg (fsyA f),.agg [aI g.2.e,aI 0,aI 0,aI 0,aS ([]),aN]]) (by
  rw [Zmy hd (bneT q1)];exact W2q ⟨sR,(Qb4 _ _ _ _ _),trivial⟩))
 <| .u 1 [b3]<|
 .pick [2,3,5]<|.u 3 [b6,b4]<|
 .f (.tup [.agg (fsyA (doF f c).1),.agg (repA (doF f c).2)]) [b3,b4] (.tup [.agg (fsyA f),.agg [aI g.2.e,aI 0,aI 0,aI 0,aS ([]),aN]]) (by
  rw [Zmy hd (bneT q1)];exact W2q ⟨sR,(Qb4 _ _ _ _ _),trivial⟩))
 <| fun q1=>have p1:=bneF q1;.pick [0]<|.u 1 [b5]<|
 .fork<|.alt (.u 1 [b6]<|
 .pick [2,3]<|.u 2 [b3,b4]<|
 .f (.tup [.agg (fsyA (doF f c).1),.agg (repA (doF f c).2)]) [b3,b4] (.tup [.agg (fsyA g.1),.agg (repA g.2)]) (by
  rw [Zei hd (bneF q1)];exact sR))
 <| .u 1 [b3]<|
 .pick [1,3]<|.u 2 [b6,b4]<|
 .f (.tup [.agg (fsyA (doF f c).1),.agg (repA (doF f c).2)]) [b3,b4] (.tup [.agg (fsyA g.1),.agg (repA g.2)]) (by
  rw [Zei hd (bneF q1)];exact sR)
theorem Zi1 (f:Fsy) (c:Cal) (okf:OkF f) (okc:OkCal c) (hp:Qat f) (hx:f.next<9223372036854775807) (hk:c.kind=1):Qag prog 206 [.agg (fsyA f),.agg (calA c)] (.tup [.agg (fsyA (doF f c).1),.agg (repA (doF f c).2)]):=
 Qac func206 (doCt f c 259 0 _ (by rw [hk];rfl) (Ze2 hk) (Qz0 f c okf okc hp))
theorem Zi0 (f:Fsy) (c:Cal) (okf:OkF f) (okc:OkCal c) (hp:Qat f) (hx:f.next<9223372036854775807) (hk:c.kind=2):Qag prog 206 [.agg (fsyA f),.agg (calA c)] (.tup [.agg (fsyA (doF f c).1),.agg (repA (doF f c).2)]):=
 Qac func206 (doCt f c 260 1 _ (by rw [hk];rfl) (Ze1 hk) (Qzy f c okf okc hp))
theorem Ziz (f:Fsy) (c:Cal) (okf:OkF f) (okc:OkCal c) (hp:Qat f) (hx:f.next<9223372036854775807) (hk:c.kind=3):Qag prog 206 [.agg (fsyA f),.agg (calA c)] (.tup [.agg (fsyA (doF f c).1),.agg (repA (doF f c).2)]):=
 Qac func206 (doCt f c 261 2 _ (by rw [hk];rfl) (Ze0 hk) (Zmw f c okf okc hp))
theorem Ziy (f:Fsy) (c:Cal) (okf:OkF f) (okc:OkCal c) (hp:Qat f) (hx:f.next<9223372036854775807) (hk:c.kind=4):Qag prog 206 [.agg (fsyA f),.agg (calA c)] (.tup [.agg (fsyA (doF f c).1),.agg (repA (doF f c).2)]):=
 Qac func206 (doCt f c 262 3 _ (by rw [hk];rfl) (Zez hk) (Zir f c okf okc hp))
theorem Zix (f:Fsy) (c:Cal) (okf:OkF f) (okc:OkCal c) (hp:Qat f) (hx:f.next<9223372036854775807) (hk:c.kind=5):Qag prog 206 [.agg (fsyA f),.agg (calA c)] (.tup [.agg (fsyA (doF f c).1),.agg (repA (doF f c).2)]):=
 Qac func206 (doCt f c 263 4 _ (by rw [hk];rfl) (Zey hk) (dcut_o f c okf okc hp))
theorem Ziw (f:Fsy) (c:Cal) (okf:OkF f) (okc:OkCal c) (hp:Qat f) (hx:f.next<9223372036854775807) (hk:c.kind=6):Qag prog 206 [.agg (fsyA f),.agg (calA c)] (.tup [.agg (fsyA (doF f c).1),.agg (repA (doF f c).2)]):=
 Qac func206 (doCt f c 264 5 _ (by rw [hk];rfl) (Qxt hk) (Zm3 f c okf okc hp hx))
theorem Ziv (f:Fsy) (c:Cal) (okf:OkF f) (okc:OkCal c) (hp:Qat f) (hx:f.next<9223372036854775807) (hk:c.kind=7):Qag prog 206 [.agg (fsyA f),.agg (calA c)] (.tup [.agg (fsyA (doF f c).1),.agg (repA (doF f c).2)]):=
 Qac func206 (doCt f c 266 6 _ (by rw [hk];rfl) (Zex hk) (Zm2 f c okf okc hp hx))
theorem Ziu (f:Fsy) (c:Cal) (okf:OkF f) (okc:OkCal c) (hp:Qat f) (hx:f.next<9223372036854775807) (hk:c.kind=8):Qag prog 206 [.agg (fsyA f),.agg (calA c)] (.tup [.agg (fsyA (doF f c).1),.agg (repA (doF f c).2)]):=
 Qac func206 (doCt f c 267 7 _ (by rw [hk];rfl) (Zew hk) (Zm1 f c okf okc hp hx))
theorem Zit (f:Fsy) (c:Cal) (okf:OkF f) (okc:OkCal c) (hp:Qat f) (hx:f.next<9223372036854775807) (hk:c.kind=9):Qag prog 206 [.agg (fsyA f),.agg (calA c)] (.tup [.agg (fsyA (doF f c).1),.agg (repA (doF f c).2)]):=
 Qac func206 (doCt f c 268 8 _ (by rw [hk];rfl) (Zev hk) (Zm0 f c okf okc hp))
theorem Zep (f:Fsy) (c:Cal) (okf:OkF f) (okc:OkCal c) (hp:Qat f) (hx:f.next<9223372036854775807) (hk:c.kind=10):Qag prog 206 [.agg (fsyA f),.agg (calA c)] (.tup [.agg (fsyA (doF f c).1),.agg (repA (doF f c).2)]):=
 Qac func206 (doCt f c 270 9 _ (by rw [hk];rfl) (Qve hk) (Zi7 f c okf okc hp))
theorem Zeo (f:Fsy) (c:Cal) (okf:OkF f) (okc:OkCal c) (hp:Qat f) (hx:f.next<9223372036854775807) (hk:c.kind=11):Qag prog 206 [.agg (fsyA f),.agg (calA c)] (.tup [.agg (fsyA (doF f c).1),.agg (repA (doF f c).2)]):=
 Qac func206 (doCt f c 271 10 _ (by rw [hk];rfl) (Qvd hk) (Zi6 f c okf okc hp))
theorem Zen (f:Fsy) (c:Cal) (okf:OkF f) (okc:OkCal c) (hp:Qat f) (hx:f.next<9223372036854775807) (hk:c.kind=12):Qag prog 206 [.agg (fsyA f),.agg (calA c)] (.tup [.agg (fsyA (doF f c).1),.agg (repA (doF f c).2)]):=
 Qac func206 (doCt f c 273 11 _ (by rw [hk];rfl) (Qvc hk) (Zi5 f c okf okc hp))
theorem Zem (f:Fsy) (c:Cal) (okf:OkF f) (okc:OkCal c) (hp:Qat f) (hx:f.next<9223372036854775807) (hk:c.kind=13):Qag prog 206 [.agg (fsyA f),.agg (calA c)] (.tup [.agg (fsyA (doF f c).1),.agg (repA (doF f c).2)]):=
 Qac func206 (doCt f c 275 12 _ (by rw [hk];rfl) (Qvb hk) (Zi4 f c okf okc hp))
theorem Zel (f:Fsy) (c:Cal) (okf:OkF f) (okc:OkCal c) (hp:Qat f) (hx:f.next<9223372036854775807) (hk:c.kind=14):Qag prog 206 [.agg (fsyA f),.agg (calA c)] (.tup [.agg (fsyA (doF f c).1),.agg (repA (doF f c).2)]):=
 Qac func206 (doCt f c 277 13 _ (by rw [hk];rfl) (Qva hk) (Zi3 f c okf okc hp))
theorem Zek (f:Fsy) (c:Cal) (okf:OkF f) (okc:OkCal c) (hp:Qat f) (hx:f.next<9223372036854775807) (hk:c.kind=15):Qag prog 206 [.agg (fsyA f),.agg (calA c)] (.tup [.agg (fsyA (doF f c).1),.agg (repA (doF f c).2)]):=
 Qac func206 (doCt f c 280 14 _ (by rw [hk];rfl) (Qu9 hk) (Zi2 f c okf okc hp))
theorem Zej (f:Fsy) (c:Cal) (okf:OkF f) (okc:OkCal c) (hp:Qat f) (hx:f.next<9223372036854775807) (hk:c.kind<1∨c.kind>15):Qag prog 206 [.agg (fsyA f),.agg (calA c)] (.tup [.agg (fsyA (doF f c).1),.agg (repA (doF f c).2)]):=by
 exact Qac func206 (
 .new fun b1=>.new fun b2=>.new fun b3=>.new fun b4=>.ord [1,2,0,3,4,5,6,7,8]<|.u 2 [b2]<|
 .call (Qo3)<|
 .look (kk:=.i c.kind) (es:=Qz1) (fd:=none) (by simp only [Qz1,Qdb];repeat rw [W1w (fun h=>by injection h with h;omega)])<|.r 5<|.r 2<|.u 4 [b1,b3,b4]<|
 .f (.tup [.agg (fsyA (doF f c).1),.agg (repA (doF f c).2)]) [b3,b4] (.tup [.agg (fsyA f),.agg [aI 1,aI 0,aI 0,aI 0,aS ([]),aN]]) (by
  rw [Zmy (Qu8 hk) (by show ¬ (1:Int)=0;omega)];exact W2q ⟨sR,(Qb4 _ _ _ _ _),trivial⟩))
theorem Zmx (f:Fsy) (c:Cal) (okf:OkF f) (okc:OkCal c) (hp:Qat f) (hx:f.next<9223372036854775807):Qag prog 206 [.agg (fsyA f),.agg (calA c)] (.tup [.agg (fsyA (doF f c).1),.agg (repA (doF f c).2)]):=by
 rcases (show c.kind=1∨c.kind=2∨c.kind=3∨c.kind=4∨c.kind=5∨c.kind=6∨c.kind=7∨c.kind=8∨c.kind=9∨c.kind=10∨c.kind=11∨c.kind=12∨c.kind=13∨c.kind=14∨c.kind=15∨(c.kind<1∨c.kind>15) from by omega) with h | h | h | h | h | h | h | h | h | h | h | h | h | h | h | h
 ·exact Zi1 f c okf okc hp hx h
 ·exact Zi0 f c okf okc hp hx h
 ·exact Ziz f c okf okc hp hx h
 ·exact Ziy f c okf okc hp hx h
 ·exact Zix f c okf okc hp hx h
 ·exact Ziw f c okf okc hp hx h
 ·exact Ziv f c okf okc hp hx h
 ·exact Ziu f c okf okc hp hx h
 ·exact Zit f c okf okc hp hx h
 ·exact Zep f c okf okc hp hx h
 ·exact Zeo f c okf okc hp hx h
 ·exact Zen f c okf okc hp hx h
 ·exact Zem f c okf okc hp hx h
 ·exact Zel f c okf okc hp hx h
 ·exact Zek f c okf okc hp hx h
 ·exact Zej f c okf okc hp hx h
theorem of_at {f:Fsy} {i k:Int} (h:ofE f i k=0):atF f i=some (Qab f i)∧(Qab f i).kind=k:=by
 unfold ofE at h
 split at h
 ·rename_i hb
  split at h
  ·rename_i hk;exact ⟨Qf7 hb,hk⟩
  ·cases h
 ·cases h
theorem Qsc {f:Fsy} {i:Int} {t:Txt} (okf:OkF f) (T:TreeP f) (h:ofE f i 1=0) (ht:t.length≤4096):Kept f (putF f (Qky (Qab f i) t)):=by
 obtain ⟨hn,hk⟩:=of_at h;obtain ⟨n1,n2,n3⟩:=Qbf T.rows hn;have okn:=okf.2.2 _ (Qdh hn);exact Zh3 okf T hn n3 rfl rfl rfl ⟨n1.1,n1.2.1,n1.2.2.1,.inr ⟨.inl hk,ht,(show (Qab f i).l=[] from Qnd n1 (by rw [hk];decide))⟩⟩ ⟨okn.1,okn.2.1,okn.2.2.1,by show t.length≤_;omega,okn.2.2.2.2⟩
theorem Qm0 {f:Fsy} {c:Cal} {n:Nod} (okf:OkF f) (okc:OkCal c) (T:TreeP f) (hx:f.next<4611686018427387904) (okn:OkN n):Kept f (addO f c n).1:=by
 unfold addO;show Kept f (if Qbq f c.ino c.name n=0 then _ else f)
 split
 ·rename_i h;exact Zh5 okf T okn okc.name hx h
 ·exact Kept.self okf T
theorem Zdd {f:Fsy} {c:Cal} (okf:OkF f) (okc:OkCal c) (T:TreeP f) (hx:f.next<4611686018427387904) (he:(Qch f c).2.e=0):Kept f (Qch f c).1:=by
 have S:=Kept.self okf T;rcases (show c.kind=1∨c.kind=2∨c.kind=3∨c.kind=4∨c.kind=5∨c.kind=6∨c.kind=7∨c.kind=8∨c.kind=9∨c.kind=10∨c.kind=11∨c.kind=12∨c.kind=13∨c.kind=14∨c.kind=15∨(c.kind<1∨c.kind>15) from by omega) with h | h | h | h | h | h | h | h | h | h | h | h | h | h | h | h
 ·rw [Ze2 h] at he ⊢;exact S
 ·rw [Ze1 h] at he ⊢;unfold Qk0;split<;>exact S
 ·rw [Ze0 h] at he ⊢;unfold Qk1;split<;>exact S
 ·rw [Zez h] at he ⊢;unfold Qga at he ⊢
  split
  ·rename_i hof;rw [W1x hof] at he;refine Qsc okf T hof ?_;have he2:(Qcx (Qab f c.ino).text c.at_ c.text).2=0:=he;unfold Qcx at he2 ⊢
   split
   ·rename_i hw;have hz:=Qfw hw;have htl:=Qju T.rows c.ino;show (if c.text=[] then (Qab f c.ino).text else putD (Qab f c.ino).text c.at_.toNat c.text).length≤4096
    split
    ·exact htl
    ·rw [Qmf];omega
   ·exact Qju T.rows c.ino
  ·exact S
 ·rw [Zey h] at he ⊢;unfold cutO
  split
  ·rename_i hof;refine Qsc okf T hof ?_;unfold cutD
   split
   ·rename_i hw;have hz:=Qfw hw;show (Qjh (Qab f c.ino).text c.many.toNat).length≤4096;rw [Qeb];omega
   ·exact Qju T.rows c.ino
  ·exact S
 ·rw [Qxt h] at he ⊢;exact Qm0 okf okc T hx Qw7
 ·rw [Zex h] at he ⊢;exact Qm0 okf okc T hx Zde
 ·rw [Zew h] at he ⊢;unfold symO
  split
  ·exact S
  ·exact Qm0 okf okc T hx (Qw6 okc.text)
 ·rw [Zev h] at he ⊢;unfold Qdj at he ⊢
  split
  ·rename_i h0
   split
   ·exact S
   ·rename_i h1;rw [W1x h0,W1w h1] at he;exact Qsd okf T he
  ·exact S
 ·rw [Qve h] at he ⊢;unfold Qdj at he ⊢
  split
  ·rename_i h0
   split
   ·exact S
   ·rename_i h1;rw [W1x h0,W1w h1] at he;exact Qsd okf T he
  ·exact S
 ·rw [Qvd h] at he ⊢;unfold Qur at he ⊢;exact Zdc okf T okc.name he
 ·rw [Qvc h] at he ⊢;unfold renO at he ⊢;exact Zh4 okf T okc.name2 he
 ·rw [Qvb h] at he ⊢;exact S
 ·rw [Qva h] at he ⊢;exact S
 ·rw [Qu9 h] at he ⊢;exact S
 ·rw [Qu8 h];exact S
theorem Zmh {f:Fsy} {c:Cal} (okf:OkF f) (okc:OkCal c) (T:TreeP f) (hx:f.next<4611686018427387904):Kept f (doF f c).1:=by
 unfold doF
 split
 ·rename_i h;exact Zdd okf okc T hx h
 ·exact Kept.self okf T
end Go.Proofs.YtkhodpknpligpaaGreat

namespace Go.Proofs.YtkhodpknpligpaaGreat
open Go Go.RowKit Copyhold Go.Proofs.Tryz
open Copyhold.Name (Srt insE delE getE isAt)
end Go.Proofs.YtkhodpknpligpaaGreat

namespace Go.Proofs.YtkhodpknpligpaaGreat
open Go Go.RowKit Copyhold Go.Proofs.Tryz
open Copyhold.Name (Srt insE delE getE isAt)
end Go.Proofs.YtkhodpknpligpaaGreat

namespace Go.Proofs.YtkhodpknpligpaaGreat
open Go Go.RowKit Copyhold Go.Proofs.Tryz
open Copyhold.Name (Srt insE delE getE isAt)
end Go.Proofs.YtkhodpknpligpaaGreat

namespace Go.Proofs.YtkhodpknpligpaaGreat
open Go Go.RowKit Copyhold Go.Proofs.Tryz
open Copyhold.Name (Srt insE delE getE isAt)
end Go.Proofs.YtkhodpknpligpaaGreat

namespace Go.Proofs.YtkhodpknpligpaaGreat
open Go Go.RowKit Copyhold Go.Proofs.Tryz
def midF (f:Fsy):Prop:=f.l.length+(f.l.map wN).sum≤1000
theorem Dst.leM {f:Fsy} {U:List Int} (h:Dst f U) (hf:midF f):U.length≤1000:=by
 have:=Qp2 h.1 h.2;rw [Qxa] at this;unfold midF at hf;omega
theorem UH.stepM {f:Fsy} {i:Int} {U:List Int} {p j:Nat} {z:Int} (hf:midF f) (h:UH f i U p) (hz:U[p]?=some z) (hj:(Qab f z).l.length≤j):UH f i (addE U ((Qab f z).l.take j)) (p+1):=by
 obtain ⟨h1,h2,h3⟩:=h;have hp:=Qan hz;have hl:=h1.leM hf;refine ⟨Qdf h1 z j,by have:=Qx9 ((Qab f z).l.take j) U;omega,?_⟩;rw [Qap hj,← h3,show 1300-p=(1300-(p+1))+1 from by omega];simp only [goU,hz]
theorem Zau {f:Fsy} (hf:midF f) (i:Int):(Qeu f i).length≤1000:=
 (Zdx 1300 0 (Qhx (Dst.nil f) fun e he=>Qhq he)).leM hf
theorem Zfc {f:Fsy} (hf:midF f) (i:Int) (k:Nat):((f.l.take k).map (cntE i)).sum≤1000:=by
 have:=Zfb i f.l;have:=Qdv (cntE i) f.l k;unfold midF at hf;omega
theorem Qum (f:Fsy) (i:Int) (okf:OkF f) (hf:midF f):Qag prog 73 [.agg (fsyA f),aI i] (aI (Qop f i:Int)):=by
 have hfl:=okf.2.1;exact Qac func73 (
 .new fun b1=>.r 1<|.r 1<|.r 1<|let L1:Lp (Nat):=⟨fun a1=>⟨[(1,aI i),(2,.ptr 2 b1 0),(6,aI (a1:Int)),(5,aI (((f.l.take a1).map (cntE i)).sum:Int))],[(2,.box b1 38 (fsyA f))]⟩,fun a1=>f.l.length-a1,fun a1=>a1≤f.l.length⟩
 .lp L1 0 (show 0≤f.l.length from W0j _) [(6,aI 0),(5,aI 0)] [] ⟨sR,sR,sO,sO,trivial⟩ bb1 fun a1 ha1=>
 (fun (k:Nat) (hH1:k≤f.l.length)=>have hs1:=Zfc hf i k;.u 4 [b1]<|
 .lm 11 f.l nodA<|.r 1<|.bd 12 ((k:Int)<(f.l.length:Int)) (fun p1=>.r 1<|.ex (Qdk (l:=f.l) (k:=k) (by omega)) fun x1 hx1=>
 have okx1:=okf.2.2 x1 (W0h hx1);have blx1:=okx1.2.2.2.2.1;let L2:Lp (Nat):=⟨fun a2=>⟨[(1,aI i),(2,.ptr 2 b1 0),(6,aI (k:Int)),(7,aI (a2:Int)),(5,aI ((((f.l.take k).map (cntE i)).sum+cntK i x1.l a2:Nat):Int))],[(2,.box b1 38 (fsyA f))]⟩,fun a2=>x1.l.length-a2,fun a2=>a2≤x1.l.length⟩
 .lp L2 0 (show 0≤x1.l.length from W0j _) [(7,aI 0),(5,aI (((f.l.take k).map (cntE i)).sum:Int))] [] ⟨sR,sR,sR,sO,W2n (W1y aI (by simp [cntK])),trivial⟩ bb1 fun a2 ha2=>
 (fun (j:Nat) (hH2:j≤x1.l.length)=>have hs2:=Zm7 i x1.l j;.u 4 [b1]<|
 .idx k (m:=(k:Int)) (xs:=f.l.map nodA) (e:=nodA x1) rfl (map_some hx1)<|
 .r 3<|.lm 22 x1.l entA<|.r 1<|.bd 23 ((j:Int)<(x1.l.length:Int)) (fun p2=>.u 3 [b1]<|
 .idx k (m:=(k:Int)) (xs:=f.l.map nodA) (e:=nodA x1) rfl (map_some hx1)<|
 .r 3<|.idxM x1.l entA j (m:=(j:Int)) rfl (by omega) fun x2 hx2=>
 .r 4<|.br 37 (x2.ino==i) (fun q3=>have p3:=beqT q3;.run 3 [rng .i64 (((((f.l.take k).map (cntE i)).sum+cntK i x1.l j:Nat):Int)+1)] ⟨Qal,trivial⟩<|
 .run 3 [rng .i64 ((j:Int)+1)] ⟨Qal,trivial⟩<|
 .bk L2 j (j+1) (show (j+1)≤x1.l.length from (by show _≤_;omega)) (show x1.l.length-(j+1)<x1.l.length-j from (by omega)) [(7,aI ((j:Int)+1)),(5,aI (((((f.l.take k).map (cntE i)).sum+cntK i x1.l j:Nat):Int)+1))] [] ⟨sR,sR,sR,sO,W2n (W1y aI (by rw [Zjb hx2 q3]<;>omega)),trivial⟩ bb1)
 <| fun q3=>have p3:=beqF q3;.run 3 [rng .i64 ((j:Int)+1)] ⟨Qal,trivial⟩<|
 .bk L2 j (j+1) (show (j+1)≤x1.l.length from (by show _≤_;omega)) (show x1.l.length-(j+1)<x1.l.length-j from (by omega)) [(7,aI ((j:Int)+1)),(5,aI ((((f.l.take k).map (cntE i)).sum+cntK i x1.l j:Nat):Int))] [] ⟨sR,sR,sR,sO,W2n (W1y aI (by rw [Zm6 hx2 q3]<;>omega)),trivial⟩ bb1)
 <| fun p2=>.run 3 [rng .i64 ((k:Int)+1)] ⟨Qal,trivial⟩<|
 .bk L1 k (k+1) (show (k+1)≤f.l.length from (by show _≤_;omega)) (show f.l.length-(k+1)<f.l.length-k from (by omega)) [(6,aI ((k:Int)+1)),(5,aI ((((f.l.take k).map (cntE i)).sum+cntK i x1.l j:Nat):Int))] [] ⟨sR,sR,sO,W2n (W1y aI (by rw [Qk8 (cntE i) hx1,← Zjc (i:=i) (n:=x1) (j:=j) (by omega)]<;>omega)),trivial⟩ bb1) a2 ha2)
 <| fun p1=>.r 2<|.f (aI (Qop f i:Int)) [] (aI (((f.l.take k).map (cntE i)).sum:Int)) (by exact W2n (W1y aI (by rw [Qap (by omega)];rfl)))) a1 ha1)
end Go.Proofs.YtkhodpknpligpaaGreat
