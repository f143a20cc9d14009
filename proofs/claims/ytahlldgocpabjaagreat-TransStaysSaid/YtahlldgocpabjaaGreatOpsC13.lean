import Derived.Test.YtahlldgocpabjaaGreatMrgV
set_option maxRecDepth 100000
set_option maxHeartbeats 8000000
set_option linter.unusedVariables false
set_option linter.unusedSimpArgs false
namespace Go.Proofs.YtahlldgocpabjaaGreat
open Go Go.RowKit Copyhold
theorem Zb1 (f:Fsy) (c:Cal) (okf:OkF f) (okc:OkCal c) (hp:Qal f) (n:Nod) (okn:OkN n) (hx:f.next<9223372036854775807):Qaj Tryz.prog 136 [.agg (fsyA f),.agg (calA c),.agg (nodA n)] (.tup [.agg (fsyA (addO f c n).1),.agg (repA (addO f c n).2)]):=by
 have hl:=hp.1
 have hr:=Qad hp
 have hcn:=okc.name
 have hcn2:=okc.name2
 have hct:=okc.text
 exact Qac (F:=Tryz.f136) 400 (
 .new fun b1=>.new fun b2=>.new fun b3=>.new fun b4=>.new fun b5=>.run 6 [b1=b1,b2=b2,b2=b2,b3=b3] rt4<|
 .call (Zf9 f c.ino c.name n okf hp hcn okn hx)<|
 .r 3<|.new fun b6=>.run 2 [b6=b6] rt1<|
 let J1:Jn (Unit):=⟨fun j1=>⟨[(6,.ptr 6 b4 0),(7,.ptr 7 b5 0)],[(6,.box b4 28 [.sl 5 false ((if Qak f c.ino c.name n=0 then addF f c.ino c.name (addN f n) else f).l.map nodA),aI ((if Qak f c.ino c.name n=0 then addF f c.ino c.name (addN f n) else f).next)]),(7,.box b5 45 [aI (Qak f c.ino c.name n),aI f.next,aI 0,aI 0,aS ([]),aN])]⟩,fun _=>True⟩
 .cut J1 (.pick [0,1,2]<|.run 3 [b6=b6] rt1<|
 .fork<|.alt (.run 1 [b1=b1] rt1<|
 .pick [4,5,6]<|.run 3 [b4=b4,b5=b5] rt2<|
 .join J1 () trivial ⟨[(6,.ptr 6 b4 0),(7,.ptr 7 b5 0)],[(6,.box b4 28 [.sl 5 false ((if Qak f c.ino c.name n=0 then addF f c.ino c.name (addN f n) else f).l.map nodA),aI ((if Qak f c.ino c.name n=0 then addF f c.ino c.name (addN f n) else f).next)]),(7,.box b5 45 [aI (Qak f c.ino c.name n),aI f.next,aI 0,aI 0,aS ([]),aN])]⟩ sr2 ⟨⟨_,rfl,SubB.refl _⟩,⟨_,rfl,SubB.refl _⟩,trivial⟩)
 <| .run 1 [b4=b4] rt1<|
 .pick [3,4,6]<|.run 3 [b1=b1,b5=b5] rt2<|
 .join J1 () trivial ⟨[(6,.ptr 6 b4 0),(7,.ptr 7 b5 0)],[(6,.box b4 28 [.sl 5 false ((if Qak f c.ino c.name n=0 then addF f c.ino c.name (addN f n) else f).l.map nodA),aI ((if Qak f c.ino c.name n=0 then addF f c.ino c.name (addN f n) else f).next)]),(7,.box b5 45 [aI (Qak f c.ino c.name n),aI f.next,aI 0,aI 0,aS ([]),aN])]⟩ sr2 ⟨⟨_,rfl,SubB.refl _⟩,⟨_,rfl,SubB.refl _⟩,trivial⟩)
 <| fun _ _=>.fin (x:=.tup [.agg [.sl 5 false ((if Qak f c.ino c.name n=0 then addF f c.ino c.name (addN f n) else f).l.map nodA),aI ((if Qak f c.ino c.name n=0 then addF f c.ino c.name (addN f n) else f).next)],.agg [aI (Qak f c.ino c.name n),aI f.next,aI 0,aI 0,aS ([]),aN]]) (r:=.tup [.agg (fsyA (addO f c n).1),.agg (repA (addO f c n).2)]) [b4=b4,b5=b5] rt2 (by exact Sub.tups ⟨sR,(Qaw _ _ _ _ _),trivial⟩)) Tryz.func136 rfl (by kernel_rfl) (by kernel_rfl)
theorem Qoy:OkN ⟨0,1,0,[],[]⟩:=⟨⟨by decide,by decide⟩,⟨by decide,by decide⟩,⟨by decide,by decide⟩,by show (0:Nat)≤_;omega,by show (0:Nat)≤_;omega,fun e h=>by cases h⟩
theorem Qs1:OkN ⟨0,2,0,[],[]⟩:=⟨⟨by decide,by decide⟩,⟨by decide,by decide⟩,⟨by decide,by decide⟩,by show (0:Nat)≤_;omega,by show (0:Nat)≤_;omega,fun e h=>by cases h⟩
theorem Qow {t:Txt} (h:t.length≤1000000):OkN ⟨0,3,0,t,[]⟩:=⟨⟨by show (_:Int)≤0;omega,by show (0:Int)≤_;omega⟩,⟨by show (_:Int)≤3;omega,by show (3:Int)≤_;omega⟩,⟨by show (_:Int)≤0;omega,by show (0:Int)≤_;omega⟩,by show t.length≤_;omega,by show (0:Nat)≤_;omega,fun e h=>by cases h⟩
theorem Zi2 (f:Fsy) (c:Cal) (okf:OkF f) (okc:OkCal c) (hp:Qal f) (hx:f.next<9223372036854775807):Qaj Tryz.prog 135 [.agg (fsyA f),.agg (calA c)] (.tup [.agg (fsyA (addO f c ⟨0,1,0,[],[]⟩).1),.agg (repA (addO f c ⟨0,1,0,[],[]⟩).2)]):=by
 have hl:=hp.1
 have hr:=Qad hp
 have hcn:=okc.name
 have hcn2:=okc.name2
 have hct:=okc.text
 exact Qac (F:=Tryz.f135) 400 (
 .new fun b1=>.new fun b2=>.new fun b3=>.new fun b4=>.run 3 [b1=b1,b2=b2] rt2<|
 .callS (args0:=[.agg (fsyA f),.agg (calA c),.agg [aI 0,aI 1,aI 0,aS ([]),aN]]) (args:=[.agg (fsyA f),.agg (calA c),.agg [aI 0,aI 1,aI 0,aS ([]),.sl 2 false (([]:List Ent).map entA)]]) ⟨sR,sR,Sub.aggs ⟨sR,sR,sR,sR,Sub.nil _ _,trivial⟩,trivial⟩ (Zb1 f c okf okc hp ⟨0,1,0,[],[]⟩ Qoy hx)<|
 .run 4 [b3=b3,b4=b4] rt2<|
 .fin (x:=.tup [.agg [.sl 5 false ((addO f c ⟨0,1,0,[],[]⟩).1.l.map nodA),aI ((addO f c ⟨0,1,0,[],[]⟩).1.next)],.agg [aI ((addO f c ⟨0,1,0,[],[]⟩).2.e),aI ((addO f c ⟨0,1,0,[],[]⟩).2.a),aI ((addO f c ⟨0,1,0,[],[]⟩).2.b),aI ((addO f c ⟨0,1,0,[],[]⟩).2.n),aS ((addO f c ⟨0,1,0,[],[]⟩).2.text),.sl 1 false ((addO f c ⟨0,1,0,[],[]⟩).2.names.map txA)]]) (r:=.tup [.agg (fsyA (addO f c ⟨0,1,0,[],[]⟩).1),.agg (repA (addO f c ⟨0,1,0,[],[]⟩).2)]) [b3=b3,b4=b4] rt2 (by exact sR)) Tryz.func135 rfl (by kernel_rfl) (by kernel_rfl)
theorem Zi1 (f:Fsy) (c:Cal) (okf:OkF f) (okc:OkCal c) (hp:Qal f) (hx:f.next<9223372036854775807):Qaj Tryz.prog 137 [.agg (fsyA f),.agg (calA c)] (.tup [.agg (fsyA (addO f c ⟨0,2,0,[],[]⟩).1),.agg (repA (addO f c ⟨0,2,0,[],[]⟩).2)]):=by
 have hl:=hp.1
 have hr:=Qad hp
 have hcn:=okc.name
 have hcn2:=okc.name2
 have hct:=okc.text
 exact Qac (F:=Tryz.f137) 400 (
 .new fun b1=>.new fun b2=>.new fun b3=>.new fun b4=>.run 3 [b1=b1,b2=b2] rt2<|
 .callS (args0:=[.agg (fsyA f),.agg (calA c),.agg [aI 0,aI 2,aI 0,aS ([]),aN]]) (args:=[.agg (fsyA f),.agg (calA c),.agg [aI 0,aI 2,aI 0,aS ([]),.sl 2 false (([]:List Ent).map entA)]]) ⟨sR,sR,Sub.aggs ⟨sR,sR,sR,sR,Sub.nil _ _,trivial⟩,trivial⟩ (Zb1 f c okf okc hp ⟨0,2,0,[],[]⟩ Qs1 hx)<|
 .run 4 [b3=b3,b4=b4] rt2<|
 .fin (x:=.tup [.agg [.sl 5 false ((addO f c ⟨0,2,0,[],[]⟩).1.l.map nodA),aI ((addO f c ⟨0,2,0,[],[]⟩).1.next)],.agg [aI ((addO f c ⟨0,2,0,[],[]⟩).2.e),aI ((addO f c ⟨0,2,0,[],[]⟩).2.a),aI ((addO f c ⟨0,2,0,[],[]⟩).2.b),aI ((addO f c ⟨0,2,0,[],[]⟩).2.n),aS ((addO f c ⟨0,2,0,[],[]⟩).2.text),.sl 1 false ((addO f c ⟨0,2,0,[],[]⟩).2.names.map txA)]]) (r:=.tup [.agg (fsyA (addO f c ⟨0,2,0,[],[]⟩).1),.agg (repA (addO f c ⟨0,2,0,[],[]⟩).2)]) [b3=b3,b4=b4] rt2 (by exact sR)) Tryz.func137 rfl (by kernel_rfl) (by kernel_rfl)
theorem Zi0 (f:Fsy) (c:Cal) (okf:OkF f) (okc:OkCal c) (hp:Qal f) (hx:f.next<9223372036854775807):Qaj Tryz.prog 138 [.agg (fsyA f),.agg (calA c)] (.tup [.agg (fsyA (symO f c).1),.agg (repA (symO f c).2)]):=by
 have hl:=hp.1
 have hr:=Qad hp
 have hcn:=okc.name
 have hcn2:=okc.name2
 have hct:=okc.text
 exact Qac (F:=Tryz.f138) 400 (
 .new fun b1=>.new fun b2=>.new fun b3=>.new fun b4=>.run 4 [b2=b2] rt1<|
 .br 9 (decide (((c.text).length:Int)>4096)) (fun q1=>have p1:=decT q1;.run 4 [b1=b1,b3=b3,b4=b4] rt3<|
 .fin (x:=.tup [.agg (fsyA f),.agg [aI 5,aI 0,aI 0,aI 0,aS ([]),aN]]) (r:=.tup [.agg (fsyA (symO f c).1),.agg (repA (symO f c).2)]) [b3=b3,b4=b4] rt2 (by
  have e:symO f c=_:=if_pos (by omega)
  rw [e]
  exact Sub.tups ⟨sR,(Qaw _ _ _ _ _),trivial⟩))
 <| fun q1=>have p1:=decF q1;.run 5 [b1=b1,b2=b2,b2=b2] rt3<|
 .callS (args0:=[.agg (fsyA f),.agg (calA c),.agg [aI 0,aI 3,aI 0,aS c.text,aN]]) (args:=[.agg (fsyA f),.agg (calA c),.agg [aI 0,aI 3,aI 0,aS c.text,.sl 2 false (([]:List Ent).map entA)]]) ⟨sR,sR,Sub.aggs ⟨sR,sR,sR,sR,Sub.nil _ _,trivial⟩,trivial⟩ (Zb1 f c okf okc hp ⟨0,3,0,c.text,[]⟩ (Qow (by omega)) hx)<|
 .run 4 [b3=b3,b4=b4] rt2<|
 .fin (x:=.tup [.agg [.sl 5 false ((addO f c ⟨0,3,0,c.text,[]⟩).1.l.map nodA),aI ((addO f c ⟨0,3,0,c.text,[]⟩).1.next)],.agg [aI ((addO f c ⟨0,3,0,c.text,[]⟩).2.e),aI ((addO f c ⟨0,3,0,c.text,[]⟩).2.a),aI ((addO f c ⟨0,3,0,c.text,[]⟩).2.b),aI ((addO f c ⟨0,3,0,c.text,[]⟩).2.n),aS ((addO f c ⟨0,3,0,c.text,[]⟩).2.text),.sl 1 false ((addO f c ⟨0,3,0,c.text,[]⟩).2.names.map txA)]]) (r:=.tup [.agg (fsyA (symO f c).1),.agg (repA (symO f c).2)]) [b3=b3,b4=b4] rt2 (by
  have e:symO f c=_:=if_neg (by omega)
  rw [e]
  exact sR)) Tryz.func138 rfl (by kernel_rfl) (by kernel_rfl)
theorem Zbn (f:Fsy) (c:Cal) (okf:OkF f) (okc:OkCal c) (hp:Qal f) (dir:Bool) (odd:Int) (ho:¬ odd=0):Qaj Tryz.prog 140 [.agg (fsyA f),.agg (calA c),aB dir,aI odd] (.tup [.agg (fsyA (Qa9 f c dir odd).1),.agg (repA (Qa9 f c dir odd).2)]):=by
 have hl:=hp.1
 have hr:=Qad hp
 have hcn:=okc.name
 have hcn2:=okc.name2
 have hct:=okc.text
 exact Qac (F:=Tryz.f140) 400 (
 .new fun b1=>.new fun b2=>.new fun b3=>.new fun b4=>.run 5 [b1=b1,b2=b2,b2=b2] rt3<|
 .call (Qim f c.ino c.name hp hcn)<|
 .r 3<|.new fun b5=>.run 2 [b5=b5] rt1<|
 .r 3<|.br 24 ((Qaz f c.ino c.name)==0) (fun q1=>have p1:=beqT q1;.run 6 [b5=b5] rt1<|
 .br 30 (!((((lookN f c.ino c.name).kind)==2)==dir)) (fun q2=>have q2:=notT q2;have p2:=beqF q2;.r 2<|.r 2<|.is 33 (show (odd != 0)=true from (by simpa using ho))<|.run 5 [b1=b1,b3=b3,b4=b4] rt3<|
 .fin (x:=.tup [.agg (fsyA f),.agg [aI odd,aI 0,aI 0,aI 0,aS ([]),aN]]) (r:=.tup [.agg (fsyA (Qa9 f c dir odd).1),.agg (repA (Qa9 f c dir odd).2)]) [b3=b3,b4=b4] rt2 (by
  have e0:Qaz f c.ino c.name=0:=beqT q1
  have e1:(((lookN f c.ino c.name).kind==2) != dir)=true:=by simpa [bne] using q2
  have e:Qa9 f c dir odd=(f,errR odd):=by unfold Qa9;rw [if_pos e0,if_pos e1]
  rw [e]
  exact Sub.tups ⟨sR,(Qaw _ _ _ _ _),trivial⟩))
 <| fun q2=>have q2:=notF q2;have p2:=beqT q2;.r 2<|.is 33 (show ((Qaz f c.ino c.name) != 0)=false from (by simpa [bne] using q1))<|.run 5 [b1=b1,b2=b2,b2=b2] rt3<|
 .call (Qx1 f c.ino c.name okf hp hcn)<|
 .r 3<|.new fun b6=>.run 2 [b6=b6] rt1<|
 .run 5 [b6=b6,b3=b3,b4=b4] rt3<|
 .fin (x:=.tup [.agg [.sl 5 false ((Qdx f c.ino c.name).l.map nodA),aI ((Qdx f c.ino c.name).next)],.agg [aI (Qbh f c.ino c.name),aI 0,aI 0,aI 0,aS ([]),aN]]) (r:=.tup [.agg (fsyA (Qa9 f c dir odd).1),.agg (repA (Qa9 f c dir odd).2)]) [b3=b3,b4=b4] rt2 (by
  have e0:Qaz f c.ino c.name=0:=beqT q1
  have e1:¬ (((lookN f c.ino c.name).kind==2) != dir)=true:=by simpa [bne] using q2
  have e:Qa9 f c dir odd=(Qdx f c.ino c.name,errR (Qbh f c.ino c.name)):=by unfold Qa9;rw [if_pos e0,if_neg e1]
  rw [e]
  exact Sub.tups ⟨sR,(Qaw _ _ _ _ _),trivial⟩))
 <| fun q1=>have p1:=beqF q1;.r 6<|.r 2<|.is 33 (show ((Qaz f c.ino c.name) != 0)=true from (by simpa [bne] using q1))<|.run 5 [b1=b1,b3=b3,b4=b4] rt3<|
 .fin (x:=.tup [.agg (fsyA f),.agg [aI (Qaz f c.ino c.name),aI 0,aI 0,aI 0,aS ([]),aN]]) (r:=.tup [.agg (fsyA (Qa9 f c dir odd).1),.agg (repA (Qa9 f c dir odd).2)]) [b3=b3,b4=b4] rt2 (by
  have e:Qa9 f c dir odd=(f,errR (Qaz f c.ino c.name)):=if_neg (beqF q1)
  rw [e]
  exact Sub.tups ⟨sR,(Qaw _ _ _ _ _),trivial⟩)) Tryz.func140 rfl (by kernel_rfl) (by kernel_rfl)
theorem Ziz (f:Fsy) (c:Cal) (okf:OkF f) (okc:OkCal c) (hp:Qal f):Qaj Tryz.prog 139 [.agg (fsyA f),.agg (calA c)] (.tup [.agg (fsyA (Qa9 f c false 9).1),.agg (repA (Qa9 f c false 9).2)]):=by
 have hl:=hp.1
 have hr:=Qad hp
 have hcn:=okc.name
 have hcn2:=okc.name2
 have hct:=okc.text
 exact Qac (F:=Tryz.f139) 400 (
 .new fun b1=>.new fun b2=>.new fun b3=>.new fun b4=>.run 2 [b1=b1,b2=b2] rt2<|
 .call (Zbn f c okf okc hp false 9 (by decide))<|
 .run 4 [b3=b3,b4=b4] rt2<|
 .fin (x:=.tup [.agg [.sl 5 false ((Qa9 f c false 9).1.l.map nodA),aI ((Qa9 f c false 9).1.next)],.agg [aI ((Qa9 f c false 9).2.e),aI ((Qa9 f c false 9).2.a),aI ((Qa9 f c false 9).2.b),aI ((Qa9 f c false 9).2.n),aS ((Qa9 f c false 9).2.text),.sl 1 false ((Qa9 f c false 9).2.names.map txA)]]) (r:=.tup [.agg (fsyA (Qa9 f c false 9).1),.agg (repA (Qa9 f c false 9).2)]) [b3=b3,b4=b4] rt2 (by exact sR)) Tryz.func139 rfl (by kernel_rfl) (by kernel_rfl)
theorem Zfp (f:Fsy) (c:Cal) (okf:OkF f) (okc:OkCal c) (hp:Qal f):Qaj Tryz.prog 141 [.agg (fsyA f),.agg (calA c)] (.tup [.agg (fsyA (Qa9 f c true 8).1),.agg (repA (Qa9 f c true 8).2)]):=by
 have hl:=hp.1
 have hr:=Qad hp
 have hcn:=okc.name
 have hcn2:=okc.name2
 have hct:=okc.text
 exact Qac (F:=Tryz.f141) 400 (
 .new fun b1=>.new fun b2=>.new fun b3=>.new fun b4=>.run 2 [b1=b1,b2=b2] rt2<|
 .call (Zbn f c okf okc hp true 8 (by decide))<|
 .run 4 [b3=b3,b4=b4] rt2<|
 .fin (x:=.tup [.agg [.sl 5 false ((Qa9 f c true 8).1.l.map nodA),aI ((Qa9 f c true 8).1.next)],.agg [aI ((Qa9 f c true 8).2.e),aI ((Qa9 f c true 8).2.a),aI ((Qa9 f c true 8).2.b),aI ((Qa9 f c true 8).2.n),aS ((Qa9 f c true 8).2.text),.sl 1 false ((Qa9 f c true 8).2.names.map txA)]]) (r:=.tup [.agg (fsyA (Qa9 f c true 8).1),.agg (repA (Qa9 f c true 8).2)]) [b3=b3,b4=b4] rt2 (by exact sR)) Tryz.func141 rfl (by kernel_rfl) (by kernel_rfl)
theorem Zfo (f:Fsy) (c:Cal) (okf:OkF f) (okc:OkCal c) (hp:Qal f):Qaj Tryz.prog 142 [.agg (fsyA f),.agg (calA c)] (.tup [.agg (fsyA (Qd3 f c).1),.agg (repA (Qd3 f c).2)]):=by
 have hl:=hp.1
 have hr:=Qad hp
 have hcn:=okc.name
 have hcn2:=okc.name2
 have hct:=okc.text
 exact Qac (F:=Tryz.f142) 400 (
 .new fun b1=>.new fun b2=>.new fun b3=>.new fun b4=>.run 7 [b1=b1,b2=b2,b2=b2,b2=b2] rt4<|
 .call (Za5 f c.ino c.name c.to okf hp hcn okc.to)<|
 .r 3<|.new fun b5=>.run 2 [b5=b5] rt1<|
 .run 5 [b5=b5,b3=b3,b4=b4] rt3<|
 .fin (x:=.tup [.agg [.sl 5 false ((Qc1 f c.ino c.name c.to).l.map nodA),aI ((Qc1 f c.ino c.name c.to).next)],.agg [aI (Qa5 f c.ino c.name c.to),aI 0,aI 0,aI 0,aS ([]),aN]]) (r:=.tup [.agg (fsyA (Qd3 f c).1),.agg (repA (Qd3 f c).2)]) [b3=b3,b4=b4] rt2 (by exact Sub.tups ⟨sR,(Qaw _ _ _ _ _),trivial⟩)) Tryz.func142 rfl (by kernel_rfl) (by kernel_rfl)
theorem Zfn (f:Fsy) (c:Cal) (okf:OkF f) (okc:OkCal c) (hp:Qal f):Qaj Tryz.prog 144 [.agg (fsyA f),.agg (calA c)] (.tup [.agg (fsyA (renO f c).1),.agg (repA (renO f c).2)]):=by
 have hl:=hp.1
 have hr:=Qad hp
 have hcn:=okc.name
 have hcn2:=okc.name2
 have hct:=okc.text
 exact Qac (F:=Tryz.f144) 400 (
 .new fun b1=>.new fun b2=>.new fun b3=>.new fun b4=>.run 9 [b1=b1,b2=b2,b2=b2,b2=b2,b2=b2] rt5<|
 .call (Qz5 f c.ino c.name c.to c.name2 okf hp hcn hcn2)<|
 .r 3<|.new fun b5=>.run 2 [b5=b5] rt1<|
 .run 5 [b5=b5,b3=b3,b4=b4] rt3<|
 .fin (x:=.tup [.agg [.sl 5 false ((movF f c.ino c.name c.to c.name2).l.map nodA),aI ((movF f c.ino c.name c.to c.name2).next)],.agg [aI (Qa8 f c.ino c.name c.to c.name2),aI 0,aI 0,aI 0,aS ([]),aN]]) (r:=.tup [.agg (fsyA (renO f c).1),.agg (repA (renO f c).2)]) [b3=b3,b4=b4] rt2 (by exact Sub.tups ⟨sR,(Qaw _ _ _ _ _),trivial⟩)) Tryz.func144 rfl (by kernel_rfl) (by kernel_rfl)
theorem Zfm (f:Fsy) (c:Cal) (okf:OkF f) (okc:OkCal c) (hp:Qal f):Qaj Tryz.prog 146 [.agg (fsyA f),.agg (calA c)] (.tup [.agg (fsyA (Qdy f c).1),.agg (repA (Qdy f c).2)]):=by
 have hl:=hp.1
 have hr:=Qad hp
 have hcn:=okc.name
 have hcn2:=okc.name2
 have hct:=okc.text
 exact Qac (F:=Tryz.f146) 400 (
 .new fun b1=>.new fun b2=>.new fun b3=>.new fun b4=>.run 3 [b1=b1,b2=b2] rt2<|
 .call (Qoo f c.ino 3 hp)<|
 .r 3<|.new fun b5=>.run 2 [b5=b5] rt1<|
 let J1:Jn (Unit):=⟨fun j1=>⟨[(4,.ptr 4 b3 0),(5,.ptr 5 b4 0)],[(4,.box b3 28 (fsyA f)),(5,.box b4 45 [aI (ofE f c.ino 3),aI 0,aI 0,aI 0,aS ((ofN f c.ino 3).text),aN])]⟩,fun _=>True⟩
 .cut J1 (.pick [0,1,2]<|.run 3 [b1=b1] rt1<|
 .fork<|.alt (.run 1 [b5=b5] rt1<|
 .pick [4,5,6]<|.run 3 [b3=b3,b4=b4] rt2<|
 .join J1 () trivial ⟨[(4,.ptr 4 b3 0),(5,.ptr 5 b4 0)],[(4,.box b3 28 (fsyA f)),(5,.box b4 45 [aI (ofE f c.ino 3),aI 0,aI 0,aI 0,aS ((ofN f c.ino 3).text),aN])]⟩ sr2 ⟨⟨_,rfl,SubB.refl _⟩,⟨_,rfl,SubB.refl _⟩,trivial⟩)
 <| .run 1 [b3=b3] rt1<|
 .pick [3,4,6]<|.run 3 [b5=b5,b4=b4] rt2<|
 .join J1 () trivial ⟨[(4,.ptr 4 b3 0),(5,.ptr 5 b4 0)],[(4,.box b3 28 (fsyA f)),(5,.box b4 45 [aI (ofE f c.ino 3),aI 0,aI 0,aI 0,aS ((ofN f c.ino 3).text),aN])]⟩ sr2 ⟨⟨_,rfl,SubB.refl _⟩,⟨_,rfl,SubB.refl _⟩,trivial⟩)
 <| fun _ _=>.fin (x:=.tup [.agg (fsyA f),.agg [aI (ofE f c.ino 3),aI 0,aI 0,aI 0,aS ((ofN f c.ino 3).text),aN]]) (r:=.tup [.agg (fsyA (Qdy f c).1),.agg (repA (Qdy f c).2)]) [b3=b3,b4=b4] rt2 (by exact Sub.tups ⟨sR,(Qaw _ _ _ _ _),trivial⟩)) Tryz.func146 rfl (by kernel_rfl) (by kernel_rfl)
theorem Zfl (f:Fsy) (c:Cal) (okf:OkF f) (okc:OkCal c) (hp:Qal f):Qaj Tryz.prog 148 [.agg (fsyA f),.agg (calA c)] (.tup [.agg (fsyA (Qd8 f c).1),.agg (repA (Qd8 f c).2)]):=by
 have hl:=hp.1
 have hr:=Qad hp
 have hcn:=okc.name
 have hcn2:=okc.name2
 have hct:=okc.text
 exact Qac (F:=Tryz.f148) 400 (
 .new fun b1=>.new fun b2=>.new fun b3=>.new fun b4=>.run 3 [b1=b1,b2=b2] rt2<|
 .call (Qhb f c.ino hp)<|
 .r 3<|.new fun b5=>.run 2 [b5=b5] rt1<|
 .ord [0,1,2,3,4,5,6,7]<|.run 4 [b1=b1,b5=b5] rt2<|
 .call (Qta (dirN f c.ino).l (by have:=(Qc2 hp c.ino).2;omega))<|
 .run 3 [b3=b3,b4=b4] rt2<|
 .fin (x:=.tup [.agg (fsyA f),.agg [aI (dirE f c.ino),aI 0,aI 0,aI 0,aS ([]),.sl 1 false (((dirN f c.ino).l.map Ent.name).map txA)]]) (r:=.tup [.agg (fsyA (Qd8 f c).1),.agg (repA (Qd8 f c).2)]) [b3=b3,b4=b4] rt2 (by exact sR)) Tryz.func148 rfl (by kernel_rfl) (by kernel_rfl)
theorem Zfk (f:Fsy) (c:Cal) (okf:OkF f) (okc:OkCal c) (hp:Qal f):Qaj Tryz.prog 150 [.agg (fsyA f),.agg (calA c)] (.tup [.agg (fsyA (sfsO f).1),.agg (repA (sfsO f).2)]):=by
 have hl:=hp.1
 have hr:=Qad hp
 have hcn:=okc.name
 have hcn2:=okc.name2
 have hct:=okc.text
 exact Qac (F:=Tryz.f150) 400 (
 .new fun b1=>.new fun b2=>.new fun b3=>.new fun b4=>.run 3 [b1=b1] rt1<|
 .val 11 (show (aI ((f.l.map nodA).length:Int):AV)=aI (f.l.length:Int) from by rw [List.length_map])<|.r 1<|.new fun b5=>.run 1 [b5=b5] rt1<|
 .run 3 [b1=b1] rt1<|
 .val 15 (show (aI ((f.l.map nodA).length:Int):AV)=aI (f.l.length:Int) from by rw [List.length_map])<|.r 1<|let L1:Lp (Nat):=⟨fun a1=>⟨[(2,.ptr 2 b1 0),(4,.ptr 4 b3 0),(5,.ptr 5 b4 0),(6,.ptr 6 b5 0),(14,.sl 5 false (f.l.map nodA)),(15,aI (f.l.length:Int)),(16,aI (a1:Int))],[(2,.box b1 28 (fsyA f)),(4,.box b3 28 [aN,aI 0]),(5,.box b4 45 [aI 0,aI 0,aI 0,aI 0,aS ([]),aN]),(6,.box b5 45 [aI 0,aI (f.l.length:Int),aI (txtS (f.l.take a1):Int),aI 0,aS ([]),aN])]⟩,fun a1=>f.l.length-a1,fun a1=>a1≤f.l.length∧txtS (f.l.take a1)≤4096*a1⟩
 .loop L1 0 (show 0≤f.l.length∧txtS (f.l.take 0)≤4096*0 from ⟨Nat.zero_le _,Nat.le_refl _⟩) ⟨[(2,.ptr 2 b1 0),(4,.ptr 4 b3 0),(5,.ptr 5 b4 0),(6,.ptr 6 b5 0),(14,.sl 5 false (f.l.map nodA)),(15,aI (f.l.length:Int)),(16,aI 0)],[(2,.box b1 28 (fsyA f)),(4,.box b3 28 [aN,aI 0]),(5,.box b4 45 [aI 0,aI 0,aI 0,aI 0,aS ([]),aN]),(6,.box b5 45 [aI 0,aI (f.l.length:Int),aI 0,aI 0,aS ([]),aN])]⟩ ⟨sR,sR,sR,sR,sR,sR,Sub.of_eq (congrArg aI (by first | omega | rfl)),trivial⟩ ⟨⟨_,rfl,SubB.refl _⟩,⟨_,rfl,SubB.refl _⟩,⟨_,rfl,SubB.refl _⟩,⟨_,rfl,SubB.of_eq rfl⟩,trivial⟩ fun a1 ha1=>
 (fun (k:Nat) (hH1:k≤f.l.length∧txtS (f.l.take k)≤4096*k)=>.r 1<|.br 17 (decide ((k:Int)<(f.l.length:Int))) (fun q1=>have p1:=decT q1;.idxM f.l nodA k (m:=(k:Int)) rfl (by omega) fun x1 hx1=>
 have tlx1:=Qkh hp (List.mem_of_getElem? hx1);.r 1<|.new fun b6=>.run 1 [b6=b6] rt1<|
 .run 8 [b5=b5,b6=b6,rng .i64 ((txtS (f.l.take k):Int)+((x1.text).length:Int)),b5=b5] ⟨rfl,rfl,Qas (by omega) (by omega),rfl,trivial⟩<|
 .run 2 [rng .i64 ((k:Int)+1)] ⟨Qas (by omega) (by omega),trivial⟩<|
 .back L1 k (k+1) (show (k+1)≤f.l.length∧txtS (f.l.take (k+1))≤4096*(k+1) from ⟨by omega,by rw [show txtS (f.l.take (k+1))=txtS (f.l.take k)+x1.text.length from by unfold txtS;rw [Qap hx1];simp];have:=Qkh hp (List.mem_of_getElem? hx1);omega⟩) (show f.l.length-(k+1)<f.l.length-k from (by omega)) ⟨[(2,.ptr 2 b1 0),(4,.ptr 4 b3 0),(5,.ptr 5 b4 0),(6,.ptr 6 b5 0),(14,.sl 5 false (f.l.map nodA)),(15,aI (f.l.length:Int)),(16,aI ((k:Int)+1))],[(2,.box b1 28 (fsyA f)),(4,.box b3 28 [aN,aI 0]),(5,.box b4 45 [aI 0,aI 0,aI 0,aI 0,aS ([]),aN]),(6,.box b5 45 [aI 0,aI (f.l.length:Int),aI ((txtS (f.l.take k):Int)+((x1.text).length:Int)),aI 0,aS ([]),aN])]⟩ ⟨sR,sR,sR,sR,sR,sR,Sub.of_eq (congrArg aI (by first | omega | rfl)),trivial⟩ ⟨⟨_,rfl,SubB.refl _⟩,⟨_,rfl,SubB.refl _⟩,⟨_,rfl,SubB.refl _⟩,⟨_,rfl,SubB.of_eq (by rw [show txtS (f.l.take (k+1))=txtS (f.l.take k)+x1.text.length from by unfold txtS;rw [Qap hx1];simp];simp)⟩,trivial⟩)
 <| fun q1=>have p1:=decF q1;.pick [0]<|.run 1 [b1=b1] rt1<|
 .fork<|.alt (.run 1 [b5=b5] rt1<|
 .pick [2,3]<|.run 2 [b3=b3,b4=b4] rt2<|
 .fin (x:=.tup [.agg (fsyA f),.agg [aI 0,aI (f.l.length:Int),aI (txtS (f.l.take k):Int),aI 0,aS ([]),aN]]) (r:=.tup [.agg (fsyA (sfsO f).1),.agg (repA (sfsO f).2)]) [b3=b3,b4=b4] rt2 (by
  rw [show k=f.l.length from by omega,Qay (Nat.le_refl _)]
  exact Sub.tups ⟨sR,(Qaw _ _ _ _ _),trivial⟩))
 <| .run 1 [b3=b3] rt1<|
 .pick [1,3]<|.run 2 [b5=b5,b4=b4] rt2<|
 .fin (x:=.tup [.agg (fsyA f),.agg [aI 0,aI (f.l.length:Int),aI (txtS (f.l.take k):Int),aI 0,aS ([]),aN]]) (r:=.tup [.agg (fsyA (sfsO f).1),.agg (repA (sfsO f).2)]) [b3=b3,b4=b4] rt2 (by
  rw [show k=f.l.length from by omega,Qay (Nat.le_refl _)]
  exact Sub.tups ⟨sR,(Qaw _ _ _ _ _),trivial⟩)) a1 ha1) Tryz.func150 rfl (by kernel_rfl) (by kernel_rfl)
end Go.Proofs.YtahlldgocpabjaaGreat
