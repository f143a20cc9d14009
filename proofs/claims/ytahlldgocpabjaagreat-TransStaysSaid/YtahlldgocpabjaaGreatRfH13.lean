import Derived.Test.YtahlldgocpabjaaGreatRfG13
set_option maxRecDepth 100000
set_option maxHeartbeats 8000000
set_option linter.unusedVariables false
set_option linter.unusedSimpArgs false
namespace Go.Proofs.YtahlldgocpabjaaGreat
open Go Go.RowKit Copyhold
theorem tk_1 {f:Fsy} {c:Cal} {dir:Bool} {odd:Int} (hd:Qbw f c=Qa9 f c dir odd) (h:¬ Qaz f c.ino c.name=0):doF f c=(f,errR (Qaz f c.ino c.name)):=dono (by rw [hd];unfold Qa9;rw [if_neg h];rfl) h
theorem tk_2 {f:Fsy} {c:Cal} {dir:Bool} {odd:Int} (hd:Qbw f c=Qa9 f c dir odd) (h:Qaz f c.ino c.name=0) (h2:(((lookN f c.ino c.name).kind==2) != dir)=true) (ho:¬ odd=0):doF f c=(f,errR odd):=dono (by rw [hd];unfold Qa9;rw [if_pos h,if_pos h2];rfl) ho
theorem tk_3 {f:Fsy} {c:Cal} {dir:Bool} {odd:Int} (hd:Qbw f c=Qa9 f c dir odd) (h:Qaz f c.ino c.name=0) (h2:(((lookN f c.ino c.name).kind==2) != dir)=false):doF f c=(Qdx f c.ino c.name,errR (Qbh f c.ino c.name)):=by
 have hd2:Qbw f c=(Qdx f c.ino c.name,errR (Qbh f c.ino c.name)):=by rw [hd];unfold Qa9;rw [if_pos h,if_neg (by rw [h2];decide)]
 by_cases he:Qbh f c.ino c.name=0
 ·exact Qbq hd2 he
 ·rw [Qco hd2 he,show Qdx f c.ino c.name=f from if_neg he];rfl
theorem Qse (f:Fsy) (c:Cal) (okf:OkF f) (okc:OkCal c) (hp:Qal f) (hx:f.next<9223372036854775807) (hk:c.kind=6):Qaj Tryz.prog 71 [.agg (fsyA f),.agg (calA c)] (.tup [.agg (fsyA (doF f c).1),.agg (repA (doF f c).2)]):=by
 have hl:=hp.1
 have hr:=Qad hp
 have hcn:=okc.name
 have hcn2:=okc.name2
 have hct:=okc.text
 exact Qac (F:=Tryz.f71) 400 (
 .new fun b1=>.new fun b2=>.new fun b3=>.new fun b4=>.r 1<|.new fun b5=>.run 1 [b5=b5] rt1<|
 .run 3 [b2=b2] rt1<|
 .is 12 (show (c.kind==7)=false from (by rw [hk];rfl))<|.run 3 [b2=b2] rt1<|
 .is 16 (show (c.kind==8)=false from (by rw [hk];rfl))<|.run 6 [b1=b1,b2=b2,b2=b2,b5=b5] rt4<|
 .callS (args0:=[.agg (fsyA f),aI c.ino,aS c.name,.agg [aI 0,aI 1,aI 0,aS ([]),aN]]) (args:=[.agg (fsyA f),aI c.ino,aS c.name,.agg [aI 0,aI 1,aI 0,aS ([]),.sl 2 false (([]:List Ent).map entA)]]) ⟨sR,sR,sR,Sub.aggs ⟨sR,sR,sR,sR,Sub.nil _ _,trivial⟩,trivial⟩ (Qlc f c.ino c.name ⟨0,1,0,[],[]⟩ okf hp hcn Qoy hx)<|
 .r 3<|.new fun b6=>.run 2 [b6=b6] rt1<|
 .r 2<|.br 38 ((Qak f c.ino c.name ⟨0,1,0,[],[]⟩) != 0) (fun q1=>have p1:=bneT q1;.ord [0,1,2,3,4]<|.run 2 [b1=b1] rt1<|
 .call (Qbi (Qak f c.ino c.name ⟨0,1,0,[],[]⟩))<|
 .run 2 [b3=b3,b4=b4] rt2<|
 .fin (x:=.tup [.agg (fsyA f),.agg [aI ((errR (Qak f c.ino c.name ⟨0,1,0,[],[]⟩)).e),aI ((errR (Qak f c.ino c.name ⟨0,1,0,[],[]⟩)).a),aI ((errR (Qak f c.ino c.name ⟨0,1,0,[],[]⟩)).b),aI ((errR (Qak f c.ino c.name ⟨0,1,0,[],[]⟩)).n),aS ((errR (Qak f c.ino c.name ⟨0,1,0,[],[]⟩)).text),.sl 1 false ((errR (Qak f c.ino c.name ⟨0,1,0,[],[]⟩)).names.map txA)]]) (r:=.tup [.agg (fsyA (doF f c).1),.agg (repA (doF f c).2)]) [b3=b3,b4=b4] rt2 (by
  rw [Zcv (Qiy hk) rfl (bneT q1)]
  exact sR))
 <| fun q1=>have p1:=bneF q1;let J1:Jn (Unit):=⟨fun j1=>⟨[(4,.ptr 4 b3 0),(5,.ptr 5 b4 0)],[(4,.box b3 28 [.sl 5 false ((if Qak f c.ino c.name ⟨0,1,0,[],[]⟩=0 then addF f c.ino c.name (addN f ⟨0,1,0,[],[]⟩) else f).l.map nodA),aI ((if Qak f c.ino c.name ⟨0,1,0,[],[]⟩=0 then addF f c.ino c.name (addN f ⟨0,1,0,[],[]⟩) else f).next)]),(5,.box b4 45 [aI 0,aI f.next,aI 0,aI 0,aS ([]),aN])]⟩,fun _=>True⟩
 .cut J1 (.pick [0,1]<|.run 2 [b6=b6] rt1<|
 .fork<|.alt (.run 1 [b1=b1] rt1<|
 .pick [3,4,5]<|.run 3 [b3=b3,b4=b4] rt2<|
 .join J1 () trivial ⟨[(4,.ptr 4 b3 0),(5,.ptr 5 b4 0)],[(4,.box b3 28 [.sl 5 false ((if Qak f c.ino c.name ⟨0,1,0,[],[]⟩=0 then addF f c.ino c.name (addN f ⟨0,1,0,[],[]⟩) else f).l.map nodA),aI ((if Qak f c.ino c.name ⟨0,1,0,[],[]⟩=0 then addF f c.ino c.name (addN f ⟨0,1,0,[],[]⟩) else f).next)]),(5,.box b4 45 [aI 0,aI f.next,aI 0,aI 0,aS ([]),aN])]⟩ sr2 ⟨⟨_,rfl,SubB.refl _⟩,⟨_,rfl,SubB.refl _⟩,trivial⟩)
 <| .run 1 [b3=b3] rt1<|
 .pick [2,3,5]<|.run 3 [b1=b1,b4=b4] rt2<|
 .join J1 () trivial ⟨[(4,.ptr 4 b3 0),(5,.ptr 5 b4 0)],[(4,.box b3 28 [.sl 5 false ((if Qak f c.ino c.name ⟨0,1,0,[],[]⟩=0 then addF f c.ino c.name (addN f ⟨0,1,0,[],[]⟩) else f).l.map nodA),aI ((if Qak f c.ino c.name ⟨0,1,0,[],[]⟩=0 then addF f c.ino c.name (addN f ⟨0,1,0,[],[]⟩) else f).next)]),(5,.box b4 45 [aI 0,aI f.next,aI 0,aI 0,aS ([]),aN])]⟩ sr2 ⟨⟨_,rfl,SubB.refl _⟩,⟨_,rfl,SubB.refl _⟩,trivial⟩)
 <| fun _ _=>.fin (x:=.tup [.agg [.sl 5 false ((if Qak f c.ino c.name ⟨0,1,0,[],[]⟩=0 then addF f c.ino c.name (addN f ⟨0,1,0,[],[]⟩) else f).l.map nodA),aI ((if Qak f c.ino c.name ⟨0,1,0,[],[]⟩=0 then addF f c.ino c.name (addN f ⟨0,1,0,[],[]⟩) else f).next)],.agg [aI 0,aI f.next,aI 0,aI 0,aS ([]),aN]]) (r:=.tup [.agg (fsyA (doF f c).1),.agg (repA (doF f c).2)]) [b3=b3,b4=b4] rt2 (by
  have h0:=bneF q1
  rw [Qtt (Qiy hk) h0,if_pos h0]
  exact Sub.tups ⟨sR,Qaw _ _ _ _ _,trivial⟩)) Tryz.func71 rfl (by kernel_rfl) (by kernel_rfl)
theorem Qsd (f:Fsy) (c:Cal) (okf:OkF f) (okc:OkCal c) (hp:Qal f) (hx:f.next<9223372036854775807) (hk:c.kind=7):Qaj Tryz.prog 71 [.agg (fsyA f),.agg (calA c)] (.tup [.agg (fsyA (doF f c).1),.agg (repA (doF f c).2)]):=by
 have hl:=hp.1
 have hr:=Qad hp
 have hcn:=okc.name
 have hcn2:=okc.name2
 have hct:=okc.text
 exact Qac (F:=Tryz.f71) 400 (
 .new fun b1=>.new fun b2=>.new fun b3=>.new fun b4=>.r 1<|.new fun b5=>.run 1 [b5=b5] rt1<|
 .run 3 [b2=b2] rt1<|
 .is 12 (show (c.kind==7)=true from (by rw [hk];rfl))<|.run 2 [b5=b5] rt1<|
 .run 3 [b2=b2] rt1<|
 .is 16 (show (c.kind==8)=false from (by rw [hk];rfl))<|.run 6 [b1=b1,b2=b2,b2=b2,b5=b5] rt4<|
 .callS (args0:=[.agg (fsyA f),aI c.ino,aS c.name,.agg [aI 0,aI 2,aI 0,aS ([]),aN]]) (args:=[.agg (fsyA f),aI c.ino,aS c.name,.agg [aI 0,aI 2,aI 0,aS ([]),.sl 2 false (([]:List Ent).map entA)]]) ⟨sR,sR,sR,Sub.aggs ⟨sR,sR,sR,sR,Sub.nil _ _,trivial⟩,trivial⟩ (Qlc f c.ino c.name ⟨0,2,0,[],[]⟩ okf hp hcn Qs1 hx)<|
 .r 3<|.new fun b6=>.run 2 [b6=b6] rt1<|
 .r 2<|.br 38 ((Qak f c.ino c.name ⟨0,2,0,[],[]⟩) != 0) (fun q1=>have p1:=bneT q1;.ord [0,1,2,3,4]<|.run 2 [b1=b1] rt1<|
 .call (Qbi (Qak f c.ino c.name ⟨0,2,0,[],[]⟩))<|
 .run 2 [b3=b3,b4=b4] rt2<|
 .fin (x:=.tup [.agg (fsyA f),.agg [aI ((errR (Qak f c.ino c.name ⟨0,2,0,[],[]⟩)).e),aI ((errR (Qak f c.ino c.name ⟨0,2,0,[],[]⟩)).a),aI ((errR (Qak f c.ino c.name ⟨0,2,0,[],[]⟩)).b),aI ((errR (Qak f c.ino c.name ⟨0,2,0,[],[]⟩)).n),aS ((errR (Qak f c.ino c.name ⟨0,2,0,[],[]⟩)).text),.sl 1 false ((errR (Qak f c.ino c.name ⟨0,2,0,[],[]⟩)).names.map txA)]]) (r:=.tup [.agg (fsyA (doF f c).1),.agg (repA (doF f c).2)]) [b3=b3,b4=b4] rt2 (by
  rw [Zcv (Qj4 hk) rfl (bneT q1)]
  exact sR))
 <| fun q1=>have p1:=bneF q1;let J1:Jn (Unit):=⟨fun j1=>⟨[(4,.ptr 4 b3 0),(5,.ptr 5 b4 0)],[(4,.box b3 28 [.sl 5 false ((if Qak f c.ino c.name ⟨0,2,0,[],[]⟩=0 then addF f c.ino c.name (addN f ⟨0,2,0,[],[]⟩) else f).l.map nodA),aI ((if Qak f c.ino c.name ⟨0,2,0,[],[]⟩=0 then addF f c.ino c.name (addN f ⟨0,2,0,[],[]⟩) else f).next)]),(5,.box b4 45 [aI 0,aI f.next,aI 0,aI 0,aS ([]),aN])]⟩,fun _=>True⟩
 .cut J1 (.pick [0,1]<|.run 2 [b6=b6] rt1<|
 .fork<|.alt (.run 1 [b1=b1] rt1<|
 .pick [3,4,5]<|.run 3 [b3=b3,b4=b4] rt2<|
 .join J1 () trivial ⟨[(4,.ptr 4 b3 0),(5,.ptr 5 b4 0)],[(4,.box b3 28 [.sl 5 false ((if Qak f c.ino c.name ⟨0,2,0,[],[]⟩=0 then addF f c.ino c.name (addN f ⟨0,2,0,[],[]⟩) else f).l.map nodA),aI ((if Qak f c.ino c.name ⟨0,2,0,[],[]⟩=0 then addF f c.ino c.name (addN f ⟨0,2,0,[],[]⟩) else f).next)]),(5,.box b4 45 [aI 0,aI f.next,aI 0,aI 0,aS ([]),aN])]⟩ sr2 ⟨⟨_,rfl,SubB.refl _⟩,⟨_,rfl,SubB.refl _⟩,trivial⟩)
 <| .run 1 [b3=b3] rt1<|
 .pick [2,3,5]<|.run 3 [b1=b1,b4=b4] rt2<|
 .join J1 () trivial ⟨[(4,.ptr 4 b3 0),(5,.ptr 5 b4 0)],[(4,.box b3 28 [.sl 5 false ((if Qak f c.ino c.name ⟨0,2,0,[],[]⟩=0 then addF f c.ino c.name (addN f ⟨0,2,0,[],[]⟩) else f).l.map nodA),aI ((if Qak f c.ino c.name ⟨0,2,0,[],[]⟩=0 then addF f c.ino c.name (addN f ⟨0,2,0,[],[]⟩) else f).next)]),(5,.box b4 45 [aI 0,aI f.next,aI 0,aI 0,aS ([]),aN])]⟩ sr2 ⟨⟨_,rfl,SubB.refl _⟩,⟨_,rfl,SubB.refl _⟩,trivial⟩)
 <| fun _ _=>.fin (x:=.tup [.agg [.sl 5 false ((if Qak f c.ino c.name ⟨0,2,0,[],[]⟩=0 then addF f c.ino c.name (addN f ⟨0,2,0,[],[]⟩) else f).l.map nodA),aI ((if Qak f c.ino c.name ⟨0,2,0,[],[]⟩=0 then addF f c.ino c.name (addN f ⟨0,2,0,[],[]⟩) else f).next)],.agg [aI 0,aI f.next,aI 0,aI 0,aS ([]),aN]]) (r:=.tup [.agg (fsyA (doF f c).1),.agg (repA (doF f c).2)]) [b3=b3,b4=b4] rt2 (by
  have h0:=bneF q1
  rw [Qtt (Qj4 hk) h0,if_pos h0]
  exact Sub.tups ⟨sR,Qaw _ _ _ _ _,trivial⟩)) Tryz.func71 rfl (by kernel_rfl) (by kernel_rfl)
theorem Qsc (f:Fsy) (c:Cal) (okf:OkF f) (okc:OkCal c) (hp:Qal f) (hx:f.next<9223372036854775807) (hk:c.kind=8):Qaj Tryz.prog 71 [.agg (fsyA f),.agg (calA c)] (.tup [.agg (fsyA (doF f c).1),.agg (repA (doF f c).2)]):=by
 have hl:=hp.1
 have hr:=Qad hp
 have hcn:=okc.name
 have hcn2:=okc.name2
 have hct:=okc.text
 exact Qac (F:=Tryz.f71) 400 (
 .new fun b1=>.new fun b2=>.new fun b3=>.new fun b4=>.r 1<|.new fun b5=>.run 1 [b5=b5] rt1<|
 .run 3 [b2=b2] rt1<|
 .is 12 (show (c.kind==7)=false from (by rw [hk];rfl))<|.run 3 [b2=b2] rt1<|
 .is 16 (show (c.kind==8)=true from (by rw [hk];rfl))<|.run 2 [b5=b5] rt1<|
 .run 4 [b2=b2,b5=b5] rt2<|
 .run 4 [b2=b2] rt1<|
 .br 24 (decide (((c.text).length:Int)>4096)) (fun q1=>have p1:=decT q1;.ord [0,1,2,3]<|.run 1 [b1=b1] rt1<|
 .call (Qbi 5)<|
 .run 2 [b3=b3,b4=b4] rt2<|
 .fin (x:=.tup [.agg (fsyA f),.agg [aI ((errR 5).e),aI ((errR 5).a),aI ((errR 5).b),aI ((errR 5).n),aS ((errR 5).text),.sl 1 false ((errR 5).names.map txA)]]) (r:=.tup [.agg (fsyA (doF f c).1),.agg (repA (doF f c).2)]) [b3=b3,b4=b4] rt2 (by
  rw [Zhi hk (by omega)]
  exact sR))
 <| fun q1=>have p1:=decF q1;.run 6 [b1=b1,b2=b2,b2=b2,b5=b5] rt4<|
 .callS (args0:=[.agg (fsyA f),aI c.ino,aS c.name,.agg [aI 0,aI 3,aI 0,aS c.text,aN]]) (args:=[.agg (fsyA f),aI c.ino,aS c.name,.agg [aI 0,aI 3,aI 0,aS c.text,.sl 2 false (([]:List Ent).map entA)]]) ⟨sR,sR,sR,Sub.aggs ⟨sR,sR,sR,sR,Sub.nil _ _,trivial⟩,trivial⟩ (Qlc f c.ino c.name ⟨0,3,0,c.text,[]⟩ okf hp hcn (Qow (by omega)) hx)<|
 .r 3<|.new fun b6=>.run 2 [b6=b6] rt1<|
 .r 2<|.br 38 ((Qak f c.ino c.name ⟨0,3,0,c.text,[]⟩) != 0) (fun q2=>have p2:=bneT q2;.ord [0,1,2,3,4]<|.run 2 [b1=b1] rt1<|
 .call (Qbi (Qak f c.ino c.name ⟨0,3,0,c.text,[]⟩))<|
 .run 2 [b3=b3,b4=b4] rt2<|
 .fin (x:=.tup [.agg (fsyA f),.agg [aI ((errR (Qak f c.ino c.name ⟨0,3,0,c.text,[]⟩)).e),aI ((errR (Qak f c.ino c.name ⟨0,3,0,c.text,[]⟩)).a),aI ((errR (Qak f c.ino c.name ⟨0,3,0,c.text,[]⟩)).b),aI ((errR (Qak f c.ino c.name ⟨0,3,0,c.text,[]⟩)).n),aS ((errR (Qak f c.ino c.name ⟨0,3,0,c.text,[]⟩)).text),.sl 1 false ((errR (Qak f c.ino c.name ⟨0,3,0,c.text,[]⟩)).names.map txA)]]) (r:=.tup [.agg (fsyA (doF f c).1),.agg (repA (doF f c).2)]) [b3=b3,b4=b4] rt2 (by
  rw [Zcv (Qx5 hk (by omega)) rfl (bneT q2)]
  exact sR))
 <| fun q2=>have p2:=bneF q2;let J1:Jn (Unit):=⟨fun j1=>⟨[(4,.ptr 4 b3 0),(5,.ptr 5 b4 0)],[(4,.box b3 28 [.sl 5 false ((if Qak f c.ino c.name ⟨0,3,0,c.text,[]⟩=0 then addF f c.ino c.name (addN f ⟨0,3,0,c.text,[]⟩) else f).l.map nodA),aI ((if Qak f c.ino c.name ⟨0,3,0,c.text,[]⟩=0 then addF f c.ino c.name (addN f ⟨0,3,0,c.text,[]⟩) else f).next)]),(5,.box b4 45 [aI 0,aI f.next,aI 0,aI 0,aS ([]),aN])]⟩,fun _=>True⟩
 .cut J1 (.pick [0,1]<|.run 2 [b6=b6] rt1<|
 .fork<|.alt (.run 1 [b1=b1] rt1<|
 .pick [3,4,5]<|.run 3 [b3=b3,b4=b4] rt2<|
 .join J1 () trivial ⟨[(4,.ptr 4 b3 0),(5,.ptr 5 b4 0)],[(4,.box b3 28 [.sl 5 false ((if Qak f c.ino c.name ⟨0,3,0,c.text,[]⟩=0 then addF f c.ino c.name (addN f ⟨0,3,0,c.text,[]⟩) else f).l.map nodA),aI ((if Qak f c.ino c.name ⟨0,3,0,c.text,[]⟩=0 then addF f c.ino c.name (addN f ⟨0,3,0,c.text,[]⟩) else f).next)]),(5,.box b4 45 [aI 0,aI f.next,aI 0,aI 0,aS ([]),aN])]⟩ sr2 ⟨⟨_,rfl,SubB.refl _⟩,⟨_,rfl,SubB.refl _⟩,trivial⟩)
 <| .run 1 [b3=b3] rt1<|
 .pick [2,3,5]<|.run 3 [b1=b1,b4=b4] rt2<|
 .join J1 () trivial ⟨[(4,.ptr 4 b3 0),(5,.ptr 5 b4 0)],[(4,.box b3 28 [.sl 5 false ((if Qak f c.ino c.name ⟨0,3,0,c.text,[]⟩=0 then addF f c.ino c.name (addN f ⟨0,3,0,c.text,[]⟩) else f).l.map nodA),aI ((if Qak f c.ino c.name ⟨0,3,0,c.text,[]⟩=0 then addF f c.ino c.name (addN f ⟨0,3,0,c.text,[]⟩) else f).next)]),(5,.box b4 45 [aI 0,aI f.next,aI 0,aI 0,aS ([]),aN])]⟩ sr2 ⟨⟨_,rfl,SubB.refl _⟩,⟨_,rfl,SubB.refl _⟩,trivial⟩)
 <| fun _ _=>.fin (x:=.tup [.agg [.sl 5 false ((if Qak f c.ino c.name ⟨0,3,0,c.text,[]⟩=0 then addF f c.ino c.name (addN f ⟨0,3,0,c.text,[]⟩) else f).l.map nodA),aI ((if Qak f c.ino c.name ⟨0,3,0,c.text,[]⟩=0 then addF f c.ino c.name (addN f ⟨0,3,0,c.text,[]⟩) else f).next)],.agg [aI 0,aI f.next,aI 0,aI 0,aS ([]),aN]]) (r:=.tup [.agg (fsyA (doF f c).1),.agg (repA (doF f c).2)]) [b3=b3,b4=b4] rt2 (by
  have h0:=bneF q2
  rw [Qtt (Qx5 hk (by omega)) h0,if_pos h0]
  exact Sub.tups ⟨sR,Qaw _ _ _ _ _,trivial⟩)) Tryz.func71 rfl (by kernel_rfl) (by kernel_rfl)
theorem Qp7 (f:Fsy) (c:Cal) (okf:OkF f) (okc:OkCal c) (hp:Qal f) (hk:c.kind=9):Qaj Tryz.prog 72 [.agg (fsyA f),.agg (calA c)] (.tup [.agg (fsyA (doF f c).1),.agg (repA (doF f c).2)]):=by
 have hl:=hp.1
 have hr:=Qad hp
 have hcn:=okc.name
 have hcn2:=okc.name2
 have hct:=okc.text
 exact Qac (F:=Tryz.f72) 400 (
 .new fun b1=>.new fun b2=>.new fun b3=>.new fun b4=>.run 5 [b1=b1,b2=b2,b2=b2] rt3<|
 .call (Qdq f c.ino c.name hp hcn)<|
 .r 3<|.new fun b5=>.run 2 [b5=b5] rt1<|
 .r 2<|.br 20 ((Qaz f c.ino c.name) != 0) (fun q1=>have p1:=bneT q1;.ord [0,1,2,3,4]<|.run 2 [b1=b1] rt1<|
 .call (Qbi (Qaz f c.ino c.name))<|
 .run 2 [b3=b3,b4=b4] rt2<|
 .fin (x:=.tup [.agg (fsyA f),.agg [aI ((errR (Qaz f c.ino c.name)).e),aI ((errR (Qaz f c.ino c.name)).a),aI ((errR (Qaz f c.ino c.name)).b),aI ((errR (Qaz f c.ino c.name)).n),aS ((errR (Qaz f c.ino c.name)).text),.sl 1 false ((errR (Qaz f c.ino c.name)).names.map txA)]]) (r:=.tup [.agg (fsyA (doF f c).1),.agg (repA (doF f c).2)]) [b3=b3,b4=b4] rt2 (by
  rw [tk_1 (Qix hk) (bneT q1)]
  exact sR))
 <| fun q1=>have p1:=bneF q1;.run 4 [b2=b2] rt1<|
 .is 27 (show (c.kind==9)=true from (by rw [hk];rfl))<|.run 4 [b5=b5] rt1<|
 .br 31 (((lookN f c.ino c.name).kind)==2) (fun q2=>have p2:=beqT q2;.ord [0,1,2,3]<|.run 1 [b1=b1] rt1<|
 .call (Qbi 9)<|
 .run 2 [b3=b3,b4=b4] rt2<|
 .fin (x:=.tup [.agg (fsyA f),.agg [aI ((errR 9).e),aI ((errR 9).a),aI ((errR 9).b),aI ((errR 9).n),aS ((errR 9).text),.sl 1 false ((errR 9).names.map txA)]]) (r:=.tup [.agg (fsyA (doF f c).1),.agg (repA (doF f c).2)]) [b3=b3,b4=b4] rt2 (by
  rw [tk_2 (Qix hk) (bneF q1) (by simpa [bne] using q2) (by decide)]
  exact sR))
 <| fun q2=>have p2:=beqF q2;.run 4 [b2=b2] rt1<|
 .is 37 (show (c.kind==10)=false from (by rw [hk];rfl))<|.r 4<|.run 5 [b1=b1,b2=b2,b2=b2] rt3<|
 .call (Qm9 f c.ino c.name okf hp hcn)<|
 .r 3<|.new fun b6=>.run 2 [b6=b6] rt1<|
 .ord [0,1,2,3,4]<|.run 2 [b6=b6] rt1<|
 .call (Qbi (Qbh f c.ino c.name))<|
 .run 2 [b3=b3,b4=b4] rt2<|
 .fin (x:=.tup [.agg [.sl 5 false ((Qdx f c.ino c.name).l.map nodA),aI ((Qdx f c.ino c.name).next)],.agg [aI ((errR (Qbh f c.ino c.name)).e),aI ((errR (Qbh f c.ino c.name)).a),aI ((errR (Qbh f c.ino c.name)).b),aI ((errR (Qbh f c.ino c.name)).n),aS ((errR (Qbh f c.ino c.name)).text),.sl 1 false ((errR (Qbh f c.ino c.name)).names.map txA)]]) (r:=.tup [.agg (fsyA (doF f c).1),.agg (repA (doF f c).2)]) [b3=b3,b4=b4] rt2 (by
  rw [tk_3 (Qix hk) (bneF q1) (by simpa [bne] using q2)]
  exact sR)) Tryz.func72 rfl (by kernel_rfl) (by kernel_rfl)
theorem Qof (f:Fsy) (c:Cal) (okf:OkF f) (okc:OkCal c) (hp:Qal f) (hk:c.kind=10):Qaj Tryz.prog 72 [.agg (fsyA f),.agg (calA c)] (.tup [.agg (fsyA (doF f c).1),.agg (repA (doF f c).2)]):=by
 have hl:=hp.1
 have hr:=Qad hp
 have hcn:=okc.name
 have hcn2:=okc.name2
 have hct:=okc.text
 exact Qac (F:=Tryz.f72) 400 (
 .new fun b1=>.new fun b2=>.new fun b3=>.new fun b4=>.run 5 [b1=b1,b2=b2,b2=b2] rt3<|
 .call (Qdq f c.ino c.name hp hcn)<|
 .r 3<|.new fun b5=>.run 2 [b5=b5] rt1<|
 .r 2<|.br 20 ((Qaz f c.ino c.name) != 0) (fun q1=>have p1:=bneT q1;.ord [0,1,2,3,4]<|.run 2 [b1=b1] rt1<|
 .call (Qbi (Qaz f c.ino c.name))<|
 .run 2 [b3=b3,b4=b4] rt2<|
 .fin (x:=.tup [.agg (fsyA f),.agg [aI ((errR (Qaz f c.ino c.name)).e),aI ((errR (Qaz f c.ino c.name)).a),aI ((errR (Qaz f c.ino c.name)).b),aI ((errR (Qaz f c.ino c.name)).n),aS ((errR (Qaz f c.ino c.name)).text),.sl 1 false ((errR (Qaz f c.ino c.name)).names.map txA)]]) (r:=.tup [.agg (fsyA (doF f c).1),.agg (repA (doF f c).2)]) [b3=b3,b4=b4] rt2 (by
  rw [tk_1 (Qf3 hk) (bneT q1)]
  exact sR))
 <| fun q1=>have p1:=bneF q1;.run 4 [b2=b2] rt1<|
 .is 27 (show (c.kind==9)=false from (by rw [hk];rfl))<|.r 4<|.run 4 [b2=b2] rt1<|
 .is 37 (show (c.kind==10)=true from (by rw [hk];rfl))<|.run 4 [b5=b5] rt1<|
 .br 41 (((lookN f c.ino c.name).kind) != 2) (fun q2=>have p2:=bneT q2;.ord [0,1,2,3]<|.run 1 [b1=b1] rt1<|
 .call (Qbi 8)<|
 .run 2 [b3=b3,b4=b4] rt2<|
 .fin (x:=.tup [.agg (fsyA f),.agg [aI ((errR 8).e),aI ((errR 8).a),aI ((errR 8).b),aI ((errR 8).n),aS ((errR 8).text),.sl 1 false ((errR 8).names.map txA)]]) (r:=.tup [.agg (fsyA (doF f c).1),.agg (repA (doF f c).2)]) [b3=b3,b4=b4] rt2 (by
  rw [tk_2 (Qf3 hk) (bneF q1) (by simpa [bne] using q2) (by decide)]
  exact sR))
 <| fun q2=>have p2:=bneF q2;.run 5 [b1=b1,b2=b2,b2=b2] rt3<|
 .call (Qm9 f c.ino c.name okf hp hcn)<|
 .r 3<|.new fun b6=>.run 2 [b6=b6] rt1<|
 .ord [0,1,2,3,4]<|.run 2 [b6=b6] rt1<|
 .call (Qbi (Qbh f c.ino c.name))<|
 .run 2 [b3=b3,b4=b4] rt2<|
 .fin (x:=.tup [.agg [.sl 5 false ((Qdx f c.ino c.name).l.map nodA),aI ((Qdx f c.ino c.name).next)],.agg [aI ((errR (Qbh f c.ino c.name)).e),aI ((errR (Qbh f c.ino c.name)).a),aI ((errR (Qbh f c.ino c.name)).b),aI ((errR (Qbh f c.ino c.name)).n),aS ((errR (Qbh f c.ino c.name)).text),.sl 1 false ((errR (Qbh f c.ino c.name)).names.map txA)]]) (r:=.tup [.agg (fsyA (doF f c).1),.agg (repA (doF f c).2)]) [b3=b3,b4=b4] rt2 (by
  rw [tk_3 (Qf3 hk) (bneF q1) (by simpa [bne] using q2)]
  exact sR)) Tryz.func72 rfl (by kernel_rfl) (by kernel_rfl)
end Go.Proofs.YtahlldgocpabjaaGreat
