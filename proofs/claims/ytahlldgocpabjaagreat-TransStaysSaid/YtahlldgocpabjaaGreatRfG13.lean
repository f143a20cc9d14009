import Derived.Test.YtahlldgocpabjaaGreatMrgZ
import Derived.Test.YtahlldgocpabjaaGreatMrgAA
import Derived.Test.YtahlldgocpabjaaGreatMrgW
set_option maxRecDepth 100000
set_option maxHeartbeats 8000000
set_option linter.unusedVariables false
set_option linter.unusedSimpArgs false
namespace Go.Proofs.YtahlldgocpabjaaGreat
open Go Go.RowKit Copyhold
theorem dono {f:Fsy} {c:Cal} {e:Int} (h:(Qbw f c).2.e=e) (he:¬ e=0):doF f c=(f,errR e):=by
 have:=Qco (f:=f) (c:=c) rfl (by rw [h];exact he)
 rw [this,h]
theorem Zdu {s:Txt} {a b:Int} (h:¬ (Qdz s a b).2=0):(Qdz s a b).1=[]:=by
 unfold Qdz at h ⊢
 split
 ·rename_i h1;rw [if_pos h1] at h;exact absurd rfl h
 ·rfl
theorem Qy0 {f:Fsy} {c:Cal} {e:Int} (hk:c.kind=3) (h:ofE f c.ino 1=e) (he:¬ e=0):doF f c=(f,errR e):=dono (by rw [Qj7 hk];unfold Qc0;rw [h,if_neg he];rfl) he
theorem Zdt {f:Fsy} {c:Cal} (hk:c.kind=3) (h:ofE f c.ino 1=0):doF f c=(f,⟨(Qdz (Qaa f c.ino).text c.at_ c.many).2,0,0,0,(Qdz (Qaa f c.ino).text c.at_ c.many).1,[]⟩):=by
 have hd:Qbw f c=(f,⟨(Qdz (Qaa f c.ino).text c.at_ c.many).2,0,0,0,(Qdz (Qaa f c.ino).text c.at_ c.many).1,[]⟩):=by rw [Qj7 hk];unfold Qc0;rw [if_pos h]
 by_cases he:(Qdz (Qaa f c.ino).text c.at_ c.many).2=0
 ·exact Qbq hd he
 ·rw [Qco hd he,Zdu he];rfl
theorem Qtx {f:Fsy} {c:Cal} {e:Int} (hk:c.kind=4) (h:ofE f c.ino 1=e) (he:¬ e=0):doF f c=(f,errR e):=dono (by rw [Qj6 hk];unfold Qb2;rw [h,if_neg he];rfl) he
theorem Qpr {f:Fsy} {c:Cal} (hk:c.kind=4) (h:ofE f c.ino 1=0):Qbw f c=(putF f (Qbg (Qaa f c.ino) (Qat (Qaa f c.ino).text c.at_ c.text).1),⟨(Qat (Qaa f c.ino).text c.at_ c.text).2,(c.text.length:Int),0,0,[],[]⟩):=by rw [Qj6 hk];unfold Qb2;rw [if_pos h]
theorem Zg6 {f:Fsy} {c:Cal} {e:Int} (hk:c.kind=5) (h:ofE f c.ino 1=e) (he:¬ e=0):doF f c=(f,errR e):=dono (by rw [Qj5 hk];unfold cutO;rw [h,if_neg he];rfl) he
theorem Zb2 {f:Fsy} {c:Cal} (hk:c.kind=5) (h:ofE f c.ino 1=0):Qbw f c=(putF f (Qbg (Qaa f c.ino) (cutD (Qaa f c.ino).text c.many).1),errR (cutD (Qaa f c.ino).text c.many).2):=by rw [Qj5 hk];unfold cutO;rw [if_pos h]
theorem Zae {f:Fsy} {c:Cal} {e:Int} (hk:c.kind=13) (h:ofE f c.ino 3=e) (he:¬ e=0):doF f c=(f,errR e):=dono (by rw [Qgo hk];exact h) he
theorem Zeg {f:Fsy} {c:Cal} (hk:c.kind=13) (h:ofE f c.ino 3=0):doF f c=(f,⟨0,0,0,0,(Qaa f c.ino).text,[]⟩):=by
 have hd:Qbw f c=(f,⟨0,0,0,0,(Qaa f c.ino).text,[]⟩):=by
  rw [Qgo hk];unfold Qdy;rw [h,Quh h]
 exact Qbq hd rfl
theorem Zcv {f:Fsy} {c:Cal} {n:Nod} (hd:Qbw f c=addO f c n) {e:Int} (h:Qak f c.ino c.name n=e) (he:¬ e=0):doF f c=(f,errR e):=dono (by rw [hd];exact h) he
theorem Qtt {f:Fsy} {c:Cal} {n:Nod} (hd:Qbw f c=addO f c n) (h:Qak f c.ino c.name n=0):doF f c=(addF f c.ino c.name (addN f n),⟨0,f.next,0,0,[],[]⟩):=by
 have h2:addO f c n=(addF f c.ino c.name (addN f n),⟨0,f.next,0,0,[],[]⟩):=by unfold addO;rw [h];rfl
 exact Qbq (hd.trans h2) rfl
theorem Zhi {f:Fsy} {c:Cal} (hk:c.kind=8) (h:(c.text.length:Int)>4096):doF f c=(f,errR 5):=dono (by rw [Qj3 hk];unfold symO;rw [if_pos h];rfl) (by decide)
theorem Qx5 {f:Fsy} {c:Cal} (hk:c.kind=8) (h:¬ (c.text.length:Int)>4096):Qbw f c=addO f c ⟨0,3,0,c.text,[]⟩:=by rw [Qj3 hk];unfold symO;rw [if_neg h]
theorem Qbi (e:Int):Qaj Tryz.prog 68 [aI e] (.agg (repA (errR e))):=by
 exact Qac (F:=Tryz.f68) 400 (
 .new fun b1=>.run 3 [b1=b1] rt1<|
 .fin (x:=.agg [aI e,aI 0,aI 0,aI 0,aS ([]),aN]) (r:=.agg (repA (errR e))) [b1=b1] rt1 (by exact Sub.aggs ⟨sR,sR,sR,sR,sR,Sub.nil _ _,trivial⟩)) Tryz.func68 rfl (by kernel_rfl) (by kernel_rfl)
theorem Qp6 (f:Fsy) (c:Cal) (okf:OkF f) (okc:OkCal c) (hp:Qal f) (htx:c.text.length≤500000) (hk:c.kind=3):Qaj Tryz.prog 70 [.agg (fsyA f),.agg (calA c)] (.tup [.agg (fsyA (doF f c).1),.agg (repA (doF f c).2)]):=by
 have hl:=hp.1
 have hr:=Qad hp
 have hcn:=okc.name
 have hcn2:=okc.name2
 have hct:=okc.text
 exact Qac (F:=Tryz.f70) 400 (
 .new fun b1=>.new fun b2=>.new fun b3=>.new fun b4=>.run 3 [b1=b1,b2=b2] rt2<|
 .call (Qbd f c.ino (by omega))<|
 .r 3<|.new fun b5=>.run 2 [b5=b5] rt1<|
 .r 2<|.br 21 (!(Qar f c.ino)) (fun q1=>have q1:=notT q1;have p1:=booF q1;.ord [0,1,2,3]<|.run 1 [b1=b1] rt1<|
 .call (Qbi 6)<|
 .run 2 [b3=b3,b4=b4] rt2<|
 .fin (x:=.tup [.agg (fsyA f),.agg [aI ((errR 6).e),aI ((errR 6).a),aI ((errR 6).b),aI ((errR 6).n),aS ((errR 6).text),.sl 1 false ((errR 6).names.map txA)]]) (r:=.tup [.agg (fsyA (doF f c).1),.agg (repA (doF f c).2)]) [b3=b3,b4=b4] rt2 (by
  rw [Qy0 hk (Qzx q1).1 (by decide)]
  exact sR))
 <| fun q1=>have q1:=notF q1;have p1:=booT q1;.run 3 [b2=b2] rt1<|
 .is 26 (show (c.kind==13)=false from (by rw [hk];rfl))<|.run 3 [b5=b5] rt1<|
 .br 38 (((Qaa f c.ino).kind) != 1) (fun q2=>have p2:=bneT q2;.ord [0,1,2,3]<|.run 1 [b1=b1] rt1<|
 .call (Qbi 14)<|
 .run 2 [b3=b3,b4=b4] rt2<|
 .fin (x:=.tup [.agg (fsyA f),.agg [aI ((errR 14).e),aI ((errR 14).a),aI ((errR 14).b),aI ((errR 14).n),aS ((errR 14).text),.sl 1 false ((errR 14).names.map txA)]]) (r:=.tup [.agg (fsyA (doF f c).1),.agg (repA (doF f c).2)]) [b3=b3,b4=b4] rt2 (by
  rw [Qy0 hk (Qqf (k:=1) q1 (bneT q2)).1 (by decide)]
  exact sR))
 <| fun q2=>have p2:=bneF q2;.run 3 [b2=b2] rt1<|
 .is 43 (show (c.kind==3)=true from (by rw [hk];rfl))<|.run 6 [b5=b5,b2=b2,b2=b2] rt3<|
 .call (Qsm (Qaa f c.ino).text c.at_ c.many (by have:=Qe1 hp c.ino;omega) okc.at_ okc.many)<|
 .r 5<|.run 6 [b1=b1,b3=b3,b4=b4] rt3<|
 .fin (x:=.tup [.agg (fsyA f),.agg [aI ((Qdz (Qaa f c.ino).text c.at_ c.many).2),aI 0,aI 0,aI 0,aS ((Qdz (Qaa f c.ino).text c.at_ c.many).1),aN]]) (r:=.tup [.agg (fsyA (doF f c).1),.agg (repA (doF f c).2)]) [b3=b3,b4=b4] rt2 (by
  have h0:=(Qst (k:=1) q1 (bneF q2)).1
  rw [Zdt hk h0]
  exact Sub.tups ⟨sR,Qaw _ _ _ _ _,trivial⟩)) Tryz.func70 rfl (by kernel_rfl) (by kernel_rfl)
theorem Qp5 (f:Fsy) (c:Cal) (okf:OkF f) (okc:OkCal c) (hp:Qal f) (htx:c.text.length≤500000) (hk:c.kind=4):Qaj Tryz.prog 70 [.agg (fsyA f),.agg (calA c)] (.tup [.agg (fsyA (doF f c).1),.agg (repA (doF f c).2)]):=by
 have hl:=hp.1
 have hr:=Qad hp
 have hcn:=okc.name
 have hcn2:=okc.name2
 have hct:=okc.text
 exact Qac (F:=Tryz.f70) 400 (
 .new fun b1=>.new fun b2=>.new fun b3=>.new fun b4=>.run 3 [b1=b1,b2=b2] rt2<|
 .call (Qbd f c.ino (by omega))<|
 .r 3<|.new fun b5=>.run 2 [b5=b5] rt1<|
 .r 2<|.br 21 (!(Qar f c.ino)) (fun q1=>have q1:=notT q1;have p1:=booF q1;.ord [0,1,2,3]<|.run 1 [b1=b1] rt1<|
 .call (Qbi 6)<|
 .run 2 [b3=b3,b4=b4] rt2<|
 .fin (x:=.tup [.agg (fsyA f),.agg [aI ((errR 6).e),aI ((errR 6).a),aI ((errR 6).b),aI ((errR 6).n),aS ((errR 6).text),.sl 1 false ((errR 6).names.map txA)]]) (r:=.tup [.agg (fsyA (doF f c).1),.agg (repA (doF f c).2)]) [b3=b3,b4=b4] rt2 (by
  rw [Qtx hk (Qzx q1).1 (by decide)]
  exact sR))
 <| fun q1=>have q1:=notF q1;have p1:=booT q1;.run 3 [b2=b2] rt1<|
 .is 26 (show (c.kind==13)=false from (by rw [hk];rfl))<|.run 3 [b5=b5] rt1<|
 .br 38 (((Qaa f c.ino).kind) != 1) (fun q2=>have p2:=bneT q2;.ord [0,1,2,3]<|.run 1 [b1=b1] rt1<|
 .call (Qbi 14)<|
 .run 2 [b3=b3,b4=b4] rt2<|
 .fin (x:=.tup [.agg (fsyA f),.agg [aI ((errR 14).e),aI ((errR 14).a),aI ((errR 14).b),aI ((errR 14).n),aS ((errR 14).text),.sl 1 false ((errR 14).names.map txA)]]) (r:=.tup [.agg (fsyA (doF f c).1),.agg (repA (doF f c).2)]) [b3=b3,b4=b4] rt2 (by
  rw [Qtx hk (Qqf (k:=1) q1 (bneT q2)).1 (by decide)]
  exact sR))
 <| fun q2=>have p2:=bneF q2;.run 3 [b2=b2] rt1<|
 .is 43 (show (c.kind==3)=false from (by rw [hk];rfl))<|.r 1<|.new fun b6=>.run 1 [b6=b6] rt1<|
 .run 4 [b5=b5,b2=b2] rt2<|
 .call (Qng (Qaa f c.ino).text c.many (by have:=Qe1 hp c.ino;omega) okc.many)<|
 .r 5<|.run 3 [b2=b2] rt1<|
 .is 69 (show (c.kind==4)=true from (by rw [hk];rfl))<|.run 6 [b5=b5,b2=b2,b2=b2] rt3<|
 .call (Qp9 (Qaa f c.ino).text c.at_ c.text (by have:=Qe1 hp c.ino;omega) okc.at_ htx)<|
 .r 5<|.run 5 [b2=b2,b6=b6] rt2<|
 .r 2<|.br 85 (((Qat (Qaa f c.ino).text c.at_ c.text).2) != 0) (fun q3=>have p3:=bneT q3;.ord [0,1,2,3,4]<|.run 2 [b1=b1] rt1<|
 .call (Qbi ((Qat (Qaa f c.ino).text c.at_ c.text).2))<|
 .run 2 [b3=b3,b4=b4] rt2<|
 .fin (x:=.tup [.agg (fsyA f),.agg [aI ((errR ((Qat (Qaa f c.ino).text c.at_ c.text).2)).e),aI ((errR ((Qat (Qaa f c.ino).text c.at_ c.text).2)).a),aI ((errR ((Qat (Qaa f c.ino).text c.at_ c.text).2)).b),aI ((errR ((Qat (Qaa f c.ino).text c.at_ c.text).2)).n),aS ((errR ((Qat (Qaa f c.ino).text c.at_ c.text).2)).text),.sl 1 false ((errR ((Qat (Qaa f c.ino).text c.at_ c.text).2)).names.map txA)]]) (r:=.tup [.agg (fsyA (doF f c).1),.agg (repA (doF f c).2)]) [b3=b3,b4=b4] rt2 (by
  have h0:=(Qst (k:=1) q1 (bneF q2)).1
  rw [dono (by rw [Qpr hk h0];try rfl) (bneT q3)]
  exact sR))
 <| fun q3=>have p3:=bneF q3;.run 3 [b5=b5] rt1<|
 let J1:Jn (Unit):=⟨fun j1=>⟨[(4,.ptr 4 b3 0),(5,.ptr 5 b4 0)],[(4,.box b3 28 [.sl 5 false ((putF f (Qbg (Qaa f c.ino) (Qat (Qaa f c.ino).text c.at_ c.text).1)).l.map nodA),aI ((putF f (Qbg (Qaa f c.ino) (Qat (Qaa f c.ino).text c.at_ c.text).1)).next)]),(5,.box b4 45 [aI 0,aI ((c.text).length:Int),aI 0,aI 0,aS ([]),aN])]⟩,fun _=>True⟩
 .cut J1 (.pick [0,1]<|.run 2 [b1=b1,b5=b5] rt2<|
 .fork<|.alt (.callS (args0:=[.agg (fsyA f),.agg [aI ((Qaa f c.ino).ino),aI ((Qaa f c.ino).kind),aI ((Qaa f c.ino).links),aS ((Qat (Qaa f c.ino).text c.at_ c.text).1),.sl 2 false ((Qaa f c.ino).l.map entA)]]) (args:=[.agg (fsyA f),.agg [aI ((Qbg (Qaa f c.ino) (Qat (Qaa f c.ino).text c.at_ c.text).1).ino),aI ((Qbg (Qaa f c.ino) (Qat (Qaa f c.ino).text c.at_ c.text).1).kind),aI ((Qbg (Qaa f c.ino) (Qat (Qaa f c.ino).text c.at_ c.text).1).links),aS ((Qbg (Qaa f c.ino) (Qat (Qaa f c.ino).text c.at_ c.text).1).text),.sl 2 false ((Qbg (Qaa f c.ino) (Qat (Qaa f c.ino).text c.at_ c.text).1).l.map entA)]]) sr2 (Qdi f (Qbg (Qaa f c.ino) (Qat (Qaa f c.ino).text c.at_ c.text).1) (Qb4 okf hp c.ino) (by omega) hr)<|
 .fork<|.alt (.run 1 [b6=b6] rt1<|
 .pick [4,5]<|.run 2 [b3=b3,b4=b4] rt2<|
 .join J1 () trivial ⟨[(4,.ptr 4 b3 0),(5,.ptr 5 b4 0)],[(4,.box b3 28 [.sl 5 false ((putF f (Qbg (Qaa f c.ino) (Qat (Qaa f c.ino).text c.at_ c.text).1)).l.map nodA),aI ((putF f (Qbg (Qaa f c.ino) (Qat (Qaa f c.ino).text c.at_ c.text).1)).next)]),(5,.box b4 45 [aI 0,aI ((c.text).length:Int),aI 0,aI 0,aS ([]),aN])]⟩ sr2 ⟨⟨_,rfl,SubB.refl _⟩,⟨_,rfl,SubB.refl _⟩,trivial⟩)
 <| .run 1 [b3=b3] rt1<|
 .pick [3,5]<|.run 2 [b6=b6,b4=b4] rt2<|
 .join J1 () trivial ⟨[(4,.ptr 4 b3 0),(5,.ptr 5 b4 0)],[(4,.box b3 28 [.sl 5 false ((putF f (Qbg (Qaa f c.ino) (Qat (Qaa f c.ino).text c.at_ c.text).1)).l.map nodA),aI ((putF f (Qbg (Qaa f c.ino) (Qat (Qaa f c.ino).text c.at_ c.text).1)).next)]),(5,.box b4 45 [aI 0,aI ((c.text).length:Int),aI 0,aI 0,aS ([]),aN])]⟩ sr2 ⟨⟨_,rfl,SubB.refl _⟩,⟨_,rfl,SubB.refl _⟩,trivial⟩)
 <| .run 1 [b6=b6] rt1<|
 .pick [2,4,5]<|.callS (args0:=[.agg (fsyA f),.agg [aI ((Qaa f c.ino).ino),aI ((Qaa f c.ino).kind),aI ((Qaa f c.ino).links),aS ((Qat (Qaa f c.ino).text c.at_ c.text).1),.sl 2 false ((Qaa f c.ino).l.map entA)]]) (args:=[.agg (fsyA f),.agg [aI ((Qbg (Qaa f c.ino) (Qat (Qaa f c.ino).text c.at_ c.text).1).ino),aI ((Qbg (Qaa f c.ino) (Qat (Qaa f c.ino).text c.at_ c.text).1).kind),aI ((Qbg (Qaa f c.ino) (Qat (Qaa f c.ino).text c.at_ c.text).1).links),aS ((Qbg (Qaa f c.ino) (Qat (Qaa f c.ino).text c.at_ c.text).1).text),.sl 2 false ((Qbg (Qaa f c.ino) (Qat (Qaa f c.ino).text c.at_ c.text).1).l.map entA)]]) sr2 (Qdi f (Qbg (Qaa f c.ino) (Qat (Qaa f c.ino).text c.at_ c.text).1) (Qb4 okf hp c.ino) (by omega) hr)<|
 .run 2 [b3=b3,b4=b4] rt2<|
 .join J1 () trivial ⟨[(4,.ptr 4 b3 0),(5,.ptr 5 b4 0)],[(4,.box b3 28 [.sl 5 false ((putF f (Qbg (Qaa f c.ino) (Qat (Qaa f c.ino).text c.at_ c.text).1)).l.map nodA),aI ((putF f (Qbg (Qaa f c.ino) (Qat (Qaa f c.ino).text c.at_ c.text).1)).next)]),(5,.box b4 45 [aI 0,aI ((c.text).length:Int),aI 0,aI 0,aS ([]),aN])]⟩ sr2 ⟨⟨_,rfl,SubB.refl _⟩,⟨_,rfl,SubB.refl _⟩,trivial⟩)
 <| fun _ _=>.fin (x:=.tup [.agg [.sl 5 false ((putF f (Qbg (Qaa f c.ino) (Qat (Qaa f c.ino).text c.at_ c.text).1)).l.map nodA),aI ((putF f (Qbg (Qaa f c.ino) (Qat (Qaa f c.ino).text c.at_ c.text).1)).next)],.agg [aI 0,aI ((c.text).length:Int),aI 0,aI 0,aS ([]),aN]]) (r:=.tup [.agg (fsyA (doF f c).1),.agg (repA (doF f c).2)]) [b3=b3,b4=b4] rt2 (by
  have h0:=(Qst (k:=1) q1 (bneF q2)).1
  rw [Qbq (Qpr hk h0) (bneF q3)]
  have he0:=bneF q3
  refine Sub.tups ⟨sR,?_,trivial⟩
  show Sub _ (.agg (repA ⟨_,_,_,_,_,_⟩))
  first | (rw [he0];exact Qaw _ _ _ _ _) | (show Sub _ (.agg (repA (errR _)));rw [he0];exact Qaw _ _ _ _ _))) Tryz.func70 rfl (by kernel_rfl) (by kernel_rfl)
theorem Qp4 (f:Fsy) (c:Cal) (okf:OkF f) (okc:OkCal c) (hp:Qal f) (htx:c.text.length≤500000) (hk:c.kind=5):Qaj Tryz.prog 70 [.agg (fsyA f),.agg (calA c)] (.tup [.agg (fsyA (doF f c).1),.agg (repA (doF f c).2)]):=by
 have hl:=hp.1
 have hr:=Qad hp
 have hcn:=okc.name
 have hcn2:=okc.name2
 have hct:=okc.text
 exact Qac (F:=Tryz.f70) 400 (
 .new fun b1=>.new fun b2=>.new fun b3=>.new fun b4=>.run 3 [b1=b1,b2=b2] rt2<|
 .call (Qbd f c.ino (by omega))<|
 .r 3<|.new fun b5=>.run 2 [b5=b5] rt1<|
 .r 2<|.br 21 (!(Qar f c.ino)) (fun q1=>have q1:=notT q1;have p1:=booF q1;.ord [0,1,2,3]<|.run 1 [b1=b1] rt1<|
 .call (Qbi 6)<|
 .run 2 [b3=b3,b4=b4] rt2<|
 .fin (x:=.tup [.agg (fsyA f),.agg [aI ((errR 6).e),aI ((errR 6).a),aI ((errR 6).b),aI ((errR 6).n),aS ((errR 6).text),.sl 1 false ((errR 6).names.map txA)]]) (r:=.tup [.agg (fsyA (doF f c).1),.agg (repA (doF f c).2)]) [b3=b3,b4=b4] rt2 (by
  rw [Zg6 hk (Qzx q1).1 (by decide)]
  exact sR))
 <| fun q1=>have q1:=notF q1;have p1:=booT q1;.run 3 [b2=b2] rt1<|
 .is 26 (show (c.kind==13)=false from (by rw [hk];rfl))<|.run 3 [b5=b5] rt1<|
 .br 38 (((Qaa f c.ino).kind) != 1) (fun q2=>have p2:=bneT q2;.ord [0,1,2,3]<|.run 1 [b1=b1] rt1<|
 .call (Qbi 14)<|
 .run 2 [b3=b3,b4=b4] rt2<|
 .fin (x:=.tup [.agg (fsyA f),.agg [aI ((errR 14).e),aI ((errR 14).a),aI ((errR 14).b),aI ((errR 14).n),aS ((errR 14).text),.sl 1 false ((errR 14).names.map txA)]]) (r:=.tup [.agg (fsyA (doF f c).1),.agg (repA (doF f c).2)]) [b3=b3,b4=b4] rt2 (by
  rw [Zg6 hk (Qqf (k:=1) q1 (bneT q2)).1 (by decide)]
  exact sR))
 <| fun q2=>have p2:=bneF q2;.run 3 [b2=b2] rt1<|
 .is 43 (show (c.kind==3)=false from (by rw [hk];rfl))<|.r 1<|.new fun b6=>.run 1 [b6=b6] rt1<|
 .run 4 [b5=b5,b2=b2] rt2<|
 .call (Qng (Qaa f c.ino).text c.many (by have:=Qe1 hp c.ino;omega) okc.many)<|
 .r 5<|.run 3 [b2=b2] rt1<|
 .is 69 (show (c.kind==4)=false from (by rw [hk];rfl))<|.r 2<|.br 85 (((cutD (Qaa f c.ino).text c.many).2) != 0) (fun q3=>have p3:=bneT q3;.ord [0,1,2,3,4]<|.run 2 [b1=b1] rt1<|
 .call (Qbi ((cutD (Qaa f c.ino).text c.many).2))<|
 .run 2 [b3=b3,b4=b4] rt2<|
 .fin (x:=.tup [.agg (fsyA f),.agg [aI ((errR ((cutD (Qaa f c.ino).text c.many).2)).e),aI ((errR ((cutD (Qaa f c.ino).text c.many).2)).a),aI ((errR ((cutD (Qaa f c.ino).text c.many).2)).b),aI ((errR ((cutD (Qaa f c.ino).text c.many).2)).n),aS ((errR ((cutD (Qaa f c.ino).text c.many).2)).text),.sl 1 false ((errR ((cutD (Qaa f c.ino).text c.many).2)).names.map txA)]]) (r:=.tup [.agg (fsyA (doF f c).1),.agg (repA (doF f c).2)]) [b3=b3,b4=b4] rt2 (by
  have h0:=(Qst (k:=1) q1 (bneF q2)).1
  rw [dono (by rw [Zb2 hk h0];try rfl) (bneT q3)]
  exact sR))
 <| fun q3=>have p3:=bneF q3;.run 3 [b5=b5] rt1<|
 let J1:Jn (Unit):=⟨fun j1=>⟨[(4,.ptr 4 b3 0),(5,.ptr 5 b4 0)],[(4,.box b3 28 [.sl 5 false ((putF f (Qbg (Qaa f c.ino) (cutD (Qaa f c.ino).text c.many).1)).l.map nodA),aI ((putF f (Qbg (Qaa f c.ino) (cutD (Qaa f c.ino).text c.many).1)).next)]),(5,.box b4 45 [aI 0,aI 0,aI 0,aI 0,aS ([]),aN])]⟩,fun _=>True⟩
 .cut J1 (.pick [0,1]<|.run 2 [b1=b1,b5=b5] rt2<|
 .fork<|.alt (.callS (args0:=[.agg (fsyA f),.agg [aI ((Qaa f c.ino).ino),aI ((Qaa f c.ino).kind),aI ((Qaa f c.ino).links),aS ((cutD (Qaa f c.ino).text c.many).1),.sl 2 false ((Qaa f c.ino).l.map entA)]]) (args:=[.agg (fsyA f),.agg [aI ((Qbg (Qaa f c.ino) (cutD (Qaa f c.ino).text c.many).1).ino),aI ((Qbg (Qaa f c.ino) (cutD (Qaa f c.ino).text c.many).1).kind),aI ((Qbg (Qaa f c.ino) (cutD (Qaa f c.ino).text c.many).1).links),aS ((Qbg (Qaa f c.ino) (cutD (Qaa f c.ino).text c.many).1).text),.sl 2 false ((Qbg (Qaa f c.ino) (cutD (Qaa f c.ino).text c.many).1).l.map entA)]]) sr2 (Qdi f (Qbg (Qaa f c.ino) (cutD (Qaa f c.ino).text c.many).1) (Qb4 okf hp c.ino) (by omega) hr)<|
 .fork<|.alt (.run 1 [b6=b6] rt1<|
 .pick [4,5]<|.run 2 [b3=b3,b4=b4] rt2<|
 .join J1 () trivial ⟨[(4,.ptr 4 b3 0),(5,.ptr 5 b4 0)],[(4,.box b3 28 [.sl 5 false ((putF f (Qbg (Qaa f c.ino) (cutD (Qaa f c.ino).text c.many).1)).l.map nodA),aI ((putF f (Qbg (Qaa f c.ino) (cutD (Qaa f c.ino).text c.many).1)).next)]),(5,.box b4 45 [aI 0,aI 0,aI 0,aI 0,aS ([]),aN])]⟩ sr2 ⟨⟨_,rfl,SubB.refl _⟩,⟨_,rfl,SubB.refl _⟩,trivial⟩)
 <| .run 1 [b3=b3] rt1<|
 .pick [3,5]<|.run 2 [b6=b6,b4=b4] rt2<|
 .join J1 () trivial ⟨[(4,.ptr 4 b3 0),(5,.ptr 5 b4 0)],[(4,.box b3 28 [.sl 5 false ((putF f (Qbg (Qaa f c.ino) (cutD (Qaa f c.ino).text c.many).1)).l.map nodA),aI ((putF f (Qbg (Qaa f c.ino) (cutD (Qaa f c.ino).text c.many).1)).next)]),(5,.box b4 45 [aI 0,aI 0,aI 0,aI 0,aS ([]),aN])]⟩ sr2 ⟨⟨_,rfl,SubB.refl _⟩,⟨_,rfl,SubB.refl _⟩,trivial⟩)
 <| .run 1 [b6=b6] rt1<|
 .pick [2,4,5]<|.callS (args0:=[.agg (fsyA f),.agg [aI ((Qaa f c.ino).ino),aI ((Qaa f c.ino).kind),aI ((Qaa f c.ino).links),aS ((cutD (Qaa f c.ino).text c.many).1),.sl 2 false ((Qaa f c.ino).l.map entA)]]) (args:=[.agg (fsyA f),.agg [aI ((Qbg (Qaa f c.ino) (cutD (Qaa f c.ino).text c.many).1).ino),aI ((Qbg (Qaa f c.ino) (cutD (Qaa f c.ino).text c.many).1).kind),aI ((Qbg (Qaa f c.ino) (cutD (Qaa f c.ino).text c.many).1).links),aS ((Qbg (Qaa f c.ino) (cutD (Qaa f c.ino).text c.many).1).text),.sl 2 false ((Qbg (Qaa f c.ino) (cutD (Qaa f c.ino).text c.many).1).l.map entA)]]) sr2 (Qdi f (Qbg (Qaa f c.ino) (cutD (Qaa f c.ino).text c.many).1) (Qb4 okf hp c.ino) (by omega) hr)<|
 .run 2 [b3=b3,b4=b4] rt2<|
 .join J1 () trivial ⟨[(4,.ptr 4 b3 0),(5,.ptr 5 b4 0)],[(4,.box b3 28 [.sl 5 false ((putF f (Qbg (Qaa f c.ino) (cutD (Qaa f c.ino).text c.many).1)).l.map nodA),aI ((putF f (Qbg (Qaa f c.ino) (cutD (Qaa f c.ino).text c.many).1)).next)]),(5,.box b4 45 [aI 0,aI 0,aI 0,aI 0,aS ([]),aN])]⟩ sr2 ⟨⟨_,rfl,SubB.refl _⟩,⟨_,rfl,SubB.refl _⟩,trivial⟩)
 <| fun _ _=>.fin (x:=.tup [.agg [.sl 5 false ((putF f (Qbg (Qaa f c.ino) (cutD (Qaa f c.ino).text c.many).1)).l.map nodA),aI ((putF f (Qbg (Qaa f c.ino) (cutD (Qaa f c.ino).text c.many).1)).next)],.agg [aI 0,aI 0,aI 0,aI 0,aS ([]),aN]]) (r:=.tup [.agg (fsyA (doF f c).1),.agg (repA (doF f c).2)]) [b3=b3,b4=b4] rt2 (by
  have h0:=(Qst (k:=1) q1 (bneF q2)).1
  rw [Qbq (Zb2 hk h0) (bneF q3)]
  have he0:=bneF q3
  refine Sub.tups ⟨sR,?_,trivial⟩
  show Sub _ (.agg (repA ⟨_,_,_,_,_,_⟩))
  first | (rw [he0];exact Qaw _ _ _ _ _) | (show Sub _ (.agg (repA (errR _)));rw [he0];exact Qaw _ _ _ _ _))) Tryz.func70 rfl (by kernel_rfl) (by kernel_rfl)
theorem Qoe (f:Fsy) (c:Cal) (okf:OkF f) (okc:OkCal c) (hp:Qal f) (htx:c.text.length≤500000) (hk:c.kind=13):Qaj Tryz.prog 70 [.agg (fsyA f),.agg (calA c)] (.tup [.agg (fsyA (doF f c).1),.agg (repA (doF f c).2)]):=by
 have hl:=hp.1
 have hr:=Qad hp
 have hcn:=okc.name
 have hcn2:=okc.name2
 have hct:=okc.text
 exact Qac (F:=Tryz.f70) 400 (
 .new fun b1=>.new fun b2=>.new fun b3=>.new fun b4=>.run 3 [b1=b1,b2=b2] rt2<|
 .call (Qbd f c.ino (by omega))<|
 .r 3<|.new fun b5=>.run 2 [b5=b5] rt1<|
 .r 2<|.br 21 (!(Qar f c.ino)) (fun q1=>have q1:=notT q1;have p1:=booF q1;.ord [0,1,2,3]<|.run 1 [b1=b1] rt1<|
 .call (Qbi 6)<|
 .run 2 [b3=b3,b4=b4] rt2<|
 .fin (x:=.tup [.agg (fsyA f),.agg [aI ((errR 6).e),aI ((errR 6).a),aI ((errR 6).b),aI ((errR 6).n),aS ((errR 6).text),.sl 1 false ((errR 6).names.map txA)]]) (r:=.tup [.agg (fsyA (doF f c).1),.agg (repA (doF f c).2)]) [b3=b3,b4=b4] rt2 (by
  rw [Zae hk (Qzx q1).1 (by decide)]
  exact sR))
 <| fun q1=>have q1:=notF q1;have p1:=booT q1;.run 3 [b2=b2] rt1<|
 .is 26 (show (c.kind==13)=true from (by rw [hk];rfl))<|.run 3 [b5=b5] rt1<|
 .br 29 (((Qaa f c.ino).kind) != 3) (fun q2=>have p2:=bneT q2;.ord [0,1,2,3]<|.run 1 [b1=b1] rt1<|
 .call (Qbi 14)<|
 .run 2 [b3=b3,b4=b4] rt2<|
 .fin (x:=.tup [.agg (fsyA f),.agg [aI ((errR 14).e),aI ((errR 14).a),aI ((errR 14).b),aI ((errR 14).n),aS ((errR 14).text),.sl 1 false ((errR 14).names.map txA)]]) (r:=.tup [.agg (fsyA (doF f c).1),.agg (repA (doF f c).2)]) [b3=b3,b4=b4] rt2 (by
  rw [Zae hk (Qqf (k:=3) q1 (bneT q2)).1 (by decide)]
  exact sR))
 <| fun q2=>have p2:=bneF q2;let J1:Jn (Unit):=⟨fun j1=>⟨[(2,.ptr 2 b1 0),(3,.ptr 3 b2 0),(4,.ptr 4 b3 0),(5,.ptr 5 b4 0),(6,.ptr 6 b5 0)],[(2,.box b1 28 (fsyA f)),(3,.box b2 33 (calA c)),(4,.box b3 28 (fsyA f)),(5,.box b4 45 [aI 0,aI 0,aI 0,aI 0,aS ((Qaa f c.ino).text),aN]),(6,.box b5 84 [aI ((Qaa f c.ino).ino),aI ((Qaa f c.ino).kind),aI ((Qaa f c.ino).links),aS ((Qaa f c.ino).text),.sl 2 false ((Qaa f c.ino).l.map entA)])]⟩,fun _=>True⟩
 .cut J1 (.pick [0,1]<|.run 2 [b1=b1] rt1<|
 .fork<|.alt (.run 1 [b5=b5] rt1<|
 .pick [3,4,5]<|.run 3 [b3=b3,b4=b4] rt2<|
 .join J1 () trivial ⟨[(2,.ptr 2 b1 0),(3,.ptr 3 b2 0),(4,.ptr 4 b3 0),(5,.ptr 5 b4 0),(6,.ptr 6 b5 0)],[(2,.box b1 28 (fsyA f)),(3,.box b2 33 (calA c)),(4,.box b3 28 (fsyA f)),(5,.box b4 45 [aI 0,aI 0,aI 0,aI 0,aS ((Qaa f c.ino).text),aN]),(6,.box b5 84 [aI ((Qaa f c.ino).ino),aI ((Qaa f c.ino).kind),aI ((Qaa f c.ino).links),aS ((Qaa f c.ino).text),.sl 2 false ((Qaa f c.ino).l.map entA)])]⟩ sr5 ⟨⟨_,rfl,SubB.refl _⟩,⟨_,rfl,SubB.refl _⟩,⟨_,rfl,SubB.refl _⟩,⟨_,rfl,SubB.refl _⟩,⟨_,rfl,SubB.refl _⟩,trivial⟩)
 <| .run 1 [b3=b3] rt1<|
 .pick [2,3,5]<|.run 3 [b5=b5,b4=b4] rt2<|
 .join J1 () trivial ⟨[(2,.ptr 2 b1 0),(3,.ptr 3 b2 0),(4,.ptr 4 b3 0),(5,.ptr 5 b4 0),(6,.ptr 6 b5 0)],[(2,.box b1 28 (fsyA f)),(3,.box b2 33 (calA c)),(4,.box b3 28 (fsyA f)),(5,.box b4 45 [aI 0,aI 0,aI 0,aI 0,aS ((Qaa f c.ino).text),aN]),(6,.box b5 84 [aI ((Qaa f c.ino).ino),aI ((Qaa f c.ino).kind),aI ((Qaa f c.ino).links),aS ((Qaa f c.ino).text),.sl 2 false ((Qaa f c.ino).l.map entA)])]⟩ sr5 ⟨⟨_,rfl,SubB.refl _⟩,⟨_,rfl,SubB.refl _⟩,⟨_,rfl,SubB.refl _⟩,⟨_,rfl,SubB.refl _⟩,⟨_,rfl,SubB.refl _⟩,trivial⟩)
 <| fun _ _=>.fin (x:=.tup [.agg (fsyA f),.agg [aI 0,aI 0,aI 0,aI 0,aS ((Qaa f c.ino).text),aN]]) (r:=.tup [.agg (fsyA (doF f c).1),.agg (repA (doF f c).2)]) [b3=b3,b4=b4] rt2 (by
  have h0:=(Qst (k:=3) q1 (bneF q2)).1
  rw [Zeg hk h0]
  exact Sub.tups ⟨sR,Qaw _ _ _ _ _,trivial⟩)) Tryz.func70 rfl (by kernel_rfl) (by kernel_rfl)
end Go.Proofs.YtahlldgocpabjaaGreat
