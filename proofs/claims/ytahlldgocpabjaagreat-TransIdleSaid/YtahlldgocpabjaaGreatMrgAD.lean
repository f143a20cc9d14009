import Derived.Test.YtahlldgocpabjaaGreatMrgAB
import Derived.Test.YtahlldgocpabjaaGreatMrgAC
import Derived.Test.YtahlldgocpabjaaGreatMrgZ
set_option maxRecDepth 100000
set_option maxHeartbeats 8000000
set_option linter.unusedVariables false
set_option linter.unusedSimpArgs false
namespace Go.Proofs.YtahlldgocpabjaaGreat
open Go Go.RowKit Copyhold Go.Proofs.Tryz
theorem dono {f:Fsy} {c:Cal} {e:Int} (h:(Qb1 f c).2.e=e) (he:¬ e=0):doF f c=(f,errR e):=by
 have:=Qor (f:=f) (c:=c) rfl (by rw [h];exact he);rw [this,h]
theorem Zhy {s:Txt} {a b:Int} (h:¬ (Qer s a b).2=0):(Qer s a b).1=[]:=by
 unfold Qer at h ⊢
 split
 ·rename_i h1;rw [if_pos h1] at h;exact absurd rfl h
 ·rfl
theorem Zcu {f:Fsy} {c:Cal} {e:Int} (hk:c.kind=3) (h:ofE f c.ino 1=e) (he:¬ e=0):doF f c=(f,errR e):=dono (by rw [Qto hk];unfold Qjy;rw [h,if_neg he];rfl) he
theorem Zhx {f:Fsy} {c:Cal} (hk:c.kind=3) (h:ofE f c.ino 1=0):doF f c=(f,⟨(Qer (Qaa f c.ino).text c.at_ c.many).2,0,0,0,(Qer (Qaa f c.ino).text c.at_ c.many).1,[]⟩):=by
 have hd:Qb1 f c=(f,⟨(Qer (Qaa f c.ino).text c.at_ c.many).2,0,0,0,(Qer (Qaa f c.ino).text c.at_ c.many).1,[]⟩):=by rw [Qto hk];unfold Qjy;rw [if_pos h]
 by_cases he:(Qer (Qaa f c.ino).text c.at_ c.many).2=0
 ·exact Qfc hd he
 ·rw [Qor hd he,Zhy he];rfl
theorem Qwv {f:Fsy} {c:Cal} {e:Int} (hk:c.kind=4) (h:ofE f c.ino 1=e) (he:¬ e=0):doF f c=(f,errR e):=dono (by rw [Qym hk];unfold Qf3;rw [h,if_neg he];rfl) he
theorem Qry {f:Fsy} {c:Cal} (hk:c.kind=4) (h:ofE f c.ino 1=0):Qb1 f c=(putF f (Qep (Qaa f c.ino) (Qbe (Qaa f c.ino).text c.at_ c.text).1),⟨(Qbe (Qaa f c.ino).text c.at_ c.text).2,(c.text.length:Int),0,0,[],[]⟩):=by rw [Qym hk];unfold Qf3;rw [if_pos h]
theorem Zk7 {f:Fsy} {c:Cal} {e:Int} (hk:c.kind=5) (h:ofE f c.ino 1=e) (he:¬ e=0):doF f c=(f,errR e):=dono (by rw [Qyl hk];unfold cutO;rw [h,if_neg he];rfl) he
theorem Zf4 {f:Fsy} {c:Cal} (hk:c.kind=5) (h:ofE f c.ino 1=0):Qb1 f c=(putF f (Qep (Qaa f c.ino) (cutD (Qaa f c.ino).text c.many).1),errR (cutD (Qaa f c.ino).text c.many).2):=by rw [Qyl hk];unfold cutO;rw [if_pos h]
theorem Zed {f:Fsy} {c:Cal} {e:Int} (hk:c.kind=13) (h:ofE f c.ino 3=e) (he:¬ e=0):doF f c=(f,errR e):=dono (by rw [Qn4 hk];exact h) he
theorem Zil {f:Fsy} {c:Cal} (hk:c.kind=13) (h:ofE f c.ino 3=0):doF f c=(f,⟨0,0,0,0,(Qaa f c.ino).text,[]⟩):=by
 have hd:Qb1 f c=(f,⟨0,0,0,0,(Qaa f c.ino).text,[]⟩):=by
  rw [Qn4 hk];unfold Qu6;rw [h,Qxi h]
 exact Qfc hd rfl
theorem Zgu {f:Fsy} {c:Cal} {n:Nod} (hd:Qb1 f c=addO f c n) {e:Int} (h:Qat f c.ino c.name n=e) (he:¬ e=0):doF f c=(f,errR e):=dono (by rw [hd];exact h) he
theorem Qws {f:Fsy} {c:Cal} {n:Nod} (hd:Qb1 f c=addO f c n) (h:Qat f c.ino c.name n=0):doF f c=(addF f c.ino c.name (addN f n),⟨0,f.next,0,0,[],[]⟩):=by
 have h2:addO f c n=(addF f c.ino c.name (addN f n),⟨0,f.next,0,0,[],[]⟩):=by unfold addO;rw [h];rfl
 exact Qfc (hd.trans h2) rfl
theorem Zlj {f:Fsy} {c:Cal} (hk:c.kind=8) (h:(c.text.length:Int)>4096):doF f c=(f,errR 5):=dono (by rw [Qyj hk];unfold symO;rw [if_pos h];rfl) (by decide)
theorem Zbw {f:Fsy} {c:Cal} (hk:c.kind=8) (h:¬ (c.text.length:Int)>4096):Qb1 f c=addO f c ⟨0,3,0,c.text,[]⟩:=by rw [Qyj hk];unfold symO;rw [if_neg h]
theorem Qbn (e:Int):Qah prog 68 [aI e] (.agg (repA (errR e))):=by
 exact Qac func68 (let R:AV:=.agg (repA (errR e));
 .new fun b1=>.u 3 [b1]<|
 .f R [b1] (.agg [aI e,aI 0,aI 0,aI 0,aS ([]),aN]) (by exact Sub.aggs ⟨sR,sR,sR,sR,sR,Sub.nil _ _,trivial⟩))
theorem Qsj (f:Fsy) (c:Cal) (okf:OkF f) (okc:OkCal c) (hp:Qar f) (htx:c.text.length≤500000) (hk:c.kind=3):Qah prog 70 [.agg (fsyA f),.agg (calA c)] (.tup [.agg (fsyA (doF f c).1),.agg (repA (doF f c).2)]):=by
 have hl:=hp.1;have hr:=Qaf hp;have hcn:=okc.name;have hcn2:=okc.name2;have hct:=okc.text;exact Qac func70 (
 .new fun b1=>.new fun b2=>.new fun b3=>.new fun b4=>.u 3 [b1,b2]<|
 .call (Qa1 f c.ino (by omega))<|
 .r 3<|.new fun b5=>.u 2 [b5]<|
 .r 2<|.br 21 (!(Qau f c.ino)) (fun q1=>have q1:=notT q1;have p1:=booF q1;.ord [0,1,2,3]<|.u 1 [b1]<|
 .call (Qbn 6)<|
 .u 2 [b3,b4]<|
 .f (.tup [.agg (fsyA (doF f c).1),.agg (repA (doF f c).2)]) [b3,b4] (.tup [.agg (fsyA f),.agg [aI ((errR 6).e),aI ((errR 6).a),aI ((errR 6).b),aI ((errR 6).n),aS ((errR 6).text),.sl 1 false ((errR 6).names.map txA)]]) (by
  rw [Zcu hk (Zdq q1).1 (by decide)];exact sR))
 <| fun q1=>have q1:=notF q1;have p1:=booT q1;.u 3 [b2]<|
 .is 26 (show (c.kind==13)=false from (by rw [hk];rfl))<|.u 3 [b5]<|
 .br 38 (((Qaa f c.ino).kind) != 1) (fun q2=>have p2:=bneT q2;.ord [0,1,2,3]<|.u 1 [b1]<|
 .call (Qbn 14)<|
 .u 2 [b3,b4]<|
 .f (.tup [.agg (fsyA (doF f c).1),.agg (repA (doF f c).2)]) [b3,b4] (.tup [.agg (fsyA f),.agg [aI ((errR 14).e),aI ((errR 14).a),aI ((errR 14).b),aI ((errR 14).n),aS ((errR 14).text),.sl 1 false ((errR 14).names.map txA)]]) (by
  rw [Zcu hk (Qsv (k:=1) q1 (bneT q2)).1 (by decide)];exact sR))
 <| fun q2=>have p2:=bneF q2;.u 3 [b2]<|
 .is 43 (show (c.kind==3)=true from (by rw [hk];rfl))<|.u 6 [b5,b2,b2]<|
 .call (Qvg (Qaa f c.ino).text c.at_ c.many (by have:=Qfv hp c.ino;omega) okc.at_ okc.many)<|
 .r 5<|.u 6 [b1,b3,b4]<|
 .f (.tup [.agg (fsyA (doF f c).1),.agg (repA (doF f c).2)]) [b3,b4] (.tup [.agg (fsyA f),.agg [aI ((Qer (Qaa f c.ino).text c.at_ c.many).2),aI 0,aI 0,aI 0,aS ((Qer (Qaa f c.ino).text c.at_ c.many).1),aN]]) (by
  have h0:=(Qvn (k:=1) q1 (bneF q2)).1;rw [Zhx hk h0];exact Sub.tups ⟨sR,Qbu _ _ _ _ _,trivial⟩))
theorem Qsi (f:Fsy) (c:Cal) (okf:OkF f) (okc:OkCal c) (hp:Qar f) (htx:c.text.length≤500000) (hk:c.kind=4):Qah prog 70 [.agg (fsyA f),.agg (calA c)] (.tup [.agg (fsyA (doF f c).1),.agg (repA (doF f c).2)]):=by
 have hl:=hp.1;have hr:=Qaf hp;have hcn:=okc.name;have hcn2:=okc.name2;have hct:=okc.text;exact Qac func70 (
 .new fun b1=>.new fun b2=>.new fun b3=>.new fun b4=>.u 3 [b1,b2]<|
 .call (Qa1 f c.ino (by omega))<|
 .r 3<|.new fun b5=>.u 2 [b5]<|
 .r 2<|.br 21 (!(Qau f c.ino)) (fun q1=>have q1:=notT q1;have p1:=booF q1;.ord [0,1,2,3]<|.u 1 [b1]<|
 .call (Qbn 6)<|
 .u 2 [b3,b4]<|
 .f (.tup [.agg (fsyA (doF f c).1),.agg (repA (doF f c).2)]) [b3,b4] (.tup [.agg (fsyA f),.agg [aI ((errR 6).e),aI ((errR 6).a),aI ((errR 6).b),aI ((errR 6).n),aS ((errR 6).text),.sl 1 false ((errR 6).names.map txA)]]) (by
  rw [Qwv hk (Zdq q1).1 (by decide)];exact sR))
 <| fun q1=>have q1:=notF q1;have p1:=booT q1;.u 3 [b2]<|
 .is 26 (show (c.kind==13)=false from (by rw [hk];rfl))<|.u 3 [b5]<|
 .br 38 (((Qaa f c.ino).kind) != 1) (fun q2=>have p2:=bneT q2;.ord [0,1,2,3]<|.u 1 [b1]<|
 .call (Qbn 14)<|
 .u 2 [b3,b4]<|
 .f (.tup [.agg (fsyA (doF f c).1),.agg (repA (doF f c).2)]) [b3,b4] (.tup [.agg (fsyA f),.agg [aI ((errR 14).e),aI ((errR 14).a),aI ((errR 14).b),aI ((errR 14).n),aS ((errR 14).text),.sl 1 false ((errR 14).names.map txA)]]) (by
  rw [Qwv hk (Qsv (k:=1) q1 (bneT q2)).1 (by decide)];exact sR))
 <| fun q2=>have p2:=bneF q2;.u 3 [b2]<|
 .is 43 (show (c.kind==3)=false from (by rw [hk];rfl))<|.r 1<|.new fun b6=>.u 1 [b6]<|
 .u 4 [b5,b2]<|
 .call (Qo8 (Qaa f c.ino).text c.many (by have:=Qfv hp c.ino;omega) okc.many)<|
 .r 5<|.u 3 [b2]<|
 .is 69 (show (c.kind==4)=true from (by rw [hk];rfl))<|.u 6 [b5,b2,b2]<|
 .call (Qso (Qaa f c.ino).text c.at_ c.text (by have:=Qfv hp c.ino;omega) okc.at_ htx)<|
 .r 5<|.u 5 [b2,b6]<|
 .r 2<|.br 85 (((Qbe (Qaa f c.ino).text c.at_ c.text).2) != 0) (fun q3=>have p3:=bneT q3;.ord [0,1,2,3,4]<|.u 2 [b1]<|
 .call (Qbn ((Qbe (Qaa f c.ino).text c.at_ c.text).2))<|
 .u 2 [b3,b4]<|
 .f (.tup [.agg (fsyA (doF f c).1),.agg (repA (doF f c).2)]) [b3,b4] (.tup [.agg (fsyA f),.agg [aI ((errR ((Qbe (Qaa f c.ino).text c.at_ c.text).2)).e),aI ((errR ((Qbe (Qaa f c.ino).text c.at_ c.text).2)).a),aI ((errR ((Qbe (Qaa f c.ino).text c.at_ c.text).2)).b),aI ((errR ((Qbe (Qaa f c.ino).text c.at_ c.text).2)).n),aS ((errR ((Qbe (Qaa f c.ino).text c.at_ c.text).2)).text),.sl 1 false ((errR ((Qbe (Qaa f c.ino).text c.at_ c.text).2)).names.map txA)]]) (by
  have h0:=(Qvn (k:=1) q1 (bneF q2)).1;rw [dono (by rw [Qry hk h0];try rfl) (bneT q3)];exact sR))
 <| fun q3=>have p3:=bneF q3;.u 3 [b5]<|
 let J1:Jn (Unit):=⟨fun j1=>⟨[(4,.ptr 4 b3 0),(5,.ptr 5 b4 0)],[(4,.box b3 28 [.sl 5 false ((putF f (Qep (Qaa f c.ino) (Qbe (Qaa f c.ino).text c.at_ c.text).1)).l.map nodA),aI ((putF f (Qep (Qaa f c.ino) (Qbe (Qaa f c.ino).text c.at_ c.text).1)).next)]),(5,.box b4 45 [aI 0,aI ((c.text).length:Int),aI 0,aI 0,aS ([]),aN])]⟩,fun _=>True⟩
 .cut J1 (.pick [0,1]<|.u 2 [b1,b5]<|
 .fork<|.alt (.cs (args0:=[.agg (fsyA f),.agg [aI ((Qaa f c.ino).ino),aI ((Qaa f c.ino).kind),aI ((Qaa f c.ino).links),aS ((Qbe (Qaa f c.ino).text c.at_ c.text).1),.sl 2 false ((Qaa f c.ino).l.map entA)]]) (Qdw f (Qep (Qaa f c.ino) (Qbe (Qaa f c.ino).text c.at_ c.text).1) (Qcb okf hp c.ino) (by omega) hr) sr2<|
 .fork<|.alt (.u 1 [b6]<|
 .pick [4,5]<|.u 2 [b3,b4]<|
 .jo J1 () [] [] sr2 bb2)
 <| .u 1 [b3]<|
 .pick [3,5]<|.u 2 [b6,b4]<|
 .jo J1 () [] [] sr2 bb2)
 <| .u 1 [b6]<|
 .pick [2,4,5]<|.cs (args0:=[.agg (fsyA f),.agg [aI ((Qaa f c.ino).ino),aI ((Qaa f c.ino).kind),aI ((Qaa f c.ino).links),aS ((Qbe (Qaa f c.ino).text c.at_ c.text).1),.sl 2 false ((Qaa f c.ino).l.map entA)]]) (Qdw f (Qep (Qaa f c.ino) (Qbe (Qaa f c.ino).text c.at_ c.text).1) (Qcb okf hp c.ino) (by omega) hr) sr2<|
 .u 2 [b3,b4]<|
 .jo J1 () [] [] sr2 bb2)
 <| fun _ _=>.f (.tup [.agg (fsyA (doF f c).1),.agg (repA (doF f c).2)]) [b3,b4] (.tup [.agg [.sl 5 false ((putF f (Qep (Qaa f c.ino) (Qbe (Qaa f c.ino).text c.at_ c.text).1)).l.map nodA),aI ((putF f (Qep (Qaa f c.ino) (Qbe (Qaa f c.ino).text c.at_ c.text).1)).next)],.agg [aI 0,aI ((c.text).length:Int),aI 0,aI 0,aS ([]),aN]]) (by
  have h0:=(Qvn (k:=1) q1 (bneF q2)).1;rw [Qfc (Qry hk h0) (bneF q3)];have he0:=bneF q3;refine Sub.tups ⟨sR,?_,trivial⟩;show Sub _ (.agg (repA ⟨_,_,_,_,_,_⟩))
  first | (rw [he0];exact Qbu _ _ _ _ _) | (show Sub _ (.agg (repA (errR _)));rw [he0];exact Qbu _ _ _ _ _)))
theorem Qsh (f:Fsy) (c:Cal) (okf:OkF f) (okc:OkCal c) (hp:Qar f) (htx:c.text.length≤500000) (hk:c.kind=5):Qah prog 70 [.agg (fsyA f),.agg (calA c)] (.tup [.agg (fsyA (doF f c).1),.agg (repA (doF f c).2)]):=by
 have hl:=hp.1;have hr:=Qaf hp;have hcn:=okc.name;have hcn2:=okc.name2;have hct:=okc.text;exact Qac func70 (
 .new fun b1=>.new fun b2=>.new fun b3=>.new fun b4=>.u 3 [b1,b2]<|
 .call (Qa1 f c.ino (by omega))<|
 .r 3<|.new fun b5=>.u 2 [b5]<|
 .r 2<|.br 21 (!(Qau f c.ino)) (fun q1=>have q1:=notT q1;have p1:=booF q1;.ord [0,1,2,3]<|.u 1 [b1]<|
 .call (Qbn 6)<|
 .u 2 [b3,b4]<|
 .f (.tup [.agg (fsyA (doF f c).1),.agg (repA (doF f c).2)]) [b3,b4] (.tup [.agg (fsyA f),.agg [aI ((errR 6).e),aI ((errR 6).a),aI ((errR 6).b),aI ((errR 6).n),aS ((errR 6).text),.sl 1 false ((errR 6).names.map txA)]]) (by
  rw [Zk7 hk (Zdq q1).1 (by decide)];exact sR))
 <| fun q1=>have q1:=notF q1;have p1:=booT q1;.u 3 [b2]<|
 .is 26 (show (c.kind==13)=false from (by rw [hk];rfl))<|.u 3 [b5]<|
 .br 38 (((Qaa f c.ino).kind) != 1) (fun q2=>have p2:=bneT q2;.ord [0,1,2,3]<|.u 1 [b1]<|
 .call (Qbn 14)<|
 .u 2 [b3,b4]<|
 .f (.tup [.agg (fsyA (doF f c).1),.agg (repA (doF f c).2)]) [b3,b4] (.tup [.agg (fsyA f),.agg [aI ((errR 14).e),aI ((errR 14).a),aI ((errR 14).b),aI ((errR 14).n),aS ((errR 14).text),.sl 1 false ((errR 14).names.map txA)]]) (by
  rw [Zk7 hk (Qsv (k:=1) q1 (bneT q2)).1 (by decide)];exact sR))
 <| fun q2=>have p2:=bneF q2;.u 3 [b2]<|
 .is 43 (show (c.kind==3)=false from (by rw [hk];rfl))<|.r 1<|.new fun b6=>.u 1 [b6]<|
 .u 4 [b5,b2]<|
 .call (Qo8 (Qaa f c.ino).text c.many (by have:=Qfv hp c.ino;omega) okc.many)<|
 .r 5<|.u 3 [b2]<|
 .is 69 (show (c.kind==4)=false from (by rw [hk];rfl))<|.r 2<|.br 85 (((cutD (Qaa f c.ino).text c.many).2) != 0) (fun q3=>have p3:=bneT q3;.ord [0,1,2,3,4]<|.u 2 [b1]<|
 .call (Qbn ((cutD (Qaa f c.ino).text c.many).2))<|
 .u 2 [b3,b4]<|
 .f (.tup [.agg (fsyA (doF f c).1),.agg (repA (doF f c).2)]) [b3,b4] (.tup [.agg (fsyA f),.agg [aI ((errR ((cutD (Qaa f c.ino).text c.many).2)).e),aI ((errR ((cutD (Qaa f c.ino).text c.many).2)).a),aI ((errR ((cutD (Qaa f c.ino).text c.many).2)).b),aI ((errR ((cutD (Qaa f c.ino).text c.many).2)).n),aS ((errR ((cutD (Qaa f c.ino).text c.many).2)).text),.sl 1 false ((errR ((cutD (Qaa f c.ino).text c.many).2)).names.map txA)]]) (by
  have h0:=(Qvn (k:=1) q1 (bneF q2)).1;rw [dono (by rw [Zf4 hk h0];try rfl) (bneT q3)];exact sR))
 <| fun q3=>have p3:=bneF q3;.u 3 [b5]<|
 let J1:Jn (Unit):=⟨fun j1=>⟨[(4,.ptr 4 b3 0),(5,.ptr 5 b4 0)],[(4,.box b3 28 [.sl 5 false ((putF f (Qep (Qaa f c.ino) (cutD (Qaa f c.ino).text c.many).1)).l.map nodA),aI ((putF f (Qep (Qaa f c.ino) (cutD (Qaa f c.ino).text c.many).1)).next)]),(5,.box b4 45 [aI 0,aI 0,aI 0,aI 0,aS ([]),aN])]⟩,fun _=>True⟩
 .cut J1 (.pick [0,1]<|.u 2 [b1,b5]<|
 .fork<|.alt (.cs (args0:=[.agg (fsyA f),.agg [aI ((Qaa f c.ino).ino),aI ((Qaa f c.ino).kind),aI ((Qaa f c.ino).links),aS ((cutD (Qaa f c.ino).text c.many).1),.sl 2 false ((Qaa f c.ino).l.map entA)]]) (Qdw f (Qep (Qaa f c.ino) (cutD (Qaa f c.ino).text c.many).1) (Qcb okf hp c.ino) (by omega) hr) sr2<|
 .fork<|.alt (.u 1 [b6]<|
 .pick [4,5]<|.u 2 [b3,b4]<|
 .jo J1 () [] [] sr2 bb2)
 <| .u 1 [b3]<|
 .pick [3,5]<|.u 2 [b6,b4]<|
 .jo J1 () [] [] sr2 bb2)
 <| .u 1 [b6]<|
 .pick [2,4,5]<|.cs (args0:=[.agg (fsyA f),.agg [aI ((Qaa f c.ino).ino),aI ((Qaa f c.ino).kind),aI ((Qaa f c.ino).links),aS ((cutD (Qaa f c.ino).text c.many).1),.sl 2 false ((Qaa f c.ino).l.map entA)]]) (Qdw f (Qep (Qaa f c.ino) (cutD (Qaa f c.ino).text c.many).1) (Qcb okf hp c.ino) (by omega) hr) sr2<|
 .u 2 [b3,b4]<|
 .jo J1 () [] [] sr2 bb2)
 <| fun _ _=>.f (.tup [.agg (fsyA (doF f c).1),.agg (repA (doF f c).2)]) [b3,b4] (.tup [.agg [.sl 5 false ((putF f (Qep (Qaa f c.ino) (cutD (Qaa f c.ino).text c.many).1)).l.map nodA),aI ((putF f (Qep (Qaa f c.ino) (cutD (Qaa f c.ino).text c.many).1)).next)],.agg [aI 0,aI 0,aI 0,aI 0,aS ([]),aN]]) (by
  have h0:=(Qvn (k:=1) q1 (bneF q2)).1;rw [Qfc (Zf4 hk h0) (bneF q3)];have he0:=bneF q3;refine Sub.tups ⟨sR,?_,trivial⟩;show Sub _ (.agg (repA ⟨_,_,_,_,_,_⟩))
  first | (rw [he0];exact Qbu _ _ _ _ _) | (show Sub _ (.agg (repA (errR _)));rw [he0];exact Qbu _ _ _ _ _)))
theorem Qp8 (f:Fsy) (c:Cal) (okf:OkF f) (okc:OkCal c) (hp:Qar f) (htx:c.text.length≤500000) (hk:c.kind=13):Qah prog 70 [.agg (fsyA f),.agg (calA c)] (.tup [.agg (fsyA (doF f c).1),.agg (repA (doF f c).2)]):=by
 have hl:=hp.1;have hr:=Qaf hp;have hcn:=okc.name;have hcn2:=okc.name2;have hct:=okc.text;exact Qac func70 (
 .new fun b1=>.new fun b2=>.new fun b3=>.new fun b4=>.u 3 [b1,b2]<|
 .call (Qa1 f c.ino (by omega))<|
 .r 3<|.new fun b5=>.u 2 [b5]<|
 .r 2<|.br 21 (!(Qau f c.ino)) (fun q1=>have q1:=notT q1;have p1:=booF q1;.ord [0,1,2,3]<|.u 1 [b1]<|
 .call (Qbn 6)<|
 .u 2 [b3,b4]<|
 .f (.tup [.agg (fsyA (doF f c).1),.agg (repA (doF f c).2)]) [b3,b4] (.tup [.agg (fsyA f),.agg [aI ((errR 6).e),aI ((errR 6).a),aI ((errR 6).b),aI ((errR 6).n),aS ((errR 6).text),.sl 1 false ((errR 6).names.map txA)]]) (by
  rw [Zed hk (Zdq q1).1 (by decide)];exact sR))
 <| fun q1=>have q1:=notF q1;have p1:=booT q1;.u 3 [b2]<|
 .is 26 (show (c.kind==13)=true from (by rw [hk];rfl))<|.u 3 [b5]<|
 .br 29 (((Qaa f c.ino).kind) != 3) (fun q2=>have p2:=bneT q2;.ord [0,1,2,3]<|.u 1 [b1]<|
 .call (Qbn 14)<|
 .u 2 [b3,b4]<|
 .f (.tup [.agg (fsyA (doF f c).1),.agg (repA (doF f c).2)]) [b3,b4] (.tup [.agg (fsyA f),.agg [aI ((errR 14).e),aI ((errR 14).a),aI ((errR 14).b),aI ((errR 14).n),aS ((errR 14).text),.sl 1 false ((errR 14).names.map txA)]]) (by
  rw [Zed hk (Qsv (k:=3) q1 (bneT q2)).1 (by decide)];exact sR))
 <| fun q2=>have p2:=bneF q2;let J1:Jn (Unit):=⟨fun j1=>⟨[(2,.ptr 2 b1 0),(3,.ptr 3 b2 0),(4,.ptr 4 b3 0),(5,.ptr 5 b4 0),(6,.ptr 6 b5 0)],[(2,.box b1 28 (fsyA f)),(3,.box b2 33 (calA c)),(4,.box b3 28 (fsyA f)),(5,.box b4 45 [aI 0,aI 0,aI 0,aI 0,aS ((Qaa f c.ino).text),aN]),(6,.box b5 84 [aI ((Qaa f c.ino).ino),aI ((Qaa f c.ino).kind),aI ((Qaa f c.ino).links),aS ((Qaa f c.ino).text),.sl 2 false ((Qaa f c.ino).l.map entA)])]⟩,fun _=>True⟩
 .cut J1 (.pick [0,1]<|.u 2 [b1]<|
 .fork<|.alt (.u 1 [b5]<|
 .pick [3,4,5]<|.u 3 [b3,b4]<|
 .jo J1 () [] [] sr5 bb5)
 <| .u 1 [b3]<|
 .pick [2,3,5]<|.u 3 [b5,b4]<|
 .jo J1 () [] [] sr5 bb5)
 <| fun _ _=>.f (.tup [.agg (fsyA (doF f c).1),.agg (repA (doF f c).2)]) [b3,b4] (.tup [.agg (fsyA f),.agg [aI 0,aI 0,aI 0,aI 0,aS ((Qaa f c.ino).text),aN]]) (by
  have h0:=(Qvn (k:=3) q1 (bneF q2)).1;rw [Zil hk h0];exact Sub.tups ⟨sR,Qbu _ _ _ _ _,trivial⟩))
theorem tk_1 {f:Fsy} {c:Cal} {dir:Bool} {odd:Int} (hd:Qb1 f c=Qde f c dir odd) (h:¬ Qa3 f c.ino c.name=0):doF f c=(f,errR (Qa3 f c.ino c.name)):=dono (by rw [hd];unfold Qde;rw [if_neg h];rfl) h
theorem tk_2 {f:Fsy} {c:Cal} {dir:Bool} {odd:Int} (hd:Qb1 f c=Qde f c dir odd) (h:Qa3 f c.ino c.name=0) (h2:(((lookN f c.ino c.name).kind==2) != dir)=true) (ho:¬ odd=0):doF f c=(f,errR odd):=dono (by rw [hd];unfold Qde;rw [if_pos h,if_pos h2];rfl) ho
theorem tk_3 {f:Fsy} {c:Cal} {dir:Bool} {odd:Int} (hd:Qb1 f c=Qde f c dir odd) (h:Qa3 f c.ino c.name=0) (h2:(((lookN f c.ino c.name).kind==2) != dir)=false):doF f c=(Qeq f c.ino c.name,errR (Qbg f c.ino c.name)):=by
 have hd2:Qb1 f c=(Qeq f c.ino c.name,errR (Qbg f c.ino c.name)):=by rw [hd];unfold Qde;rw [if_pos h,if_neg (by rw [h2];decide)]
 by_cases he:Qbg f c.ino c.name=0
 ·exact Qfc hd2 he
 ·rw [Qor hd2 he,show Qeq f c.ino c.name=f from if_neg he];rfl
theorem Qu4 (f:Fsy) (c:Cal) (okf:OkF f) (okc:OkCal c) (hp:Qar f) (hx:f.next<9223372036854775807) (hk:c.kind=6):Qah prog 71 [.agg (fsyA f),.agg (calA c)] (.tup [.agg (fsyA (doF f c).1),.agg (repA (doF f c).2)]):=by
 have hl:=hp.1;have hr:=Qaf hp;have hcn:=okc.name;have hcn2:=okc.name2;have hct:=okc.text;exact Qac func71 (
 .new fun b1=>.new fun b2=>.new fun b3=>.new fun b4=>.r 1<|.new fun b5=>.u 1 [b5]<|
 .u 3 [b2]<|
 .is 12 (show (c.kind==7)=false from (by rw [hk];rfl))<|.u 3 [b2]<|
 .is 16 (show (c.kind==8)=false from (by rw [hk];rfl))<|.u 6 [b1,b2,b2,b5]<|
 .cs (args0:=[.agg (fsyA f),aI c.ino,aS c.name,.agg [aI 0,aI 1,aI 0,aS ([]),aN]]) (Qm0 f c.ino c.name ⟨0,1,0,[],[]⟩ okf hp hcn Qqt hx) ⟨sR,sR,sR,Sub.aggs ⟨sR,sR,sR,sR,Sub.nil _ _,trivial⟩,trivial⟩<|
 .r 3<|.new fun b6=>.u 2 [b6]<|
 .r 2<|.br 38 ((Qat f c.ino c.name ⟨0,1,0,[],[]⟩) != 0) (fun q1=>have p1:=bneT q1;.ord [0,1,2,3,4]<|.u 2 [b1]<|
 .call (Qbn (Qat f c.ino c.name ⟨0,1,0,[],[]⟩))<|
 .u 2 [b3,b4]<|
 .f (.tup [.agg (fsyA (doF f c).1),.agg (repA (doF f c).2)]) [b3,b4] (.tup [.agg (fsyA f),.agg [aI ((errR (Qat f c.ino c.name ⟨0,1,0,[],[]⟩)).e),aI ((errR (Qat f c.ino c.name ⟨0,1,0,[],[]⟩)).a),aI ((errR (Qat f c.ino c.name ⟨0,1,0,[],[]⟩)).b),aI ((errR (Qat f c.ino c.name ⟨0,1,0,[],[]⟩)).n),aS ((errR (Qat f c.ino c.name ⟨0,1,0,[],[]⟩)).text),.sl 1 false ((errR (Qat f c.ino c.name ⟨0,1,0,[],[]⟩)).names.map txA)]]) (by
  rw [Zgu (Qtn hk) rfl (bneT q1)];exact sR))
 <| fun q1=>have p1:=bneF q1;let J1:Jn (Unit):=⟨fun j1=>⟨[(4,.ptr 4 b3 0),(5,.ptr 5 b4 0)],[(4,.box b3 28 [.sl 5 false ((if Qat f c.ino c.name ⟨0,1,0,[],[]⟩=0 then addF f c.ino c.name (addN f ⟨0,1,0,[],[]⟩) else f).l.map nodA),aI ((if Qat f c.ino c.name ⟨0,1,0,[],[]⟩=0 then addF f c.ino c.name (addN f ⟨0,1,0,[],[]⟩) else f).next)]),(5,.box b4 45 [aI 0,aI f.next,aI 0,aI 0,aS ([]),aN])]⟩,fun _=>True⟩
 .cut J1 (.pick [0,1]<|.u 2 [b6]<|
 .fork<|.alt (.u 1 [b1]<|
 .pick [3,4,5]<|.u 3 [b3,b4]<|
 .jo J1 () [] [] sr2 bb2)
 <| .u 1 [b3]<|
 .pick [2,3,5]<|.u 3 [b1,b4]<|
 .jo J1 () [] [] sr2 bb2)
 <| fun _ _=>.f (.tup [.agg (fsyA (doF f c).1),.agg (repA (doF f c).2)]) [b3,b4] (.tup [.agg [.sl 5 false ((if Qat f c.ino c.name ⟨0,1,0,[],[]⟩=0 then addF f c.ino c.name (addN f ⟨0,1,0,[],[]⟩) else f).l.map nodA),aI ((if Qat f c.ino c.name ⟨0,1,0,[],[]⟩=0 then addF f c.ino c.name (addN f ⟨0,1,0,[],[]⟩) else f).next)],.agg [aI 0,aI f.next,aI 0,aI 0,aS ([]),aN]]) (by
  have h0:=bneF q1;rw [Qws (Qtn hk) h0,if_pos h0];exact Sub.tups ⟨sR,Qbu _ _ _ _ _,trivial⟩))
theorem Qu3 (f:Fsy) (c:Cal) (okf:OkF f) (okc:OkCal c) (hp:Qar f) (hx:f.next<9223372036854775807) (hk:c.kind=7):Qah prog 71 [.agg (fsyA f),.agg (calA c)] (.tup [.agg (fsyA (doF f c).1),.agg (repA (doF f c).2)]):=by
 have hl:=hp.1;have hr:=Qaf hp;have hcn:=okc.name;have hcn2:=okc.name2;have hct:=okc.text;exact Qac func71 (
 .new fun b1=>.new fun b2=>.new fun b3=>.new fun b4=>.r 1<|.new fun b5=>.u 1 [b5]<|
 .u 3 [b2]<|
 .is 12 (show (c.kind==7)=true from (by rw [hk];rfl))<|.u 2 [b5]<|
 .u 3 [b2]<|
 .is 16 (show (c.kind==8)=false from (by rw [hk];rfl))<|.u 6 [b1,b2,b2,b5]<|
 .cs (args0:=[.agg (fsyA f),aI c.ino,aS c.name,.agg [aI 0,aI 2,aI 0,aS ([]),aN]]) (Qm0 f c.ino c.name ⟨0,2,0,[],[]⟩ okf hp hcn Qvx hx) ⟨sR,sR,sR,Sub.aggs ⟨sR,sR,sR,sR,Sub.nil _ _,trivial⟩,trivial⟩<|
 .r 3<|.new fun b6=>.u 2 [b6]<|
 .r 2<|.br 38 ((Qat f c.ino c.name ⟨0,2,0,[],[]⟩) != 0) (fun q1=>have p1:=bneT q1;.ord [0,1,2,3,4]<|.u 2 [b1]<|
 .call (Qbn (Qat f c.ino c.name ⟨0,2,0,[],[]⟩))<|
 .u 2 [b3,b4]<|
 .f (.tup [.agg (fsyA (doF f c).1),.agg (repA (doF f c).2)]) [b3,b4] (.tup [.agg (fsyA f),.agg [aI ((errR (Qat f c.ino c.name ⟨0,2,0,[],[]⟩)).e),aI ((errR (Qat f c.ino c.name ⟨0,2,0,[],[]⟩)).a),aI ((errR (Qat f c.ino c.name ⟨0,2,0,[],[]⟩)).b),aI ((errR (Qat f c.ino c.name ⟨0,2,0,[],[]⟩)).n),aS ((errR (Qat f c.ino c.name ⟨0,2,0,[],[]⟩)).text),.sl 1 false ((errR (Qat f c.ino c.name ⟨0,2,0,[],[]⟩)).names.map txA)]]) (by
  rw [Zgu (Qyk hk) rfl (bneT q1)];exact sR))
 <| fun q1=>have p1:=bneF q1;let J1:Jn (Unit):=⟨fun j1=>⟨[(4,.ptr 4 b3 0),(5,.ptr 5 b4 0)],[(4,.box b3 28 [.sl 5 false ((if Qat f c.ino c.name ⟨0,2,0,[],[]⟩=0 then addF f c.ino c.name (addN f ⟨0,2,0,[],[]⟩) else f).l.map nodA),aI ((if Qat f c.ino c.name ⟨0,2,0,[],[]⟩=0 then addF f c.ino c.name (addN f ⟨0,2,0,[],[]⟩) else f).next)]),(5,.box b4 45 [aI 0,aI f.next,aI 0,aI 0,aS ([]),aN])]⟩,fun _=>True⟩
 .cut J1 (.pick [0,1]<|.u 2 [b6]<|
 .fork<|.alt (.u 1 [b1]<|
 .pick [3,4,5]<|.u 3 [b3,b4]<|
 .jo J1 () [] [] sr2 bb2)
 <| .u 1 [b3]<|
 .pick [2,3,5]<|.u 3 [b1,b4]<|
 .jo J1 () [] [] sr2 bb2)
 <| fun _ _=>.f (.tup [.agg (fsyA (doF f c).1),.agg (repA (doF f c).2)]) [b3,b4] (.tup [.agg [.sl 5 false ((if Qat f c.ino c.name ⟨0,2,0,[],[]⟩=0 then addF f c.ino c.name (addN f ⟨0,2,0,[],[]⟩) else f).l.map nodA),aI ((if Qat f c.ino c.name ⟨0,2,0,[],[]⟩=0 then addF f c.ino c.name (addN f ⟨0,2,0,[],[]⟩) else f).next)],.agg [aI 0,aI f.next,aI 0,aI 0,aS ([]),aN]]) (by
  have h0:=bneF q1;rw [Qws (Qyk hk) h0,if_pos h0];exact Sub.tups ⟨sR,Qbu _ _ _ _ _,trivial⟩))
theorem Qu2 (f:Fsy) (c:Cal) (okf:OkF f) (okc:OkCal c) (hp:Qar f) (hx:f.next<9223372036854775807) (hk:c.kind=8):Qah prog 71 [.agg (fsyA f),.agg (calA c)] (.tup [.agg (fsyA (doF f c).1),.agg (repA (doF f c).2)]):=by
 have hl:=hp.1;have hr:=Qaf hp;have hcn:=okc.name;have hcn2:=okc.name2;have hct:=okc.text;exact Qac func71 (
 .new fun b1=>.new fun b2=>.new fun b3=>.new fun b4=>.r 1<|.new fun b5=>.u 1 [b5]<|
 .u 3 [b2]<|
 .is 12 (show (c.kind==7)=false from (by rw [hk];rfl))<|.u 3 [b2]<|
 .is 16 (show (c.kind==8)=true from (by rw [hk];rfl))<|.u 2 [b5]<|
 .u 4 [b2,b5]<|
 .u 4 [b2]<|
 .bd 24 (((c.text).length:Int)>4096) (fun p1=>.ord [0,1,2,3]<|.u 1 [b1]<|
 .call (Qbn 5)<|
 .u 2 [b3,b4]<|
 .f (.tup [.agg (fsyA (doF f c).1),.agg (repA (doF f c).2)]) [b3,b4] (.tup [.agg (fsyA f),.agg [aI ((errR 5).e),aI ((errR 5).a),aI ((errR 5).b),aI ((errR 5).n),aS ((errR 5).text),.sl 1 false ((errR 5).names.map txA)]]) (by
  rw [Zlj hk (by omega)];exact sR))
 <| fun p1=>.u 6 [b1,b2,b2,b5]<|
 .cs (args0:=[.agg (fsyA f),aI c.ino,aS c.name,.agg [aI 0,aI 3,aI 0,aS c.text,aN]]) (Qm0 f c.ino c.name ⟨0,3,0,c.text,[]⟩ okf hp hcn (Qqr (by omega)) hx) ⟨sR,sR,sR,Sub.aggs ⟨sR,sR,sR,sR,Sub.nil _ _,trivial⟩,trivial⟩<|
 .r 3<|.new fun b6=>.u 2 [b6]<|
 .r 2<|.br 38 ((Qat f c.ino c.name ⟨0,3,0,c.text,[]⟩) != 0) (fun q2=>have p2:=bneT q2;.ord [0,1,2,3,4]<|.u 2 [b1]<|
 .call (Qbn (Qat f c.ino c.name ⟨0,3,0,c.text,[]⟩))<|
 .u 2 [b3,b4]<|
 .f (.tup [.agg (fsyA (doF f c).1),.agg (repA (doF f c).2)]) [b3,b4] (.tup [.agg (fsyA f),.agg [aI ((errR (Qat f c.ino c.name ⟨0,3,0,c.text,[]⟩)).e),aI ((errR (Qat f c.ino c.name ⟨0,3,0,c.text,[]⟩)).a),aI ((errR (Qat f c.ino c.name ⟨0,3,0,c.text,[]⟩)).b),aI ((errR (Qat f c.ino c.name ⟨0,3,0,c.text,[]⟩)).n),aS ((errR (Qat f c.ino c.name ⟨0,3,0,c.text,[]⟩)).text),.sl 1 false ((errR (Qat f c.ino c.name ⟨0,3,0,c.text,[]⟩)).names.map txA)]]) (by
  rw [Zgu (Zbw hk (by omega)) rfl (bneT q2)];exact sR))
 <| fun q2=>have p2:=bneF q2;let J1:Jn (Unit):=⟨fun j1=>⟨[(4,.ptr 4 b3 0),(5,.ptr 5 b4 0)],[(4,.box b3 28 [.sl 5 false ((if Qat f c.ino c.name ⟨0,3,0,c.text,[]⟩=0 then addF f c.ino c.name (addN f ⟨0,3,0,c.text,[]⟩) else f).l.map nodA),aI ((if Qat f c.ino c.name ⟨0,3,0,c.text,[]⟩=0 then addF f c.ino c.name (addN f ⟨0,3,0,c.text,[]⟩) else f).next)]),(5,.box b4 45 [aI 0,aI f.next,aI 0,aI 0,aS ([]),aN])]⟩,fun _=>True⟩
 .cut J1 (.pick [0,1]<|.u 2 [b6]<|
 .fork<|.alt (.u 1 [b1]<|
 .pick [3,4,5]<|.u 3 [b3,b4]<|
 .jo J1 () [] [] sr2 bb2)
 <| .u 1 [b3]<|
 .pick [2,3,5]<|.u 3 [b1,b4]<|
 .jo J1 () [] [] sr2 bb2)
 <| fun _ _=>.f (.tup [.agg (fsyA (doF f c).1),.agg (repA (doF f c).2)]) [b3,b4] (.tup [.agg [.sl 5 false ((if Qat f c.ino c.name ⟨0,3,0,c.text,[]⟩=0 then addF f c.ino c.name (addN f ⟨0,3,0,c.text,[]⟩) else f).l.map nodA),aI ((if Qat f c.ino c.name ⟨0,3,0,c.text,[]⟩=0 then addF f c.ino c.name (addN f ⟨0,3,0,c.text,[]⟩) else f).next)],.agg [aI 0,aI f.next,aI 0,aI 0,aS ([]),aN]]) (by
  have h0:=bneF q2;rw [Qws (Zbw hk (by omega)) h0,if_pos h0];exact Sub.tups ⟨sR,Qbu _ _ _ _ _,trivial⟩))
theorem Qsk (f:Fsy) (c:Cal) (okf:OkF f) (okc:OkCal c) (hp:Qar f) (hk:c.kind=9):Qah prog 72 [.agg (fsyA f),.agg (calA c)] (.tup [.agg (fsyA (doF f c).1),.agg (repA (doF f c).2)]):=by
 have hl:=hp.1;have hr:=Qaf hp;have hcn:=okc.name;have hcn2:=okc.name2;have hct:=okc.text;exact Qac func72 (
 .new fun b1=>.new fun b2=>.new fun b3=>.new fun b4=>.u 5 [b1,b2,b2]<|
 .call (Qec f c.ino c.name hp hcn)<|
 .r 3<|.new fun b5=>.u 2 [b5]<|
 .r 2<|.br 20 ((Qa3 f c.ino c.name) != 0) (fun q1=>have p1:=bneT q1;.ord [0,1,2,3,4]<|.u 2 [b1]<|
 .call (Qbn (Qa3 f c.ino c.name))<|
 .u 2 [b3,b4]<|
 .f (.tup [.agg (fsyA (doF f c).1),.agg (repA (doF f c).2)]) [b3,b4] (.tup [.agg (fsyA f),.agg [aI ((errR (Qa3 f c.ino c.name)).e),aI ((errR (Qa3 f c.ino c.name)).a),aI ((errR (Qa3 f c.ino c.name)).b),aI ((errR (Qa3 f c.ino c.name)).n),aS ((errR (Qa3 f c.ino c.name)).text),.sl 1 false ((errR (Qa3 f c.ino c.name)).names.map txA)]]) (by
  rw [tk_1 (Qtm hk) (bneT q1)];exact sR))
 <| fun q1=>have p1:=bneF q1;.u 4 [b2]<|
 .is 27 (show (c.kind==9)=true from (by rw [hk];rfl))<|.u 4 [b5]<|
 .br 31 (((lookN f c.ino c.name).kind)==2) (fun q2=>have p2:=beqT q2;.ord [0,1,2,3]<|.u 1 [b1]<|
 .call (Qbn 9)<|
 .u 2 [b3,b4]<|
 .f (.tup [.agg (fsyA (doF f c).1),.agg (repA (doF f c).2)]) [b3,b4] (.tup [.agg (fsyA f),.agg [aI ((errR 9).e),aI ((errR 9).a),aI ((errR 9).b),aI ((errR 9).n),aS ((errR 9).text),.sl 1 false ((errR 9).names.map txA)]]) (by
  rw [tk_2 (Qtm hk) (bneF q1) (by simpa [bne] using q2) (by decide)];exact sR))
 <| fun q2=>have p2:=beqF q2;.u 4 [b2]<|
 .is 37 (show (c.kind==10)=false from (by rw [hk];rfl))<|.r 4<|.u 5 [b1,b2,b2]<|
 .call (Qo5 f c.ino c.name okf hp hcn)<|
 .r 3<|.new fun b6=>.u 2 [b6]<|
 .ord [0,1,2,3,4]<|.u 2 [b6]<|
 .call (Qbn (Qbg f c.ino c.name))<|
 .u 2 [b3,b4]<|
 .f (.tup [.agg (fsyA (doF f c).1),.agg (repA (doF f c).2)]) [b3,b4] (.tup [.agg [.sl 5 false ((Qeq f c.ino c.name).l.map nodA),aI ((Qeq f c.ino c.name).next)],.agg [aI ((errR (Qbg f c.ino c.name)).e),aI ((errR (Qbg f c.ino c.name)).a),aI ((errR (Qbg f c.ino c.name)).b),aI ((errR (Qbg f c.ino c.name)).n),aS ((errR (Qbg f c.ino c.name)).text),.sl 1 false ((errR (Qbg f c.ino c.name)).names.map txA)]]) (by
  rw [tk_3 (Qtm hk) (bneF q1) (by simpa [bne] using q2)];exact sR))
theorem Qp9 (f:Fsy) (c:Cal) (okf:OkF f) (okc:OkCal c) (hp:Qar f) (hk:c.kind=10):Qah prog 72 [.agg (fsyA f),.agg (calA c)] (.tup [.agg (fsyA (doF f c).1),.agg (repA (doF f c).2)]):=by
 have hl:=hp.1;have hr:=Qaf hp;have hcn:=okc.name;have hcn2:=okc.name2;have hct:=okc.text;exact Qac func72 (
 .new fun b1=>.new fun b2=>.new fun b3=>.new fun b4=>.u 5 [b1,b2,b2]<|
 .call (Qec f c.ino c.name hp hcn)<|
 .r 3<|.new fun b5=>.u 2 [b5]<|
 .r 2<|.br 20 ((Qa3 f c.ino c.name) != 0) (fun q1=>have p1:=bneT q1;.ord [0,1,2,3,4]<|.u 2 [b1]<|
 .call (Qbn (Qa3 f c.ino c.name))<|
 .u 2 [b3,b4]<|
 .f (.tup [.agg (fsyA (doF f c).1),.agg (repA (doF f c).2)]) [b3,b4] (.tup [.agg (fsyA f),.agg [aI ((errR (Qa3 f c.ino c.name)).e),aI ((errR (Qa3 f c.ino c.name)).a),aI ((errR (Qa3 f c.ino c.name)).b),aI ((errR (Qa3 f c.ino c.name)).n),aS ((errR (Qa3 f c.ino c.name)).text),.sl 1 false ((errR (Qa3 f c.ino c.name)).names.map txA)]]) (by
  rw [tk_1 (Qn5 hk) (bneT q1)];exact sR))
 <| fun q1=>have p1:=bneF q1;.u 4 [b2]<|
 .is 27 (show (c.kind==9)=false from (by rw [hk];rfl))<|.r 4<|.u 4 [b2]<|
 .is 37 (show (c.kind==10)=true from (by rw [hk];rfl))<|.u 4 [b5]<|
 .br 41 (((lookN f c.ino c.name).kind) != 2) (fun q2=>have p2:=bneT q2;.ord [0,1,2,3]<|.u 1 [b1]<|
 .call (Qbn 8)<|
 .u 2 [b3,b4]<|
 .f (.tup [.agg (fsyA (doF f c).1),.agg (repA (doF f c).2)]) [b3,b4] (.tup [.agg (fsyA f),.agg [aI ((errR 8).e),aI ((errR 8).a),aI ((errR 8).b),aI ((errR 8).n),aS ((errR 8).text),.sl 1 false ((errR 8).names.map txA)]]) (by
  rw [tk_2 (Qn5 hk) (bneF q1) (by simpa [bne] using q2) (by decide)];exact sR))
 <| fun q2=>have p2:=bneF q2;.u 5 [b1,b2,b2]<|
 .call (Qo5 f c.ino c.name okf hp hcn)<|
 .r 3<|.new fun b6=>.u 2 [b6]<|
 .ord [0,1,2,3,4]<|.u 2 [b6]<|
 .call (Qbn (Qbg f c.ino c.name))<|
 .u 2 [b3,b4]<|
 .f (.tup [.agg (fsyA (doF f c).1),.agg (repA (doF f c).2)]) [b3,b4] (.tup [.agg [.sl 5 false ((Qeq f c.ino c.name).l.map nodA),aI ((Qeq f c.ino c.name).next)],.agg [aI ((errR (Qbg f c.ino c.name)).e),aI ((errR (Qbg f c.ino c.name)).a),aI ((errR (Qbg f c.ino c.name)).b),aI ((errR (Qbg f c.ino c.name)).n),aS ((errR (Qbg f c.ino c.name)).text),.sl 1 false ((errR (Qbg f c.ino c.name)).names.map txA)]]) (by
  rw [tk_3 (Qn5 hk) (bneF q1) (by simpa [bne] using q2)];exact sR))
end Go.Proofs.YtahlldgocpabjaaGreat
