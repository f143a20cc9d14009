import Derived.Test.YtahlldgocpabjaaGreatAl
import Derived.Test.YtahlldgocpabjaaGreatMrgU
import Derived.Test.YtahlldgocpabjaaGreatMrgR
import Derived.Test.YtahlldgocpabjaaGreatMrgS
set_option maxRecDepth 100000
set_option maxHeartbeats 8000000
set_option linter.unusedVariables false
set_option linter.unusedSimpArgs false
namespace Go.Proofs.YtahlldgocpabjaaGreat
open Go Go.RowKit Copyhold Go.Proofs.Tryz
theorem Qw1 (s:Txt) (a b:Int) (hs:s.length≤1000000) (ha:I64 a) (hb:I64 b):Qai prog 116 [aS s,aI a,aI b] (.tup [aS (Qez s a b).1,aI (Qez s a b).2]):=Qco (Qg4 _ _) fun D w vs h=>by
 obtain ⟨u,v,t,rfl,hu,hv,ht⟩:=ra3 h;cases hu;cases hv;cases ht;exact Zbn s a b w (by omega) ha.1 ha.2 hb.1 hb.2
theorem Qt2 (s:Txt) (a:Int) (t:Txt) (hs:s.length≤500000) (ha:I64 a) (ht:t.length≤500000):Qai prog 118 [aS s,aI a,aS t] (.tup [aS (Qbk s a t).1,aI (Qbk s a t).2]):=Qco (Qg4 _ _) fun D w vs h=>by
 obtain ⟨u,v,x,rfl,hu,hv,hx⟩:=ra3 h;cases hu;cases hv;cases hx;exact Qwv s a t w (by omega) (by omega) ha.1 ha.2
theorem Qp4 (s:Txt) (n:Int) (hs:s.length≤1000000) (hn:I64 n):Qai prog 117 [aS s,aI n] (.tup [aS (cutD s n).1,aI (cutD s n).2]):=Qco (Qg4 _ _) fun D w vs h=>by
 obtain ⟨u,v,rfl,hu,hv⟩:=Qdj.two h;cases hu;cases hv;exact Zeh s n w (by omega) hn.1 hn.2
theorem Qgj (n:Nod):Qai prog 69 [.agg (nodA n)] (aI (Qh2 n)):=by
 exact Qae func69 (
 .new fun b1=>.r 1<|.u 3 [b1]<|
 .be 5 n.kind 2 (fun p1=>.u 3 [b1]<|
 .lm 8 n.l entA<|.r 1<|.f (aI (Qh2 n)) [] (aI (n.l.length:Int)) (by exact W2p (W1z aI (by unfold Qh2;simp_all))))
 <| fun p1=>.u 4 [b1]<|
 .f (aI (Qh2 n)) [] (aI ((n.text).length:Int)) (by exact W2p (W1z aI (by unfold Qh2;simp_all))))
theorem dono {f:Fsy} {c:Cal} {e:Int} (h:(Qb5 f c).2.e=e) (he:¬ e=0):doF f c=(f,errR e):=by
 have:=Qk4 (f:=f) (c:=c) rfl (by rw [h];exact he);rw [this,h]
theorem Zje {s:Txt} {a b:Int} (h:¬ (Qez s a b).2=0):(Qez s a b).1=[]:=by
 unfold Qez at h ⊢
 split
 ·rename_i h1;rw [W1y h1] at h;exact absurd rfl h
 ·rfl
theorem Qrd {f:Fsy} {c:Cal} {e:Int} (hk:c.kind=3) (h:ofE f c.ino 1=e) (he:¬ e=0):doF f c=(f,errR e):=dono (by rw [Qu7 hk];unfold Qkg;rw [h,W1x he];rfl) he
theorem Qrc {f:Fsy} {c:Cal} (hk:c.kind=3) (h:ofE f c.ino 1=0):doF f c=(f,⟨(Qez (Qaa f c.ino).text c.at_ c.many).2,0,0,0,(Qez (Qaa f c.ino).text c.at_ c.many).1,[]⟩):=by
 have hd:Qb5 f c=(f,⟨(Qez (Qaa f c.ino).text c.at_ c.many).2,0,0,0,(Qez (Qaa f c.ino).text c.at_ c.many).1,[]⟩):=by rw [Qu7 hk];unfold Qkg;rw [W1y h]
 by_cases he:(Qez (Qaa f c.ino).text c.at_ c.many).2=0
 ·exact Qef hd he
 ·rw [Qk4 hd he,Zje he];rfl
theorem Qmu {f:Fsy} {c:Cal} {e:Int} (hk:c.kind=4) (h:ofE f c.ino 1=e) (he:¬ e=0):doF f c=(f,errR e):=dono (by rw [Qu6 hk];unfold Qfs;rw [h,W1x he];rfl) he
theorem Qj3 {f:Fsy} {c:Cal} (hk:c.kind=4) (h:ofE f c.ino 1=0):Qb5 f c=(putF f (Qei (Qaa f c.ino) (Qbk (Qaa f c.ino).text c.at_ c.text).1),⟨(Qbk (Qaa f c.ino).text c.at_ c.text).2,(c.text.length:Int),0,0,[],[]⟩):=by rw [Qu6 hk];unfold Qfs;rw [W1y h]
theorem Zaa {f:Fsy} {c:Cal} {e:Int} (hk:c.kind=5) (h:ofE f c.ino 1=e) (he:¬ e=0):doF f c=(f,errR e):=dono (by rw [Qu5 hk];unfold cutO;rw [h,W1x he];rfl) he
theorem Qsn {f:Fsy} {c:Cal} (hk:c.kind=5) (h:ofE f c.ino 1=0):Qb5 f c=(putF f (Qei (Qaa f c.ino) (cutD (Qaa f c.ino).text c.many).1),errR (cutD (Qaa f c.ino).text c.many).2):=by rw [Qu5 hk];unfold cutO;rw [W1y h]
theorem Qrw {f:Fsy} {c:Cal} {e:Int} (hk:c.kind=13) (h:ofE f c.ino 3=e) (he:¬ e=0):doF f c=(f,errR e):=dono (by rw [Qo0 hk];exact h) he
theorem Qrv {f:Fsy} {c:Cal} (hk:c.kind=13) (h:ofE f c.ino 3=0):doF f c=(f,⟨0,0,0,0,(Qaa f c.ino).text,[]⟩):=by
 have hd:Qb5 f c=(f,⟨0,0,0,0,(Qaa f c.ino).text,[]⟩):=by
  rw [Qo0 hk];unfold Qwq;rw [h,Qy7 h]
 exact Qef hd rfl
theorem Zib {f:Fsy} {c:Cal} {n:Nod} (hd:Qb5 f c=addO f c n) {e:Int} (h:Qaw f c.ino c.name n=e) (he:¬ e=0):doF f c=(f,errR e):=dono (by rw [hd];exact h) he
theorem Qye {f:Fsy} {c:Cal} {n:Nod} (hd:Qb5 f c=addO f c n) (h:Qaw f c.ino c.name n=0):doF f c=(addF f c.ino c.name (addN f n),⟨0,f.next,0,0,[],[]⟩):=by
 have h2:addO f c n=(addF f c.ino c.name (addN f n),⟨0,f.next,0,0,[],[]⟩):=by unfold addO;rw [h];rfl
 exact Qef (hd.trans h2) rfl
theorem Zm2 {f:Fsy} {c:Cal} (hk:c.kind=8) (h:(c.text.length:Int)>4096):doF f c=(f,errR 5):=dono (by rw [Qu3 hk];unfold symO;rw [W1y h];rfl) (by decide)
theorem Zdi {f:Fsy} {c:Cal} (hk:c.kind=8) (h:¬ (c.text.length:Int)>4096):Qb5 f c=addO f c ⟨0,3,0,c.text,[]⟩:=by rw [Qu3 hk];unfold symO;rw [W1x h]
theorem Qbs (e:Int):Qai prog 68 [aI e] (.agg (repA (errR e))):=by
 exact Qae func68 (let R:AV:=.agg (repA (errR e));
 .new fun b1=>.u 3 [b1]<|
 .f R [b1] (.agg [aI e,aI 0,aI 0,aI 0,aS ([]),aN]) (by exact W2t ⟨sR,sR,sR,sR,sR,Sub.nil _ _,trivial⟩))
theorem Qtw (f:Fsy) (c:Cal) (okf:OkF f) (okc:OkCal c) (hp:Qan f) (htx:c.text.length≤500000) (hk:c.kind=3):Qai prog 70 [.agg (fsyA f),.agg (calA c)] (.tup [.agg (fsyA (doF f c).1),.agg (repA (doF f c).2)]):=by
 have hl:=hp.1;have hr:=Qaf hp;have hcn:=okc.name;have hcn2:=okc.name2;have hct:=okc.text;exact Qae func70 (
 .new fun b1=>.new fun b2=>.new fun b3=>.new fun b4=>.u 3 [b1,b2]<|
 .call (Qa2 f c.ino (by omega))<|
 .r 3<|.new fun b5=>.u 2 [b5]<|
 .r 2<|.br 21 (!(Qav f c.ino)) (fun q1=>have q1:=notT q1;have p1:=booF q1;.ord [0,1,2,3]<|.u 1 [b1]<|
 .call (Qbs 6)<|
 .u 2 [b3,b4]<|
 .f (.tup [.agg (fsyA (doF f c).1),.agg (repA (doF f c).2)]) [b3,b4] (.tup [.agg (fsyA f),.agg [aI ((errR 6).e),aI ((errR 6).a),aI ((errR 6).b),aI ((errR 6).n),aS ((errR 6).text),.sl 1 false ((errR 6).names.map txA)]]) (by
  rw [Qrd hk (Zfd q1).1 (by decide)];exact sR))
 <| fun q1=>have q1:=notF q1;have p1:=booT q1;.u 3 [b2]<|
 .is 26 (show (c.kind==13)=false from (by rw [hk];rfl))<|.u 3 [b5]<|
 .br 38 (((Qaa f c.ino).kind) != 1) (fun q2=>have p2:=bneT q2;.ord [0,1,2,3]<|.u 1 [b1]<|
 .call (Qbs 14)<|
 .u 2 [b3,b4]<|
 .f (.tup [.agg (fsyA (doF f c).1),.agg (repA (doF f c).2)]) [b3,b4] (.tup [.agg (fsyA f),.agg [aI ((errR 14).e),aI ((errR 14).a),aI ((errR 14).b),aI ((errR 14).n),aS ((errR 14).text),.sl 1 false ((errR 14).names.map txA)]]) (by
  rw [Qrd hk (Qua (k:=1) q1 (bneT q2)).1 (by decide)];exact sR))
 <| fun q2=>have p2:=bneF q2;.u 3 [b2]<|
 .is 43 (show (c.kind==3)=true from (by rw [hk];rfl))<|.u 6 [b5,b2,b2]<|
 .call (Qw1 (Qaa f c.ino).text c.at_ c.many (by have:=Qf6 hp c.ino;omega) okc.at_ okc.many)<|
 .r 5<|.u 6 [b1,b3,b4]<|
 .f (.tup [.agg (fsyA (doF f c).1),.agg (repA (doF f c).2)]) [b3,b4] (.tup [.agg (fsyA f),.agg [aI ((Qez (Qaa f c.ino).text c.at_ c.many).2),aI 0,aI 0,aI 0,aS ((Qez (Qaa f c.ino).text c.at_ c.many).1),aN]]) (by
  have h0:=(Qw9 (k:=1) q1 (bneF q2)).1;rw [Qrc hk h0];exact W2s ⟨sR,Qby _ _ _ _ _,trivial⟩))
theorem Qtv (f:Fsy) (c:Cal) (okf:OkF f) (okc:OkCal c) (hp:Qan f) (htx:c.text.length≤500000) (hk:c.kind=4):Qai prog 70 [.agg (fsyA f),.agg (calA c)] (.tup [.agg (fsyA (doF f c).1),.agg (repA (doF f c).2)]):=by
 have hl:=hp.1;have hr:=Qaf hp;have hcn:=okc.name;have hcn2:=okc.name2;have hct:=okc.text;exact Qae func70 (
 .new fun b1=>.new fun b2=>.new fun b3=>.new fun b4=>.u 3 [b1,b2]<|
 .call (Qa2 f c.ino (by omega))<|
 .r 3<|.new fun b5=>.u 2 [b5]<|
 .r 2<|.br 21 (!(Qav f c.ino)) (fun q1=>have q1:=notT q1;have p1:=booF q1;.ord [0,1,2,3]<|.u 1 [b1]<|
 .call (Qbs 6)<|
 .u 2 [b3,b4]<|
 .f (.tup [.agg (fsyA (doF f c).1),.agg (repA (doF f c).2)]) [b3,b4] (.tup [.agg (fsyA f),.agg [aI ((errR 6).e),aI ((errR 6).a),aI ((errR 6).b),aI ((errR 6).n),aS ((errR 6).text),.sl 1 false ((errR 6).names.map txA)]]) (by
  rw [Qmu hk (Zfd q1).1 (by decide)];exact sR))
 <| fun q1=>have q1:=notF q1;have p1:=booT q1;.u 3 [b2]<|
 .is 26 (show (c.kind==13)=false from (by rw [hk];rfl))<|.u 3 [b5]<|
 .br 38 (((Qaa f c.ino).kind) != 1) (fun q2=>have p2:=bneT q2;.ord [0,1,2,3]<|.u 1 [b1]<|
 .call (Qbs 14)<|
 .u 2 [b3,b4]<|
 .f (.tup [.agg (fsyA (doF f c).1),.agg (repA (doF f c).2)]) [b3,b4] (.tup [.agg (fsyA f),.agg [aI ((errR 14).e),aI ((errR 14).a),aI ((errR 14).b),aI ((errR 14).n),aS ((errR 14).text),.sl 1 false ((errR 14).names.map txA)]]) (by
  rw [Qmu hk (Qua (k:=1) q1 (bneT q2)).1 (by decide)];exact sR))
 <| fun q2=>have p2:=bneF q2;.u 3 [b2]<|
 .is 43 (show (c.kind==3)=false from (by rw [hk];rfl))<|.r 1<|.new fun b6=>.u 1 [b6]<|
 .u 4 [b5,b2]<|
 .call (Qp4 (Qaa f c.ino).text c.many (by have:=Qf6 hp c.ino;omega) okc.many)<|
 .r 5<|.u 3 [b2]<|
 .is 69 (show (c.kind==4)=true from (by rw [hk];rfl))<|.u 6 [b5,b2,b2]<|
 .call (Qt2 (Qaa f c.ino).text c.at_ c.text (by have:=Qf6 hp c.ino;omega) okc.at_ htx)<|
 .r 5<|.u 5 [b2,b6]<|
 .r 2<|.br 85 (((Qbk (Qaa f c.ino).text c.at_ c.text).2) != 0) (fun q3=>have p3:=bneT q3;.ord [0,1,2,3,4]<|.u 2 [b1]<|
 .call (Qbs ((Qbk (Qaa f c.ino).text c.at_ c.text).2))<|
 .u 2 [b3,b4]<|
 .f (.tup [.agg (fsyA (doF f c).1),.agg (repA (doF f c).2)]) [b3,b4] (.tup [.agg (fsyA f),.agg [aI ((errR ((Qbk (Qaa f c.ino).text c.at_ c.text).2)).e),aI ((errR ((Qbk (Qaa f c.ino).text c.at_ c.text).2)).a),aI ((errR ((Qbk (Qaa f c.ino).text c.at_ c.text).2)).b),aI ((errR ((Qbk (Qaa f c.ino).text c.at_ c.text).2)).n),aS ((errR ((Qbk (Qaa f c.ino).text c.at_ c.text).2)).text),.sl 1 false ((errR ((Qbk (Qaa f c.ino).text c.at_ c.text).2)).names.map txA)]]) (by
  have h0:=(Qw9 (k:=1) q1 (bneF q2)).1;rw [dono (by rw [Qj3 hk h0];try rfl) (bneT q3)];exact sR))
 <| fun q3=>have p3:=bneF q3;.u 3 [b5]<|
 let J1:Jn (Unit):=⟨fun j1=>⟨[(4,.ptr 4 b3 0),(5,.ptr 5 b4 0)],[(4,.box b3 28 [.sl 5 false ((putF f (Qei (Qaa f c.ino) (Qbk (Qaa f c.ino).text c.at_ c.text).1)).l.map nodA),aI ((putF f (Qei (Qaa f c.ino) (Qbk (Qaa f c.ino).text c.at_ c.text).1)).next)]),(5,.box b4 45 [aI 0,aI ((c.text).length:Int),aI 0,aI 0,aS ([]),aN])]⟩,fun _=>True⟩
 .cut J1 (.pick [0,1]<|.u 2 [b1,b5]<|
 .fork<|.alt (.cs (args0:=[.agg (fsyA f),.agg [aI ((Qaa f c.ino).ino),aI ((Qaa f c.ino).kind),aI ((Qaa f c.ino).links),aS ((Qbk (Qaa f c.ino).text c.at_ c.text).1),.sl 2 false ((Qaa f c.ino).l.map entA)]]) (Qd4 f (Qei (Qaa f c.ino) (Qbk (Qaa f c.ino).text c.at_ c.text).1) (Qcg okf hp c.ino) (by omega) hr) sr2<|
 .fork<|.alt (.u 1 [b6]<|
 .pick [4,5]<|.u 2 [b3,b4]<|
 .jo J1 () [] [] sr2 bb2)
 <| .u 1 [b3]<|
 .pick [3,5]<|.u 2 [b6,b4]<|
 .jo J1 () [] [] sr2 bb2)
 <| .u 1 [b6]<|
 .pick [2,4,5]<|.cs (args0:=[.agg (fsyA f),.agg [aI ((Qaa f c.ino).ino),aI ((Qaa f c.ino).kind),aI ((Qaa f c.ino).links),aS ((Qbk (Qaa f c.ino).text c.at_ c.text).1),.sl 2 false ((Qaa f c.ino).l.map entA)]]) (Qd4 f (Qei (Qaa f c.ino) (Qbk (Qaa f c.ino).text c.at_ c.text).1) (Qcg okf hp c.ino) (by omega) hr) sr2<|
 .u 2 [b3,b4]<|
 .jo J1 () [] [] sr2 bb2)
 <| fun _ _=>.f (.tup [.agg (fsyA (doF f c).1),.agg (repA (doF f c).2)]) [b3,b4] (.tup [.agg [.sl 5 false ((putF f (Qei (Qaa f c.ino) (Qbk (Qaa f c.ino).text c.at_ c.text).1)).l.map nodA),aI ((putF f (Qei (Qaa f c.ino) (Qbk (Qaa f c.ino).text c.at_ c.text).1)).next)],.agg [aI 0,aI ((c.text).length:Int),aI 0,aI 0,aS ([]),aN]]) (by
  have h0:=(Qw9 (k:=1) q1 (bneF q2)).1;rw [Qef (Qj3 hk h0) (bneF q3)];have he0:=bneF q3;refine W2s ⟨sR,?_,trivial⟩;show Sub _ (.agg (repA ⟨_,_,_,_,_,_⟩))
  first | (rw [he0];exact Qby _ _ _ _ _) | (show Sub _ (.agg (repA (errR _)));rw [he0];exact Qby _ _ _ _ _)))
theorem Qtu (f:Fsy) (c:Cal) (okf:OkF f) (okc:OkCal c) (hp:Qan f) (htx:c.text.length≤500000) (hk:c.kind=5):Qai prog 70 [.agg (fsyA f),.agg (calA c)] (.tup [.agg (fsyA (doF f c).1),.agg (repA (doF f c).2)]):=by
 have hl:=hp.1;have hr:=Qaf hp;have hcn:=okc.name;have hcn2:=okc.name2;have hct:=okc.text;exact Qae func70 (
 .new fun b1=>.new fun b2=>.new fun b3=>.new fun b4=>.u 3 [b1,b2]<|
 .call (Qa2 f c.ino (by omega))<|
 .r 3<|.new fun b5=>.u 2 [b5]<|
 .r 2<|.br 21 (!(Qav f c.ino)) (fun q1=>have q1:=notT q1;have p1:=booF q1;.ord [0,1,2,3]<|.u 1 [b1]<|
 .call (Qbs 6)<|
 .u 2 [b3,b4]<|
 .f (.tup [.agg (fsyA (doF f c).1),.agg (repA (doF f c).2)]) [b3,b4] (.tup [.agg (fsyA f),.agg [aI ((errR 6).e),aI ((errR 6).a),aI ((errR 6).b),aI ((errR 6).n),aS ((errR 6).text),.sl 1 false ((errR 6).names.map txA)]]) (by
  rw [Zaa hk (Zfd q1).1 (by decide)];exact sR))
 <| fun q1=>have q1:=notF q1;have p1:=booT q1;.u 3 [b2]<|
 .is 26 (show (c.kind==13)=false from (by rw [hk];rfl))<|.u 3 [b5]<|
 .br 38 (((Qaa f c.ino).kind) != 1) (fun q2=>have p2:=bneT q2;.ord [0,1,2,3]<|.u 1 [b1]<|
 .call (Qbs 14)<|
 .u 2 [b3,b4]<|
 .f (.tup [.agg (fsyA (doF f c).1),.agg (repA (doF f c).2)]) [b3,b4] (.tup [.agg (fsyA f),.agg [aI ((errR 14).e),aI ((errR 14).a),aI ((errR 14).b),aI ((errR 14).n),aS ((errR 14).text),.sl 1 false ((errR 14).names.map txA)]]) (by
  rw [Zaa hk (Qua (k:=1) q1 (bneT q2)).1 (by decide)];exact sR))
 <| fun q2=>have p2:=bneF q2;.u 3 [b2]<|
 .is 43 (show (c.kind==3)=false from (by rw [hk];rfl))<|.r 1<|.new fun b6=>.u 1 [b6]<|
 .u 4 [b5,b2]<|
 .call (Qp4 (Qaa f c.ino).text c.many (by have:=Qf6 hp c.ino;omega) okc.many)<|
 .r 5<|.u 3 [b2]<|
 .is 69 (show (c.kind==4)=false from (by rw [hk];rfl))<|.r 2<|.br 85 (((cutD (Qaa f c.ino).text c.many).2) != 0) (fun q3=>have p3:=bneT q3;.ord [0,1,2,3,4]<|.u 2 [b1]<|
 .call (Qbs ((cutD (Qaa f c.ino).text c.many).2))<|
 .u 2 [b3,b4]<|
 .f (.tup [.agg (fsyA (doF f c).1),.agg (repA (doF f c).2)]) [b3,b4] (.tup [.agg (fsyA f),.agg [aI ((errR ((cutD (Qaa f c.ino).text c.many).2)).e),aI ((errR ((cutD (Qaa f c.ino).text c.many).2)).a),aI ((errR ((cutD (Qaa f c.ino).text c.many).2)).b),aI ((errR ((cutD (Qaa f c.ino).text c.many).2)).n),aS ((errR ((cutD (Qaa f c.ino).text c.many).2)).text),.sl 1 false ((errR ((cutD (Qaa f c.ino).text c.many).2)).names.map txA)]]) (by
  have h0:=(Qw9 (k:=1) q1 (bneF q2)).1;rw [dono (by rw [Qsn hk h0];try rfl) (bneT q3)];exact sR))
 <| fun q3=>have p3:=bneF q3;.u 3 [b5]<|
 let J1:Jn (Unit):=⟨fun j1=>⟨[(4,.ptr 4 b3 0),(5,.ptr 5 b4 0)],[(4,.box b3 28 [.sl 5 false ((putF f (Qei (Qaa f c.ino) (cutD (Qaa f c.ino).text c.many).1)).l.map nodA),aI ((putF f (Qei (Qaa f c.ino) (cutD (Qaa f c.ino).text c.many).1)).next)]),(5,.box b4 45 [aI 0,aI 0,aI 0,aI 0,aS ([]),aN])]⟩,fun _=>True⟩
 .cut J1 (.pick [0,1]<|.u 2 [b1,b5]<|
 .fork<|.alt (.cs (args0:=[.agg (fsyA f),.agg [aI ((Qaa f c.ino).ino),aI ((Qaa f c.ino).kind),aI ((Qaa f c.ino).links),aS ((cutD (Qaa f c.ino).text c.many).1),.sl 2 false ((Qaa f c.ino).l.map entA)]]) (Qd4 f (Qei (Qaa f c.ino) (cutD (Qaa f c.ino).text c.many).1) (Qcg okf hp c.ino) (by omega) hr) sr2<|
 .fork<|.alt (.u 1 [b6]<|
 .pick [4,5]<|.u 2 [b3,b4]<|
 .jo J1 () [] [] sr2 bb2)
 <| .u 1 [b3]<|
 .pick [3,5]<|.u 2 [b6,b4]<|
 .jo J1 () [] [] sr2 bb2)
 <| .u 1 [b6]<|
 .pick [2,4,5]<|.cs (args0:=[.agg (fsyA f),.agg [aI ((Qaa f c.ino).ino),aI ((Qaa f c.ino).kind),aI ((Qaa f c.ino).links),aS ((cutD (Qaa f c.ino).text c.many).1),.sl 2 false ((Qaa f c.ino).l.map entA)]]) (Qd4 f (Qei (Qaa f c.ino) (cutD (Qaa f c.ino).text c.many).1) (Qcg okf hp c.ino) (by omega) hr) sr2<|
 .u 2 [b3,b4]<|
 .jo J1 () [] [] sr2 bb2)
 <| fun _ _=>.f (.tup [.agg (fsyA (doF f c).1),.agg (repA (doF f c).2)]) [b3,b4] (.tup [.agg [.sl 5 false ((putF f (Qei (Qaa f c.ino) (cutD (Qaa f c.ino).text c.many).1)).l.map nodA),aI ((putF f (Qei (Qaa f c.ino) (cutD (Qaa f c.ino).text c.many).1)).next)],.agg [aI 0,aI 0,aI 0,aI 0,aS ([]),aN]]) (by
  have h0:=(Qw9 (k:=1) q1 (bneF q2)).1;rw [Qef (Qsn hk h0) (bneF q3)];have he0:=bneF q3;refine W2s ⟨sR,?_,trivial⟩;show Sub _ (.agg (repA ⟨_,_,_,_,_,_⟩))
  first | (rw [he0];exact Qby _ _ _ _ _) | (show Sub _ (.agg (repA (errR _)));rw [he0];exact Qby _ _ _ _ _)))
theorem Qq8 (f:Fsy) (c:Cal) (okf:OkF f) (okc:OkCal c) (hp:Qan f) (htx:c.text.length≤500000) (hk:c.kind=13):Qai prog 70 [.agg (fsyA f),.agg (calA c)] (.tup [.agg (fsyA (doF f c).1),.agg (repA (doF f c).2)]):=by
 have hl:=hp.1;have hr:=Qaf hp;have hcn:=okc.name;have hcn2:=okc.name2;have hct:=okc.text;exact Qae func70 (
 .new fun b1=>.new fun b2=>.new fun b3=>.new fun b4=>.u 3 [b1,b2]<|
 .call (Qa2 f c.ino (by omega))<|
 .r 3<|.new fun b5=>.u 2 [b5]<|
 .r 2<|.br 21 (!(Qav f c.ino)) (fun q1=>have q1:=notT q1;have p1:=booF q1;.ord [0,1,2,3]<|.u 1 [b1]<|
 .call (Qbs 6)<|
 .u 2 [b3,b4]<|
 .f (.tup [.agg (fsyA (doF f c).1),.agg (repA (doF f c).2)]) [b3,b4] (.tup [.agg (fsyA f),.agg [aI ((errR 6).e),aI ((errR 6).a),aI ((errR 6).b),aI ((errR 6).n),aS ((errR 6).text),.sl 1 false ((errR 6).names.map txA)]]) (by
  rw [Qrw hk (Zfd q1).1 (by decide)];exact sR))
 <| fun q1=>have q1:=notF q1;have p1:=booT q1;.u 3 [b2]<|
 .is 26 (show (c.kind==13)=true from (by rw [hk];rfl))<|.u 3 [b5]<|
 .br 29 (((Qaa f c.ino).kind) != 3) (fun q2=>have p2:=bneT q2;.ord [0,1,2,3]<|.u 1 [b1]<|
 .call (Qbs 14)<|
 .u 2 [b3,b4]<|
 .f (.tup [.agg (fsyA (doF f c).1),.agg (repA (doF f c).2)]) [b3,b4] (.tup [.agg (fsyA f),.agg [aI ((errR 14).e),aI ((errR 14).a),aI ((errR 14).b),aI ((errR 14).n),aS ((errR 14).text),.sl 1 false ((errR 14).names.map txA)]]) (by
  rw [Qrw hk (Qua (k:=3) q1 (bneT q2)).1 (by decide)];exact sR))
 <| fun q2=>have p2:=bneF q2;let J1:Jn (Unit):=⟨fun j1=>⟨[(2,.ptr 2 b1 0),(3,.ptr 3 b2 0),(4,.ptr 4 b3 0),(5,.ptr 5 b4 0),(6,.ptr 6 b5 0)],[(2,.box b1 28 (fsyA f)),(3,.box b2 33 (calA c)),(4,.box b3 28 (fsyA f)),(5,.box b4 45 [aI 0,aI 0,aI 0,aI 0,aS ((Qaa f c.ino).text),aN]),(6,.box b5 84 [aI ((Qaa f c.ino).ino),aI ((Qaa f c.ino).kind),aI ((Qaa f c.ino).links),aS ((Qaa f c.ino).text),.sl 2 false ((Qaa f c.ino).l.map entA)])]⟩,fun _=>True⟩
 .cut J1 (.pick [0,1]<|.u 2 [b1]<|
 .fork<|.alt (.u 1 [b5]<|
 .pick [3,4,5]<|.u 3 [b3,b4]<|
 .jo J1 () [] [] sr5 bb5)
 <| .u 1 [b3]<|
 .pick [2,3,5]<|.u 3 [b5,b4]<|
 .jo J1 () [] [] sr5 bb5)
 <| fun _ _=>.f (.tup [.agg (fsyA (doF f c).1),.agg (repA (doF f c).2)]) [b3,b4] (.tup [.agg (fsyA f),.agg [aI 0,aI 0,aI 0,aI 0,aS ((Qaa f c.ino).text),aN]]) (by
  have h0:=(Qw9 (k:=3) q1 (bneF q2)).1;rw [Qrv hk h0];exact W2s ⟨sR,Qby _ _ _ _ _,trivial⟩))
theorem tk_1 {f:Fsy} {c:Cal} {dir:Bool} {odd:Int} (hd:Qb5 f c=Qc8 f c dir odd) (h:¬ Qa4 f c.ino c.name=0):doF f c=(f,errR (Qa4 f c.ino c.name)):=dono (by rw [hd];unfold Qc8;rw [W1x h];rfl) h
theorem tk_2 {f:Fsy} {c:Cal} {dir:Bool} {odd:Int} (hd:Qb5 f c=Qc8 f c dir odd) (h:Qa4 f c.ino c.name=0) (h2:(((lookN f c.ino c.name).kind==2) != dir)=true) (ho:¬ odd=0):doF f c=(f,errR odd):=dono (by rw [hd];unfold Qc8;rw [W1y h,W1y h2];rfl) ho
theorem tk_3 {f:Fsy} {c:Cal} {dir:Bool} {odd:Int} (hd:Qb5 f c=Qc8 f c dir odd) (h:Qa4 f c.ino c.name=0) (h2:(((lookN f c.ino c.name).kind==2) != dir)=false):doF f c=(Qdm f c.ino c.name,errR (Qbd f c.ino c.name)):=by
 have hd2:Qb5 f c=(Qdm f c.ino c.name,errR (Qbd f c.ino c.name)):=by rw [hd];unfold Qc8;rw [W1y h,W1x (by rw [h2];decide)]
 by_cases he:Qbd f c.ino c.name=0
 ·exact Qef hd2 he
 ·rw [Qk4 hd2 he,show Qdm f c.ino c.name=f from W1x he];rfl
theorem Qwo (f:Fsy) (c:Cal) (okf:OkF f) (okc:OkCal c) (hp:Qan f) (hx:f.next<9223372036854775807) (hk:c.kind=6):Qai prog 71 [.agg (fsyA f),.agg (calA c)] (.tup [.agg (fsyA (doF f c).1),.agg (repA (doF f c).2)]):=by
 have hl:=hp.1;have hr:=Qaf hp;have hcn:=okc.name;have hcn2:=okc.name2;have hct:=okc.text;exact Qae func71 (
 .new fun b1=>.new fun b2=>.new fun b3=>.new fun b4=>.r 1<|.new fun b5=>.u 1 [b5]<|
 .u 3 [b2]<|
 .is 12 (show (c.kind==7)=false from (by rw [hk];rfl))<|.u 3 [b2]<|
 .is 16 (show (c.kind==8)=false from (by rw [hk];rfl))<|.u 6 [b1,b2,b2,b5]<|
 .cs (args0:=[.agg (fsyA f),aI c.ino,aS c.name,.agg [aI 0,aI 1,aI 0,aS ([]),aN]]) (Qns f c.ino c.name ⟨0,1,0,[],[]⟩ okf hp hcn Qrz hx) ⟨sR,sR,sR,W2t ⟨sR,sR,sR,sR,Sub.nil _ _,trivial⟩,trivial⟩<|
 .r 3<|.new fun b6=>.u 2 [b6]<|
 .r 2<|.br 38 ((Qaw f c.ino c.name ⟨0,1,0,[],[]⟩) != 0) (fun q1=>have p1:=bneT q1;.ord [0,1,2,3,4]<|.u 2 [b1]<|
 .call (Qbs (Qaw f c.ino c.name ⟨0,1,0,[],[]⟩))<|
 .u 2 [b3,b4]<|
 .f (.tup [.agg (fsyA (doF f c).1),.agg (repA (doF f c).2)]) [b3,b4] (.tup [.agg (fsyA f),.agg [aI ((errR (Qaw f c.ino c.name ⟨0,1,0,[],[]⟩)).e),aI ((errR (Qaw f c.ino c.name ⟨0,1,0,[],[]⟩)).a),aI ((errR (Qaw f c.ino c.name ⟨0,1,0,[],[]⟩)).b),aI ((errR (Qaw f c.ino c.name ⟨0,1,0,[],[]⟩)).n),aS ((errR (Qaw f c.ino c.name ⟨0,1,0,[],[]⟩)).text),.sl 1 false ((errR (Qaw f c.ino c.name ⟨0,1,0,[],[]⟩)).names.map txA)]]) (by
  rw [Zib (Qqp hk) rfl (bneT q1)];exact sR))
 <| fun q1=>have p1:=bneF q1;let J1:Jn (Unit):=⟨fun j1=>⟨[(4,.ptr 4 b3 0),(5,.ptr 5 b4 0)],[(4,.box b3 28 [.sl 5 false ((if Qaw f c.ino c.name ⟨0,1,0,[],[]⟩=0 then addF f c.ino c.name (addN f ⟨0,1,0,[],[]⟩) else f).l.map nodA),aI ((if Qaw f c.ino c.name ⟨0,1,0,[],[]⟩=0 then addF f c.ino c.name (addN f ⟨0,1,0,[],[]⟩) else f).next)]),(5,.box b4 45 [aI 0,aI f.next,aI 0,aI 0,aS ([]),aN])]⟩,fun _=>True⟩
 .cut J1 (.pick [0,1]<|.u 2 [b6]<|
 .fork<|.alt (.u 1 [b1]<|
 .pick [3,4,5]<|.u 3 [b3,b4]<|
 .jo J1 () [] [] sr2 bb2)
 <| .u 1 [b3]<|
 .pick [2,3,5]<|.u 3 [b1,b4]<|
 .jo J1 () [] [] sr2 bb2)
 <| fun _ _=>.f (.tup [.agg (fsyA (doF f c).1),.agg (repA (doF f c).2)]) [b3,b4] (.tup [.agg [.sl 5 false ((if Qaw f c.ino c.name ⟨0,1,0,[],[]⟩=0 then addF f c.ino c.name (addN f ⟨0,1,0,[],[]⟩) else f).l.map nodA),aI ((if Qaw f c.ino c.name ⟨0,1,0,[],[]⟩=0 then addF f c.ino c.name (addN f ⟨0,1,0,[],[]⟩) else f).next)],.agg [aI 0,aI f.next,aI 0,aI 0,aS ([]),aN]]) (by
  have h0:=bneF q1;rw [Qye (Qqp hk) h0,W1y h0];exact W2s ⟨sR,Qby _ _ _ _ _,trivial⟩))
theorem Qwn (f:Fsy) (c:Cal) (okf:OkF f) (okc:OkCal c) (hp:Qan f) (hx:f.next<9223372036854775807) (hk:c.kind=7):Qai prog 71 [.agg (fsyA f),.agg (calA c)] (.tup [.agg (fsyA (doF f c).1),.agg (repA (doF f c).2)]):=by
 have hl:=hp.1;have hr:=Qaf hp;have hcn:=okc.name;have hcn2:=okc.name2;have hct:=okc.text;exact Qae func71 (
 .new fun b1=>.new fun b2=>.new fun b3=>.new fun b4=>.r 1<|.new fun b5=>.u 1 [b5]<|
 .u 3 [b2]<|
 .is 12 (show (c.kind==7)=true from (by rw [hk];rfl))<|.u 2 [b5]<|
 .u 3 [b2]<|
 .is 16 (show (c.kind==8)=false from (by rw [hk];rfl))<|.u 6 [b1,b2,b2,b5]<|
 .cs (args0:=[.agg (fsyA f),aI c.ino,aS c.name,.agg [aI 0,aI 2,aI 0,aS ([]),aN]]) (Qns f c.ino c.name ⟨0,2,0,[],[]⟩ okf hp hcn Qxl hx) ⟨sR,sR,sR,W2t ⟨sR,sR,sR,sR,Sub.nil _ _,trivial⟩,trivial⟩<|
 .r 3<|.new fun b6=>.u 2 [b6]<|
 .r 2<|.br 38 ((Qaw f c.ino c.name ⟨0,2,0,[],[]⟩) != 0) (fun q1=>have p1:=bneT q1;.ord [0,1,2,3,4]<|.u 2 [b1]<|
 .call (Qbs (Qaw f c.ino c.name ⟨0,2,0,[],[]⟩))<|
 .u 2 [b3,b4]<|
 .f (.tup [.agg (fsyA (doF f c).1),.agg (repA (doF f c).2)]) [b3,b4] (.tup [.agg (fsyA f),.agg [aI ((errR (Qaw f c.ino c.name ⟨0,2,0,[],[]⟩)).e),aI ((errR (Qaw f c.ino c.name ⟨0,2,0,[],[]⟩)).a),aI ((errR (Qaw f c.ino c.name ⟨0,2,0,[],[]⟩)).b),aI ((errR (Qaw f c.ino c.name ⟨0,2,0,[],[]⟩)).n),aS ((errR (Qaw f c.ino c.name ⟨0,2,0,[],[]⟩)).text),.sl 1 false ((errR (Qaw f c.ino c.name ⟨0,2,0,[],[]⟩)).names.map txA)]]) (by
  rw [Zib (Qu4 hk) rfl (bneT q1)];exact sR))
 <| fun q1=>have p1:=bneF q1;let J1:Jn (Unit):=⟨fun j1=>⟨[(4,.ptr 4 b3 0),(5,.ptr 5 b4 0)],[(4,.box b3 28 [.sl 5 false ((if Qaw f c.ino c.name ⟨0,2,0,[],[]⟩=0 then addF f c.ino c.name (addN f ⟨0,2,0,[],[]⟩) else f).l.map nodA),aI ((if Qaw f c.ino c.name ⟨0,2,0,[],[]⟩=0 then addF f c.ino c.name (addN f ⟨0,2,0,[],[]⟩) else f).next)]),(5,.box b4 45 [aI 0,aI f.next,aI 0,aI 0,aS ([]),aN])]⟩,fun _=>True⟩
 .cut J1 (.pick [0,1]<|.u 2 [b6]<|
 .fork<|.alt (.u 1 [b1]<|
 .pick [3,4,5]<|.u 3 [b3,b4]<|
 .jo J1 () [] [] sr2 bb2)
 <| .u 1 [b3]<|
 .pick [2,3,5]<|.u 3 [b1,b4]<|
 .jo J1 () [] [] sr2 bb2)
 <| fun _ _=>.f (.tup [.agg (fsyA (doF f c).1),.agg (repA (doF f c).2)]) [b3,b4] (.tup [.agg [.sl 5 false ((if Qaw f c.ino c.name ⟨0,2,0,[],[]⟩=0 then addF f c.ino c.name (addN f ⟨0,2,0,[],[]⟩) else f).l.map nodA),aI ((if Qaw f c.ino c.name ⟨0,2,0,[],[]⟩=0 then addF f c.ino c.name (addN f ⟨0,2,0,[],[]⟩) else f).next)],.agg [aI 0,aI f.next,aI 0,aI 0,aS ([]),aN]]) (by
  have h0:=bneF q1;rw [Qye (Qu4 hk) h0,W1y h0];exact W2s ⟨sR,Qby _ _ _ _ _,trivial⟩))
theorem Qwm (f:Fsy) (c:Cal) (okf:OkF f) (okc:OkCal c) (hp:Qan f) (hx:f.next<9223372036854775807) (hk:c.kind=8):Qai prog 71 [.agg (fsyA f),.agg (calA c)] (.tup [.agg (fsyA (doF f c).1),.agg (repA (doF f c).2)]):=by
 have hl:=hp.1;have hr:=Qaf hp;have hcn:=okc.name;have hcn2:=okc.name2;have hct:=okc.text;exact Qae func71 (
 .new fun b1=>.new fun b2=>.new fun b3=>.new fun b4=>.r 1<|.new fun b5=>.u 1 [b5]<|
 .u 3 [b2]<|
 .is 12 (show (c.kind==7)=false from (by rw [hk];rfl))<|.u 3 [b2]<|
 .is 16 (show (c.kind==8)=true from (by rw [hk];rfl))<|.u 2 [b5]<|
 .u 4 [b2,b5]<|
 .u 4 [b2]<|
 .bd 24 (((c.text).length:Int)>4096) (fun p1=>.ord [0,1,2,3]<|.u 1 [b1]<|
 .call (Qbs 5)<|
 .u 2 [b3,b4]<|
 .f (.tup [.agg (fsyA (doF f c).1),.agg (repA (doF f c).2)]) [b3,b4] (.tup [.agg (fsyA f),.agg [aI ((errR 5).e),aI ((errR 5).a),aI ((errR 5).b),aI ((errR 5).n),aS ((errR 5).text),.sl 1 false ((errR 5).names.map txA)]]) (by
  rw [Zm2 hk (by omega)];exact sR))
 <| fun p1=>.u 6 [b1,b2,b2,b5]<|
 .cs (args0:=[.agg (fsyA f),aI c.ino,aS c.name,.agg [aI 0,aI 3,aI 0,aS c.text,aN]]) (Qns f c.ino c.name ⟨0,3,0,c.text,[]⟩ okf hp hcn (Qrx (by omega)) hx) ⟨sR,sR,sR,W2t ⟨sR,sR,sR,sR,Sub.nil _ _,trivial⟩,trivial⟩<|
 .r 3<|.new fun b6=>.u 2 [b6]<|
 .r 2<|.br 38 ((Qaw f c.ino c.name ⟨0,3,0,c.text,[]⟩) != 0) (fun q2=>have p2:=bneT q2;.ord [0,1,2,3,4]<|.u 2 [b1]<|
 .call (Qbs (Qaw f c.ino c.name ⟨0,3,0,c.text,[]⟩))<|
 .u 2 [b3,b4]<|
 .f (.tup [.agg (fsyA (doF f c).1),.agg (repA (doF f c).2)]) [b3,b4] (.tup [.agg (fsyA f),.agg [aI ((errR (Qaw f c.ino c.name ⟨0,3,0,c.text,[]⟩)).e),aI ((errR (Qaw f c.ino c.name ⟨0,3,0,c.text,[]⟩)).a),aI ((errR (Qaw f c.ino c.name ⟨0,3,0,c.text,[]⟩)).b),aI ((errR (Qaw f c.ino c.name ⟨0,3,0,c.text,[]⟩)).n),aS ((errR (Qaw f c.ino c.name ⟨0,3,0,c.text,[]⟩)).text),.sl 1 false ((errR (Qaw f c.ino c.name ⟨0,3,0,c.text,[]⟩)).names.map txA)]]) (by
  rw [Zib (Zdi hk (by omega)) rfl (bneT q2)];exact sR))
 <| fun q2=>have p2:=bneF q2;let J1:Jn (Unit):=⟨fun j1=>⟨[(4,.ptr 4 b3 0),(5,.ptr 5 b4 0)],[(4,.box b3 28 [.sl 5 false ((if Qaw f c.ino c.name ⟨0,3,0,c.text,[]⟩=0 then addF f c.ino c.name (addN f ⟨0,3,0,c.text,[]⟩) else f).l.map nodA),aI ((if Qaw f c.ino c.name ⟨0,3,0,c.text,[]⟩=0 then addF f c.ino c.name (addN f ⟨0,3,0,c.text,[]⟩) else f).next)]),(5,.box b4 45 [aI 0,aI f.next,aI 0,aI 0,aS ([]),aN])]⟩,fun _=>True⟩
 .cut J1 (.pick [0,1]<|.u 2 [b6]<|
 .fork<|.alt (.u 1 [b1]<|
 .pick [3,4,5]<|.u 3 [b3,b4]<|
 .jo J1 () [] [] sr2 bb2)
 <| .u 1 [b3]<|
 .pick [2,3,5]<|.u 3 [b1,b4]<|
 .jo J1 () [] [] sr2 bb2)
 <| fun _ _=>.f (.tup [.agg (fsyA (doF f c).1),.agg (repA (doF f c).2)]) [b3,b4] (.tup [.agg [.sl 5 false ((if Qaw f c.ino c.name ⟨0,3,0,c.text,[]⟩=0 then addF f c.ino c.name (addN f ⟨0,3,0,c.text,[]⟩) else f).l.map nodA),aI ((if Qaw f c.ino c.name ⟨0,3,0,c.text,[]⟩=0 then addF f c.ino c.name (addN f ⟨0,3,0,c.text,[]⟩) else f).next)],.agg [aI 0,aI f.next,aI 0,aI 0,aS ([]),aN]]) (by
  have h0:=bneF q2;rw [Qye (Zdi hk (by omega)) h0,W1y h0];exact W2s ⟨sR,Qby _ _ _ _ _,trivial⟩))
theorem Qtx (f:Fsy) (c:Cal) (okf:OkF f) (okc:OkCal c) (hp:Qan f) (hk:c.kind=9):Qai prog 72 [.agg (fsyA f),.agg (calA c)] (.tup [.agg (fsyA (doF f c).1),.agg (repA (doF f c).2)]):=by
 have hl:=hp.1;have hr:=Qaf hp;have hcn:=okc.name;have hcn2:=okc.name2;have hct:=okc.text;exact Qae func72 (
 .new fun b1=>.new fun b2=>.new fun b3=>.new fun b4=>.u 5 [b1,b2,b2]<|
 .call (Qeo f c.ino c.name hp hcn)<|
 .r 3<|.new fun b5=>.u 2 [b5]<|
 .r 2<|.br 20 ((Qa4 f c.ino c.name) != 0) (fun q1=>have p1:=bneT q1;.ord [0,1,2,3,4]<|.u 2 [b1]<|
 .call (Qbs (Qa4 f c.ino c.name))<|
 .u 2 [b3,b4]<|
 .f (.tup [.agg (fsyA (doF f c).1),.agg (repA (doF f c).2)]) [b3,b4] (.tup [.agg (fsyA f),.agg [aI ((errR (Qa4 f c.ino c.name)).e),aI ((errR (Qa4 f c.ino c.name)).a),aI ((errR (Qa4 f c.ino c.name)).b),aI ((errR (Qa4 f c.ino c.name)).n),aS ((errR (Qa4 f c.ino c.name)).text),.sl 1 false ((errR (Qa4 f c.ino c.name)).names.map txA)]]) (by
  rw [tk_1 (Qmk hk) (bneT q1)];exact sR))
 <| fun q1=>have p1:=bneF q1;.u 4 [b2]<|
 .is 27 (show (c.kind==9)=true from (by rw [hk];rfl))<|.u 4 [b5]<|
 .br 31 (((lookN f c.ino c.name).kind)==2) (fun q2=>have p2:=beqT q2;.ord [0,1,2,3]<|.u 1 [b1]<|
 .call (Qbs 9)<|
 .u 2 [b3,b4]<|
 .f (.tup [.agg (fsyA (doF f c).1),.agg (repA (doF f c).2)]) [b3,b4] (.tup [.agg (fsyA f),.agg [aI ((errR 9).e),aI ((errR 9).a),aI ((errR 9).b),aI ((errR 9).n),aS ((errR 9).text),.sl 1 false ((errR 9).names.map txA)]]) (by
  rw [tk_2 (Qmk hk) (bneF q1) (by simpa [bne] using q2) (by decide)];exact sR))
 <| fun q2=>have p2:=beqF q2;.u 4 [b2]<|
 .is 37 (show (c.kind==10)=false from (by rw [hk];rfl))<|.r 4<|.u 5 [b1,b2,b2]<|
 .call (Qpz f c.ino c.name okf hp hcn)<|
 .r 3<|.new fun b6=>.u 2 [b6]<|
 .ord [0,1,2,3,4]<|.u 2 [b6]<|
 .call (Qbs (Qbd f c.ino c.name))<|
 .u 2 [b3,b4]<|
 .f (.tup [.agg (fsyA (doF f c).1),.agg (repA (doF f c).2)]) [b3,b4] (.tup [.agg [.sl 5 false ((Qdm f c.ino c.name).l.map nodA),aI ((Qdm f c.ino c.name).next)],.agg [aI ((errR (Qbd f c.ino c.name)).e),aI ((errR (Qbd f c.ino c.name)).a),aI ((errR (Qbd f c.ino c.name)).b),aI ((errR (Qbd f c.ino c.name)).n),aS ((errR (Qbd f c.ino c.name)).text),.sl 1 false ((errR (Qbd f c.ino c.name)).names.map txA)]]) (by
  rw [tk_3 (Qmk hk) (bneF q1) (by simpa [bne] using q2)];exact sR))
theorem Qq9 (f:Fsy) (c:Cal) (okf:OkF f) (okc:OkCal c) (hp:Qan f) (hk:c.kind=10):Qai prog 72 [.agg (fsyA f),.agg (calA c)] (.tup [.agg (fsyA (doF f c).1),.agg (repA (doF f c).2)]):=by
 have hl:=hp.1;have hr:=Qaf hp;have hcn:=okc.name;have hcn2:=okc.name2;have hct:=okc.text;exact Qae func72 (
 .new fun b1=>.new fun b2=>.new fun b3=>.new fun b4=>.u 5 [b1,b2,b2]<|
 .call (Qeo f c.ino c.name hp hcn)<|
 .r 3<|.new fun b5=>.u 2 [b5]<|
 .r 2<|.br 20 ((Qa4 f c.ino c.name) != 0) (fun q1=>have p1:=bneT q1;.ord [0,1,2,3,4]<|.u 2 [b1]<|
 .call (Qbs (Qa4 f c.ino c.name))<|
 .u 2 [b3,b4]<|
 .f (.tup [.agg (fsyA (doF f c).1),.agg (repA (doF f c).2)]) [b3,b4] (.tup [.agg (fsyA f),.agg [aI ((errR (Qa4 f c.ino c.name)).e),aI ((errR (Qa4 f c.ino c.name)).a),aI ((errR (Qa4 f c.ino c.name)).b),aI ((errR (Qa4 f c.ino c.name)).n),aS ((errR (Qa4 f c.ino c.name)).text),.sl 1 false ((errR (Qa4 f c.ino c.name)).names.map txA)]]) (by
  rw [tk_1 (Qii hk) (bneT q1)];exact sR))
 <| fun q1=>have p1:=bneF q1;.u 4 [b2]<|
 .is 27 (show (c.kind==9)=false from (by rw [hk];rfl))<|.r 4<|.u 4 [b2]<|
 .is 37 (show (c.kind==10)=true from (by rw [hk];rfl))<|.u 4 [b5]<|
 .br 41 (((lookN f c.ino c.name).kind) != 2) (fun q2=>have p2:=bneT q2;.ord [0,1,2,3]<|.u 1 [b1]<|
 .call (Qbs 8)<|
 .u 2 [b3,b4]<|
 .f (.tup [.agg (fsyA (doF f c).1),.agg (repA (doF f c).2)]) [b3,b4] (.tup [.agg (fsyA f),.agg [aI ((errR 8).e),aI ((errR 8).a),aI ((errR 8).b),aI ((errR 8).n),aS ((errR 8).text),.sl 1 false ((errR 8).names.map txA)]]) (by
  rw [tk_2 (Qii hk) (bneF q1) (by simpa [bne] using q2) (by decide)];exact sR))
 <| fun q2=>have p2:=bneF q2;.u 5 [b1,b2,b2]<|
 .call (Qpz f c.ino c.name okf hp hcn)<|
 .r 3<|.new fun b6=>.u 2 [b6]<|
 .ord [0,1,2,3,4]<|.u 2 [b6]<|
 .call (Qbs (Qbd f c.ino c.name))<|
 .u 2 [b3,b4]<|
 .f (.tup [.agg (fsyA (doF f c).1),.agg (repA (doF f c).2)]) [b3,b4] (.tup [.agg [.sl 5 false ((Qdm f c.ino c.name).l.map nodA),aI ((Qdm f c.ino c.name).next)],.agg [aI ((errR (Qbd f c.ino c.name)).e),aI ((errR (Qbd f c.ino c.name)).a),aI ((errR (Qbd f c.ino c.name)).b),aI ((errR (Qbd f c.ino c.name)).n),aS ((errR (Qbd f c.ino c.name)).text),.sl 1 false ((errR (Qbd f c.ino c.name)).names.map txA)]]) (by
  rw [tk_3 (Qii hk) (bneF q1) (by simpa [bne] using q2)];exact sR))
end Go.Proofs.YtahlldgocpabjaaGreat
