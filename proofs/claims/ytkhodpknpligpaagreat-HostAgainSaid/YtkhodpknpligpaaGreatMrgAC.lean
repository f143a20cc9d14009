import Derived.Test.YtkhodpknpligpaaGreatAl
import Derived.Test.YtkhodpknpligpaaGreatMrgAB
import Derived.Test.YtkhodpknpligpaaGreatMrgI
import Derived.Test.YtkhodpknpligpaaGreatMrgH
import Derived.Test.YtkhodpknpligpaaGreatMrgT
set_option maxRecDepth 100000
set_option maxHeartbeats 8000000
set_option linter.unusedVariables false
set_option linter.unusedSimpArgs false
namespace Go.Proofs.YtkhodpknpligpaaGreat
open Go Go.RowKit Copyhold Go.Proofs.Tryz
theorem Qsz (h:Hos) (m:Msg) (okh:OkH h):Qag prog 141 [.agg [.sl 2 false (h.s.l.map chnA),.sl 2 false (h.s.nexts.map cntA),aI h.s.stamp,.sl 4 false (h.rows.map trA),.sl 17 false (h.opens.map opA),aI h.now,aI h.lease],.agg [aI m.kind,aI m.client,aI m.epoch,aI m.seq,aI m.n,aI m.stamp,aI m.c.kind,aI m.c.ino,aI m.c.to,aI m.c.at_,aI m.c.many,aS m.c.name,aS m.c.name2,aS m.c.text]] (.tup [.agg (hosA (Qb2 h m).1),.agg (repA rp0),aI (Qb2 h m).2]):=by
 have hop:=okh.opens;have hmr:=okh.many;have hn1:=okh.now;have hn2:=okh.lease;exact Qac func141 (
 .new fun b1=>.new fun b2=>.new fun b3=>.new fun b4=>.r 1<|.u 2 [b1,b2]<|
 .call (Qd4 h m (by omega))<|
 .r 3<|.new fun b5=>.u 2 [b5]<|
 .r 2<|.br 19 ((Qad h m).2) (fun q1=>have p1:=booT q1;have um:=Qet q1;have uo:OkOp (Qad h m).1:=(by rw [um.1];exact okh.op _ um.2.1);have un:=uo.n;.u 3 [b1,b5,b2]<|
 .call (Qmv h (Qad h m).1 m)<|
 .r 2<|.r 3<|.is 27 (show (!((Qad h m).2))=false from by rw [q1];rfl)<|.r 3<|.br 30 (Qcb h (Qad h m).1 m) (fun q2=>have p2:=booT q2;.r 6<|.u 5 [b1,b2,b1]<|
 .call (Qez h m h.s false (Qcb h (Qad h m).1 m) okh)<|
 .u 6 [b3,b4]<|
 .f (.tup [.agg (hosA (Qb2 h m).1),.agg (repA rp0),aI (Qb2 h m).2]) [b3,b4] (.tup [.agg [.sl 2 false ((decH h m h.s false (Qcb h (Qad h m).1 m)).1.s.l.map chnA),.sl 2 false ((decH h m h.s false (Qcb h (Qad h m).1 m)).1.s.nexts.map cntA),aI ((decH h m h.s false (Qcb h (Qad h m).1 m)).1.s.stamp),.sl 4 false ((decH h m h.s false (Qcb h (Qad h m).1 m)).1.rows.map trA),.sl 17 false ((decH h m h.s false (Qcb h (Qad h m).1 m)).1.opens.map opA),aI ((decH h m h.s false (Qcb h (Qad h m).1 m)).1.now),aI ((decH h m h.s false (Qcb h (Qad h m).1 m)).1.lease)],.agg (repA rp0),aI ((decH h m h.s false (Qcb h (Qad h m).1 m)).2)]) (by
  have ho:oldH h m=Qcb h (Qad h m).1 m:=(by unfold oldH;rw [q1];exact Bool.true_and _)
  rw [show Qb2 h m=_ from W1x (.inr (.inl (ho.trans q2))),ho];exact sR))
 <| fun q2=>have p2:=booF q2;.u 6 [b5,b2]<|
 .bn 36 ((Qad h m).1.n) m.n (fun p3=>.u 5 [b1,b2,b1]<|
 .call (Qez h m h.s false (Qcb h (Qad h m).1 m) okh)<|
 .u 6 [b3,b4]<|
 .f (.tup [.agg (hosA (Qb2 h m).1),.agg (repA rp0),aI (Qb2 h m).2]) [b3,b4] (.tup [.agg [.sl 2 false ((decH h m h.s false (Qcb h (Qad h m).1 m)).1.s.l.map chnA),.sl 2 false ((decH h m h.s false (Qcb h (Qad h m).1 m)).1.s.nexts.map cntA),aI ((decH h m h.s false (Qcb h (Qad h m).1 m)).1.s.stamp),.sl 4 false ((decH h m h.s false (Qcb h (Qad h m).1 m)).1.rows.map trA),.sl 17 false ((decH h m h.s false (Qcb h (Qad h m).1 m)).1.opens.map opA),aI ((decH h m h.s false (Qcb h (Qad h m).1 m)).1.now),aI ((decH h m h.s false (Qcb h (Qad h m).1 m)).1.lease)],.agg (repA rp0),aI ((decH h m h.s false (Qcb h (Qad h m).1 m)).2)]) (by
  have ho:oldH h m=Qcb h (Qad h m).1 m:=(by unfold oldH;rw [q1];exact Bool.true_and _)
  rw [show Qb2 h m=_ from W1x (.inr (.inr p3)),ho];exact sR))
 <| fun p3=>.u 4 [b1,b5]<|
 .call (Qvk h.s (Qad h m).1.t okh.s uo.t uo.was uo.now)<|
 .r 3<|.new fun b6=>.u 2 [b6]<|
 .u 5 [b1,b2,b6]<|
 .call (Qez h m ((Qa6 h.s (Qad h m).1.t).1) (((Qa6 h.s (Qad h m).1.t).2)==0) false okh)<|
 .u 6 [b3,b4]<|
 .f (.tup [.agg (hosA (Qb2 h m).1),.agg (repA rp0),aI (Qb2 h m).2]) [b3,b4] (.tup [.agg [.sl 2 false ((decH h m ((Qa6 h.s (Qad h m).1.t).1) (((Qa6 h.s (Qad h m).1.t).2)==0) false).1.s.l.map chnA),.sl 2 false ((decH h m ((Qa6 h.s (Qad h m).1.t).1) (((Qa6 h.s (Qad h m).1.t).2)==0) false).1.s.nexts.map cntA),aI ((decH h m ((Qa6 h.s (Qad h m).1.t).1) (((Qa6 h.s (Qad h m).1.t).2)==0) false).1.s.stamp),.sl 4 false ((decH h m ((Qa6 h.s (Qad h m).1.t).1) (((Qa6 h.s (Qad h m).1.t).2)==0) false).1.rows.map trA),.sl 17 false ((decH h m ((Qa6 h.s (Qad h m).1.t).1) (((Qa6 h.s (Qad h m).1.t).2)==0) false).1.opens.map opA),aI ((decH h m ((Qa6 h.s (Qad h m).1.t).1) (((Qa6 h.s (Qad h m).1.t).2)==0) false).1.now),aI ((decH h m ((Qa6 h.s (Qad h m).1.t).1) (((Qa6 h.s (Qad h m).1.t).2)==0) false).1.lease)],.agg (repA rp0),aI ((decH h m ((Qa6 h.s (Qad h m).1.t).1) (((Qa6 h.s (Qad h m).1.t).2)==0) false).2)]) (by
  have ho:oldH h m=Qcb h (Qad h m).1 m:=(by unfold oldH;rw [q1];exact Bool.true_and _)
  rw [show Qb2 h m=_ from W1w (fun c=>by rcases c with c | c | c;(· rw [q1] at c;cases c);(· rw [ho,q2] at c;cases c);exact c p3)];exact sR))
 <| fun q1=>have p1:=booF q1;.r 6<|.r 3<|.is 27 (show (!((Qad h m).2))=true from by rw [q1];rfl)<|.r 9<|.u 5 [b1,b2,b1]<|
 .call (Qez h m h.s false false okh)<|
 .u 6 [b3,b4]<|
 .f (.tup [.agg (hosA (Qb2 h m).1),.agg (repA rp0),aI (Qb2 h m).2]) [b3,b4] (.tup [.agg [.sl 2 false ((decH h m h.s false false).1.s.l.map chnA),.sl 2 false ((decH h m h.s false false).1.s.nexts.map cntA),aI ((decH h m h.s false false).1.s.stamp),.sl 4 false ((decH h m h.s false false).1.rows.map trA),.sl 17 false ((decH h m h.s false false).1.opens.map opA),aI ((decH h m h.s false false).1.now),aI ((decH h m h.s false false).1.lease)],.agg (repA rp0),aI ((decH h m h.s false false).2)]) (by
  have ho:oldH h m=false:=(by unfold oldH;rw [q1];rfl)
  rw [show Qb2 h m=_ from W1x (.inl q1),ho];exact sR))
theorem Qv2 (h:Hos) (m:Msg) (okh:OkH h):Qag prog 146 [.agg [.sl 2 false (h.s.l.map chnA),.sl 2 false (h.s.nexts.map cntA),aI h.s.stamp,.sl 4 false (h.rows.map trA),.sl 17 false (h.opens.map opA),aI h.now,aI h.lease],.agg [aI m.kind,aI m.client,aI m.epoch,aI m.seq,aI m.n,aI m.stamp,aI m.c.kind,aI m.c.ino,aI m.c.to,aI m.c.at_,aI m.c.many,aS m.c.name,aS m.c.name2,aS m.c.text]] (.tup [.agg (hosA (decH h m h.s false false).1),.agg (repA rp0),aI (decH h m h.s false false).2]):=by
 have hop:=okh.opens;have hmr:=okh.many;have hn1:=okh.now;have hn2:=okh.lease;exact Qac func146 (let R:AV:=.tup [.agg (hosA (decH h m h.s false false).1),.agg (repA rp0),aI (decH h m h.s false false).2];
 .new fun b1=>.new fun b2=>.new fun b3=>.new fun b4=>.r 1<|.u 4 [b1,b2,b1]<|
 .call (Qez h m h.s false false okh)<|
 .u 6 [b3,b4]<|
 .fi R [b3,b4])
theorem Zfv (h:Hos) (m:Msg) (okh:OkH h):Qag prog 147 [.agg [.sl 2 false (h.s.l.map chnA),.sl 2 false (h.s.nexts.map cntA),aI h.s.stamp,.sl 4 false (h.rows.map trA),.sl 17 false (h.opens.map opA),aI h.now,aI h.lease],.agg [aI m.kind,aI m.client,aI m.epoch,aI m.seq,aI m.n,aI m.stamp,aI m.c.kind,aI m.c.ino,aI m.c.to,aI m.c.at_,aI m.c.many,aS m.c.name,aS m.c.name2,aS m.c.text]] (.tup [.agg (hosA (askH h m).1),.agg (repA rp0),aI (askH h m).2]):=by
 have hop:=okh.opens;have hmr:=okh.many;have hn1:=okh.now;have hn2:=okh.lease;exact Qac func147 (
 .new fun b1=>.new fun b2=>.new fun b3=>.new fun b4=>.r 1<|.u 2 [b1,b2]<|
 .call (Qd4 h m (by omega))<|
 .r 3<|.new fun b5=>.u 2 [b5]<|
 .r 2<|.br 16 ((Qad h m).2) (fun q1=>have p1:=booT q1;have um:=Qet q1;have uo:OkOp (Qad h m).1:=(by rw [um.1];exact okh.op _ um.2.1);have un:=uo.n;.u 3 [b1,b5,b2]<|
 .call (Qmv h (Qad h m).1 m)<|
 .r 2<|.br 22 (!(Qcb h (Qad h m).1 m)) (fun q2=>have q2:=notT q2;have p2:=booF q2;.u 5 [b1,b3,b4]<|
 .f (.tup [.agg (hosA (askH h m).1),.agg (repA rp0),aI (askH h m).2]) [b3,b4] (.tup [.agg [.sl 2 false (h.s.l.map chnA),.sl 2 false (h.s.nexts.map cntA),aI h.s.stamp,.sl 4 false (h.rows.map trA),.sl 17 false (h.opens.map opA),aI h.now,aI h.lease],.agg [aI 0,aI 0,aI 0,aI 0,aS ([]),aN],aI 20]) (by
  rw [show askH h m=_ from W1x ⟨q1,q2⟩];exact W2q ⟨sR,W2r ⟨sR,sR,sR,sR,sR,Sub.nil _ _,trivial⟩,sR,trivial⟩))
 <| fun q2=>have q2:=notF q2;have p2:=booT q2;.u 4 [b1,b2,b1]<|
 .call (Qez h m h.s false false okh)<|
 .u 6 [b3,b4]<|
 .f (.tup [.agg (hosA (askH h m).1),.agg (repA rp0),aI (askH h m).2]) [b3,b4] (.tup [.agg [.sl 2 false ((decH h m h.s false false).1.s.l.map chnA),.sl 2 false ((decH h m h.s false false).1.s.nexts.map cntA),aI ((decH h m h.s false false).1.s.stamp),.sl 4 false ((decH h m h.s false false).1.rows.map trA),.sl 17 false ((decH h m h.s false false).1.opens.map opA),aI ((decH h m h.s false false).1.now),aI ((decH h m h.s false false).1.lease)],.agg (repA rp0),aI ((decH h m h.s false false).2)]) (by
  rw [show askH h m=_ from W1w (fun c=>by obtain ⟨c1,c2⟩:=c;simp_all)];exact sR))
 <| fun q1=>have p1:=booF q1;.r 6<|.u 4 [b1,b2,b1]<|
 .call (Qez h m h.s false false okh)<|
 .u 6 [b3,b4]<|
 .f (.tup [.agg (hosA (askH h m).1),.agg (repA rp0),aI (askH h m).2]) [b3,b4] (.tup [.agg [.sl 2 false ((decH h m h.s false false).1.s.l.map chnA),.sl 2 false ((decH h m h.s false false).1.s.nexts.map cntA),aI ((decH h m h.s false false).1.s.stamp),.sl 4 false ((decH h m h.s false false).1.rows.map trA),.sl 17 false ((decH h m h.s false false).1.opens.map opA),aI ((decH h m h.s false false).1.now),aI ((decH h m h.s false false).1.lease)],.agg (repA rp0),aI ((decH h m h.s false false).2)]) (by
  rw [show askH h m=_ from W1w (fun c=>by obtain ⟨c1,c2⟩:=c;simp_all)];exact sR))
theorem Zkr {h:Hos} {m:Msg} (hk:m.kind=1):Qid h m=Qbo h m:=by unfold Qid;rw [W1x hk]
theorem Zeh {h:Hos} {m:Msg} (hk:m.kind=2):Qid h m=Qcv h m:=by unfold Qid;rw [W1w (by omega),W1x hk]
theorem Zeg {h:Hos} {m:Msg} (hk:m.kind=3):Qid h m=((Qb2 h m).1,rp0,(Qb2 h m).2):=by unfold Qid;rw [W1w (by omega),W1w (by omega),W1x hk]
theorem Zkq {h:Hos} {m:Msg} (hk:m.kind=4):Qid h m=((decH h m h.s false false).1,rp0,(decH h m h.s false false).2):=by unfold Qid;rw [W1w (by omega),W1w (by omega),W1w (by omega),W1x hk]
theorem Zkp {h:Hos} {m:Msg} (hk:m.kind=5):Qid h m=((askH h m).1,rp0,(askH h m).2):=by unfold Qid;rw [W1w (by omega),W1w (by omega),W1w (by omega),W1w (by omega)]
def Qka:List (MK × AV):=[(.i 1,.val (.func (.func 139) #[] #[])),(.i 2,.val (.func (.func 140) #[] #[])),(.i 3,.val (.func (.func 141) #[] #[])),(.i 4,.val (.func (.func 146) #[] #[])),(.i 5,.val (.func (.func 147) #[] #[]))]
theorem Qku :Qag prog 109 [] (.mp Qka):=by
 exact Qac func109 (
 .r 1<|.mkMap fun r1=>.ins (kk:=.i 1) (es:=[]) r1 (by rfl)<|.ins (kk:=.i 2) (es:=[(.i 1,.val (.func (.func 139) #[] #[]))]) r1 (by rfl)<|.ins (kk:=.i 3) (es:=[(.i 1,.val (.func (.func 139) #[] #[])),(.i 2,.val (.func (.func 140) #[] #[]))]) r1 (by rfl)<|.ins (kk:=.i 4) (es:=[(.i 1,.val (.func (.func 139) #[] #[])),(.i 2,.val (.func (.func 140) #[] #[])),(.i 3,.val (.func (.func 141) #[] #[]))]) r1 (by rfl)<|.ins (kk:=.i 5) (es:=[(.i 1,.val (.func (.func 139) #[] #[])),(.i 2,.val (.func (.func 140) #[] #[])),(.i 3,.val (.func (.func 141) #[] #[])),(.i 4,.val (.func (.func 146) #[] #[]))]) r1 (by rfl)<|.r 2<|.frz 1 [0] [] [r1=r1] rt1<|
 .fi (.mp Qka) [])
noncomputable def Zf0 (h:Hos) (m:Msg) (okh:OkH h) (fn j:Nat) (g:Hos × Rep × Int) (hk1:1≤m.kind) (hk5:m.kind≤5) (hl:Qdb (.i m.kind) Qka 0=some (j,.val (.func (.func fn) #[] #[]))) (hd:Qid h m=g) (hs:Qag prog fn [.agg [.sl 2 false (h.s.l.map chnA),.sl 2 false (h.s.nexts.map cntA),aI h.s.stamp,.sl 4 false (h.rows.map trA),.sl 17 false (h.opens.map opA),aI h.now,aI h.lease],.agg [aI m.kind,aI m.client,aI m.epoch,aI m.seq,aI m.n,aI m.stamp,aI m.c.kind,aI m.c.ino,aI m.c.to,aI m.c.at_,aI m.c.many,aS m.c.name,aS m.c.name2,aS m.c.text]] (.tup [.agg (hosA g.1),.agg (repA g.2.1),aI g.2.2])):Ct prog:=
 have hop:=okh.opens;
 have hmr:=okh.many;
 have hn1:=okh.now;
 have hn2:=okh.lease;
 .new fun b1=>.new fun b2=>.new fun b3=>.new fun b4=>.r 1<|.u 3 [b2]<|
 .is 14 (show (m.kind==6)=false from (beq_eq_false_iff_ne.2 (by omega)))<|.u 8 [b1,b2,b2,b2]<|
 .call (Qqz h.rows m.client m.epoch m.seq okh.rows)<|
 .r 5<|.ord [1,2,0,3,4,5,6,7,8]<|.u 2 [b2]<|
 .call (Qku)<|
 .look (kk:=.i m.kind) (es:=Qka) (fd:=some (j,.val (.func (.func fn) #[] #[]))) hl<|.r 5<|.r 3<|.be 53 ((askF h.rows m.client m.epoch m.seq).2) 6 (fun p1=>.r 3<|.u 3 [b1,b2]<|
 .call (hs)<|
 .u 6 [b3,b4]<|
 .f (.tup [.agg (hosA (ansH h m).1),.agg (repA (ansH h m).2.1),aI (ansH h m).2.2]) [b3,b4] (.tup [.agg [.sl 2 false (g.1.s.l.map chnA),.sl 2 false (g.1.s.nexts.map cntA),aI g.1.s.stamp,.sl 4 false (g.1.rows.map trA),.sl 17 false (g.1.opens.map opA),aI g.1.now,aI g.1.lease],.agg (repA g.2.1),aI g.2.2]) (by
  rw [show ansH h m=_ from (W1w (by omega)).trans (W1x ⟨p1,by omega,by omega⟩),hd];exact sR))
 <| fun p1=>.r 3<|.r 3<|.bn 66 ((askF h.rows m.client m.epoch m.seq).2) 0 (fun p2=>.r 4<|.bn 63 ((askF h.rows m.client m.epoch m.seq).2) 6 (fun p3=>.u 6 [b1,b3,b4]<|
 .f (.tup [.agg (hosA (ansH h m).1),.agg (repA (ansH h m).2.1),aI (ansH h m).2.2]) [b3,b4] (.tup [.agg [.sl 2 false (h.s.l.map chnA),.sl 2 false (h.s.nexts.map cntA),aI h.s.stamp,.sl 4 false (h.rows.map trA),.sl 17 false (h.opens.map opA),aI h.now,aI h.lease],.agg [aI 0,aI 0,aI 0,aI 0,aS ([]),aN],aI ((askF h.rows m.client m.epoch m.seq).2)]) (by
  rw [show ansH h m=_ from (W1w (by omega)).trans ((W1w (by omega)).trans (W1x (by omega)))];exact W2q ⟨sR,W2r ⟨sR,sR,sR,sR,sR,Sub.nil _ _,trivial⟩,sR,trivial⟩))
 <| fun p3=>.r 3<|.ord [0,1,2,3,4,5,6,7,8]<|.u 5 [b1,b2]<|
 .call (Qkv m.kind ((askF h.rows m.client m.epoch m.seq).1))<|
 .u 3 [b3,b4]<|
 .f (.tup [.agg (hosA (ansH h m).1),.agg (repA (ansH h m).2.1),aI (ansH h m).2.2]) [b3,b4] (.tup [.agg [.sl 2 false (h.s.l.map chnA),.sl 2 false (h.s.nexts.map cntA),aI h.s.stamp,.sl 4 false (h.rows.map trA),.sl 17 false (h.opens.map opA),aI h.now,aI h.lease],.agg [aI 0,aI 0,aI 0,aI 0,aS ([]),aN],aI (Qcw m.kind ((askF h.rows m.client m.epoch m.seq).1))]) (by
  rw [show ansH h m=_ from (W1w (by omega)).trans ((W1w (by omega)).trans ((W1w (by omega)).trans (W1w (by omega))))];exact W2q ⟨sR,W2r ⟨sR,sR,sR,sR,sR,Sub.nil _ _,trivial⟩,sR,trivial⟩))
 <| fun p2=>.r 4<|.r 3<|.ord [0,1,2,3,4,5,6,7,8]<|.u 5 [b1,b2]<|
 .call (Qkv m.kind ((askF h.rows m.client m.epoch m.seq).1))<|
 .u 3 [b3,b4]<|
 .f (.tup [.agg (hosA (ansH h m).1),.agg (repA (ansH h m).2.1),aI (ansH h m).2.2]) [b3,b4] (.tup [.agg [.sl 2 false (h.s.l.map chnA),.sl 2 false (h.s.nexts.map cntA),aI h.s.stamp,.sl 4 false (h.rows.map trA),.sl 17 false (h.opens.map opA),aI h.now,aI h.lease],.agg [aI 0,aI 0,aI 0,aI 0,aS ([]),aN],aI (Qcw m.kind ((askF h.rows m.client m.epoch m.seq).1))]) (by
  rw [show ansH h m=_ from (W1w (by omega)).trans ((W1w (by omega)).trans ((W1w (by omega)).trans (W1w (by omega))))];exact W2q ⟨sR,W2r ⟨sR,sR,sR,sR,sR,Sub.nil _ _,trivial⟩,sR,trivial⟩)
theorem Zf5 (h:Hos) (m:Msg) (okh:OkH h) (okm:OkCal m.c) (hk:m.kind=1):Qag prog 60 [.agg [.sl 2 false (h.s.l.map chnA),.sl 2 false (h.s.nexts.map cntA),aI h.s.stamp,.sl 4 false (h.rows.map trA),.sl 17 false (h.opens.map opA),aI h.now,aI h.lease],.agg [aI m.kind,aI m.client,aI m.epoch,aI m.seq,aI m.n,aI m.stamp,aI m.c.kind,aI m.c.ino,aI m.c.to,aI m.c.at_,aI m.c.many,aS m.c.name,aS m.c.name2,aS m.c.text]] (.tup [.agg (hosA (ansH h m).1),.agg (repA (ansH h m).2.1),aI (ansH h m).2.2]):=
 Qac func60 (Zf0 h m okh 139 0 _ (by omega) (by omega) (by rw [hk];rfl) (Zkr hk) (Qvq h m okh))
theorem Zf4 (h:Hos) (m:Msg) (okh:OkH h) (okm:OkCal m.c) (hk:m.kind=2):Qag prog 60 [.agg [.sl 2 false (h.s.l.map chnA),.sl 2 false (h.s.nexts.map cntA),aI h.s.stamp,.sl 4 false (h.rows.map trA),.sl 17 false (h.opens.map opA),aI h.now,aI h.lease],.agg [aI m.kind,aI m.client,aI m.epoch,aI m.seq,aI m.n,aI m.stamp,aI m.c.kind,aI m.c.ino,aI m.c.to,aI m.c.at_,aI m.c.many,aS m.c.name,aS m.c.name2,aS m.c.text]] (.tup [.agg (hosA (ansH h m).1),.agg (repA (ansH h m).2.1),aI (ansH h m).2.2]):=
 Qac func60 (Zf0 h m okh 140 1 _ (by omega) (by omega) (by rw [hk];rfl) (Zeh hk) (Qz9 h m okh okm))
theorem Zf3 (h:Hos) (m:Msg) (okh:OkH h) (okm:OkCal m.c) (hk:m.kind=3):Qag prog 60 [.agg [.sl 2 false (h.s.l.map chnA),.sl 2 false (h.s.nexts.map cntA),aI h.s.stamp,.sl 4 false (h.rows.map trA),.sl 17 false (h.opens.map opA),aI h.now,aI h.lease],.agg [aI m.kind,aI m.client,aI m.epoch,aI m.seq,aI m.n,aI m.stamp,aI m.c.kind,aI m.c.ino,aI m.c.to,aI m.c.at_,aI m.c.many,aS m.c.name,aS m.c.name2,aS m.c.text]] (.tup [.agg (hosA (ansH h m).1),.agg (repA (ansH h m).2.1),aI (ansH h m).2.2]):=
 Qac func60 (Zf0 h m okh 141 2 _ (by omega) (by omega) (by rw [hk];rfl) (Zeg hk) (Qsz h m okh))
theorem Zf2 (h:Hos) (m:Msg) (okh:OkH h) (okm:OkCal m.c) (hk:m.kind=4):Qag prog 60 [.agg [.sl 2 false (h.s.l.map chnA),.sl 2 false (h.s.nexts.map cntA),aI h.s.stamp,.sl 4 false (h.rows.map trA),.sl 17 false (h.opens.map opA),aI h.now,aI h.lease],.agg [aI m.kind,aI m.client,aI m.epoch,aI m.seq,aI m.n,aI m.stamp,aI m.c.kind,aI m.c.ino,aI m.c.to,aI m.c.at_,aI m.c.many,aS m.c.name,aS m.c.name2,aS m.c.text]] (.tup [.agg (hosA (ansH h m).1),.agg (repA (ansH h m).2.1),aI (ansH h m).2.2]):=
 Qac func60 (Zf0 h m okh 146 3 _ (by omega) (by omega) (by rw [hk];rfl) (Zkq hk) (Qv2 h m okh))
theorem Zf1 (h:Hos) (m:Msg) (okh:OkH h) (okm:OkCal m.c) (hk:m.kind=5):Qag prog 60 [.agg [.sl 2 false (h.s.l.map chnA),.sl 2 false (h.s.nexts.map cntA),aI h.s.stamp,.sl 4 false (h.rows.map trA),.sl 17 false (h.opens.map opA),aI h.now,aI h.lease],.agg [aI m.kind,aI m.client,aI m.epoch,aI m.seq,aI m.n,aI m.stamp,aI m.c.kind,aI m.c.ino,aI m.c.to,aI m.c.at_,aI m.c.many,aS m.c.name,aS m.c.name2,aS m.c.text]] (.tup [.agg (hosA (ansH h m).1),.agg (repA (ansH h m).2.1),aI (ansH h m).2.2]):=
 Qac func60 (Zf0 h m okh 147 4 _ (by omega) (by omega) (by rw [hk];rfl) (Zkp hk) (Zfv h m okh))
theorem Zf6 (h:Hos) (m:Msg) (okh:OkH h) (hk:m.kind<1∨m.kind>5):Qag prog 60 [.agg [.sl 2 false (h.s.l.map chnA),.sl 2 false (h.s.nexts.map cntA),aI h.s.stamp,.sl 4 false (h.rows.map trA),.sl 17 false (h.opens.map opA),aI h.now,aI h.lease],.agg [aI m.kind,aI m.client,aI m.epoch,aI m.seq,aI m.n,aI m.stamp,aI m.c.kind,aI m.c.ino,aI m.c.to,aI m.c.at_,aI m.c.many,aS m.c.name,aS m.c.name2,aS m.c.text]] (.tup [.agg (hosA (ansH h m).1),.agg (repA (ansH h m).2.1),aI (ansH h m).2.2]):=by
 have hop:=okh.opens;have hmr:=okh.many;have hn1:=okh.now;have hn2:=okh.lease;exact Qac func60 (
 .new fun b1=>.new fun b2=>.new fun b3=>.new fun b4=>.r 1<|.u 3 [b2]<|
 .be 14 m.kind 6 (fun p1=>.r 1<|.u 8 [b1,b2,b2,b2]<|
 .call (Qux h.rows m.client m.epoch m.seq okh.rows (by omega) (fun r hr=>W09 (okh.each r hr) (by decide)))<|
 .u 6 [b1]<|
 .u 6 [b1,b3,b4]<|
 .f (.tup [.agg (hosA (ansH h m).1),.agg (repA (ansH h m).2.1),aI (ansH h m).2.2]) [b3,b4] (.tup [.agg [.sl 2 false (h.s.l.map chnA),.sl 2 false (h.s.nexts.map cntA),aI h.s.stamp,.sl 4 false ((Qbg h.rows m.client m.epoch m.seq).1.map trA),.sl 17 false (h.opens.map opA),aI h.now,aI h.lease],.agg [aI 0,aI 0,aI 0,aI 0,aS ([]),aN],aI ((Qbg h.rows m.client m.epoch m.seq).2)]) (by
  rw [show ansH h m=_ from W1x p1];exact W2q ⟨sR,W2r ⟨sR,sR,sR,sR,sR,Sub.nil _ _,trivial⟩,sR,trivial⟩))
 <| fun p1=>.u 8 [b1,b2,b2,b2]<|
 .call (Qqz h.rows m.client m.epoch m.seq okh.rows)<|
 .r 5<|.ord [1,2,0,3,4,5,6,7,8]<|.u 2 [b2]<|
 .call (Qku)<|
 .look (kk:=.i m.kind) (es:=Qka) (fd:=none) (by simp only [Qka,Qdb];repeat rw [W1w (fun h=>by injection h with h;omega)])<|.r 5<|.r 3<|.be 53 ((askF h.rows m.client m.epoch m.seq).2) 6 (fun p2=>.r 3<|.r 3<|.bn 66 ((askF h.rows m.client m.epoch m.seq).2) 0 (fun p3=>.r 4<|.bn 63 ((askF h.rows m.client m.epoch m.seq).2) 6 (fun p4=>.u 6 [b1,b3,b4]<|
 .f (.tup [.agg (hosA (ansH h m).1),.agg (repA (ansH h m).2.1),aI (ansH h m).2.2]) [b3,b4] (.tup [.agg [.sl 2 false (h.s.l.map chnA),.sl 2 false (h.s.nexts.map cntA),aI h.s.stamp,.sl 4 false (h.rows.map trA),.sl 17 false (h.opens.map opA),aI h.now,aI h.lease],.agg [aI 0,aI 0,aI 0,aI 0,aS ([]),aN],aI ((askF h.rows m.client m.epoch m.seq).2)]) (by
  rw [show ansH h m=_ from (W1w (by omega)).trans ((W1w (by omega)).trans (W1x (by omega)))];exact W2q ⟨sR,W2r ⟨sR,sR,sR,sR,sR,Sub.nil _ _,trivial⟩,sR,trivial⟩))
 <| fun p4=>.r 3<|.u 5 [b1,b3,b4]<|
 .f (.tup [.agg (hosA (ansH h m).1),.agg (repA (ansH h m).2.1),aI (ansH h m).2.2]) [b3,b4] (.tup [.agg [.sl 2 false (h.s.l.map chnA),.sl 2 false (h.s.nexts.map cntA),aI h.s.stamp,.sl 4 false (h.rows.map trA),.sl 17 false (h.opens.map opA),aI h.now,aI h.lease],.agg [aI 0,aI 0,aI 0,aI 0,aS ([]),aN],aI 1]) (by
  rw [show ansH h m=_ from (W1w (by omega)).trans ((W1w (by omega)).trans ((W1w (by omega)).trans (W1x (by omega))))];exact W2q ⟨sR,W2r ⟨sR,sR,sR,sR,sR,Sub.nil _ _,trivial⟩,sR,trivial⟩))
 <| fun p3=>.r 4<|.r 3<|.u 5 [b1,b3,b4]<|
 .f (.tup [.agg (hosA (ansH h m).1),.agg (repA (ansH h m).2.1),aI (ansH h m).2.2]) [b3,b4] (.tup [.agg [.sl 2 false (h.s.l.map chnA),.sl 2 false (h.s.nexts.map cntA),aI h.s.stamp,.sl 4 false (h.rows.map trA),.sl 17 false (h.opens.map opA),aI h.now,aI h.lease],.agg [aI 0,aI 0,aI 0,aI 0,aS ([]),aN],aI 1]) (by
  rw [show ansH h m=_ from (W1w (by omega)).trans ((W1w (by omega)).trans ((W1w (by omega)).trans (W1x (by omega))))];exact W2q ⟨sR,W2r ⟨sR,sR,sR,sR,sR,Sub.nil _ _,trivial⟩,sR,trivial⟩))
 <| fun p2=>.r 3<|.r 3<|.bn 66 ((askF h.rows m.client m.epoch m.seq).2) 0 (fun p5=>.r 4<|.bn 63 ((askF h.rows m.client m.epoch m.seq).2) 6 (fun p6=>.u 6 [b1,b3,b4]<|
 .f (.tup [.agg (hosA (ansH h m).1),.agg (repA (ansH h m).2.1),aI (ansH h m).2.2]) [b3,b4] (.tup [.agg [.sl 2 false (h.s.l.map chnA),.sl 2 false (h.s.nexts.map cntA),aI h.s.stamp,.sl 4 false (h.rows.map trA),.sl 17 false (h.opens.map opA),aI h.now,aI h.lease],.agg [aI 0,aI 0,aI 0,aI 0,aS ([]),aN],aI ((askF h.rows m.client m.epoch m.seq).2)]) (by
  rw [show ansH h m=_ from (W1w (by omega)).trans ((W1w (by omega)).trans (W1x (by omega)))];exact W2q ⟨sR,W2r ⟨sR,sR,sR,sR,sR,Sub.nil _ _,trivial⟩,sR,trivial⟩))
 <| fun p6=>.r 3<|.u 5 [b1,b3,b4]<|
 .f (.tup [.agg (hosA (ansH h m).1),.agg (repA (ansH h m).2.1),aI (ansH h m).2.2]) [b3,b4] (.tup [.agg [.sl 2 false (h.s.l.map chnA),.sl 2 false (h.s.nexts.map cntA),aI h.s.stamp,.sl 4 false (h.rows.map trA),.sl 17 false (h.opens.map opA),aI h.now,aI h.lease],.agg [aI 0,aI 0,aI 0,aI 0,aS ([]),aN],aI 1]) (by
  rw [show ansH h m=_ from (W1w (by omega)).trans ((W1w (by omega)).trans ((W1w (by omega)).trans (W1x (by omega))))];exact W2q ⟨sR,W2r ⟨sR,sR,sR,sR,sR,Sub.nil _ _,trivial⟩,sR,trivial⟩))
 <| fun p5=>.r 4<|.r 3<|.u 5 [b1,b3,b4]<|
 .f (.tup [.agg (hosA (ansH h m).1),.agg (repA (ansH h m).2.1),aI (ansH h m).2.2]) [b3,b4] (.tup [.agg [.sl 2 false (h.s.l.map chnA),.sl 2 false (h.s.nexts.map cntA),aI h.s.stamp,.sl 4 false (h.rows.map trA),.sl 17 false (h.opens.map opA),aI h.now,aI h.lease],.agg [aI 0,aI 0,aI 0,aI 0,aS ([]),aN],aI 1]) (by
  rw [show ansH h m=_ from (W1w (by omega)).trans ((W1w (by omega)).trans ((W1w (by omega)).trans (W1x (by omega))))];exact W2q ⟨sR,W2r ⟨sR,sR,sR,sR,sR,Sub.nil _ _,trivial⟩,sR,trivial⟩))
theorem Qvz (h:Hos) (m:Msg) (okh:OkH h) (okm:OkCal m.c):Qag prog 60 [.agg [.sl 2 false (h.s.l.map chnA),.sl 2 false (h.s.nexts.map cntA),aI h.s.stamp,.sl 4 false (h.rows.map trA),.sl 17 false (h.opens.map opA),aI h.now,aI h.lease],.agg [aI m.kind,aI m.client,aI m.epoch,aI m.seq,aI m.n,aI m.stamp,aI m.c.kind,aI m.c.ino,aI m.c.to,aI m.c.at_,aI m.c.many,aS m.c.name,aS m.c.name2,aS m.c.text]] (.tup [.agg (hosA (ansH h m).1),.agg (repA (ansH h m).2.1),aI (ansH h m).2.2]):=by
 rcases (show m.kind=1∨m.kind=2∨m.kind=3∨m.kind=4∨m.kind=5∨(m.kind<1∨m.kind>5) from by omega) with hk | hk | hk | hk | hk | hk
 ·exact Zf5 h m okh okm hk
 ·exact Zf4 h m okh okm hk
 ·exact Zf3 h m okh okm hk
 ·exact Zf2 h m okh okm hk
 ·exact Zf1 h m okh okm hk
 ·exact Zf6 h m okh hk
theorem Qh9 (h:Hos) (m:Msg) (okh:OkH h) (okm:OkCal m.c):Qag prog 27 [.agg [.sl 2 false (h.s.l.map chnA),.sl 2 false (h.s.nexts.map cntA),aI h.s.stamp,.sl 4 false (h.rows.map trA),.sl 17 false (h.opens.map opA),aI h.now,aI h.lease],.agg [aI m.kind,aI m.client,aI m.epoch,aI m.seq,aI m.n,aI m.stamp,aI m.c.kind,aI m.c.ino,aI m.c.to,aI m.c.at_,aI m.c.many,aS m.c.name,aS m.c.name2,aS m.c.text]] (.tup [.agg (hosA (ansH h m).1),.agg (rspA (rspH h m))]):=by
 exact Qac func27 (
 .new fun b1=>.new fun b2=>.new fun b3=>.new fun b4=>.u 2 [b1,b2]<|
 .call (Qvz h m okh okm)<|
 .r 4<|.new fun b5=>.new fun b6=>.u 3 [b5,b6]<|
 .u 12 [b2,b2,b2,b2,b2,b6]<|
 .new fun b7=>.u 1 [b7]<|
 .r 2<|.bn 30 ((ansH h m).2.2) 0 (fun p1=>.u 4 [b7]<|
 .u 3 [b2]<|
 .be 36 m.kind 2 (fun p2=>.u 2 [b7]<|
 let J1:Jn (Unit):=⟨fun j1=>⟨[(4,.ptr 4 b3 0),(5,.ptr 5 b4 0)],[(4,.box b3 29 [.sl 2 false ((ansH h m).1.s.l.map chnA),.sl 2 false ((ansH h m).1.s.nexts.map cntA),aI ((ansH h m).1.s.stamp),.sl 4 false ((ansH h m).1.rows.map trA),.sl 17 false ((ansH h m).1.opens.map opA),aI ((ansH h m).1.now),aI ((ansH h m).1.lease)]),(5,.box b4 66 [aI m.kind,aI m.client,aI m.epoch,aI m.seq,aI (-1),aI ((ansH h m).2.2),aI 0,aI 0,aI 0,aS ([]),aN])]⟩,fun _=>True⟩
 .cut J1 (.pick [0]<|.u 1 [b5]<|
 .fork<|.alt (.u 1 [b7]<|
 .pick [2,3]<|.u 2 [b3,b4]<|
 .jo J1 () [] [] sr2 bb2)
 <| .u 1 [b3]<|
 .pick [1,3]<|.u 2 [b7,b4]<|
 .jo J1 () [] [] sr2 bb2)
 <| fun _ _=>.f (.tup [.agg (hosA (ansH h m).1),.agg (rspA (rspH h m))]) [b3,b4] (.tup [.agg [.sl 2 false ((ansH h m).1.s.l.map chnA),.sl 2 false ((ansH h m).1.s.nexts.map cntA),aI ((ansH h m).1.s.stamp),.sl 4 false ((ansH h m).1.rows.map trA),.sl 17 false ((ansH h m).1.opens.map opA),aI ((ansH h m).1.now),aI ((ansH h m).1.lease)],.agg [aI m.kind,aI m.client,aI m.epoch,aI m.seq,aI (-1),aI ((ansH h m).2.2),aI 0,aI 0,aI 0,aS ([]),aN]]) (by
  rw [show rspH h m=_ from W1w (by omega),show (if m.kind=2 then (-1:Int) else m.n)=_ from W1x (by omega)];exact W2q ⟨sR,W2r ⟨sR,sR,sR,sR,sR,sR,sR,sR,sR,sR,Sub.nil _ _,trivial⟩,trivial⟩))
 <| fun p2=>let J2:Jn (Unit):=⟨fun j2=>⟨[(4,.ptr 4 b3 0),(5,.ptr 5 b4 0)],[(4,.box b3 29 [.sl 2 false ((ansH h m).1.s.l.map chnA),.sl 2 false ((ansH h m).1.s.nexts.map cntA),aI ((ansH h m).1.s.stamp),.sl 4 false ((ansH h m).1.rows.map trA),.sl 17 false ((ansH h m).1.opens.map opA),aI ((ansH h m).1.now),aI ((ansH h m).1.lease)]),(5,.box b4 66 [aI m.kind,aI m.client,aI m.epoch,aI m.seq,aI m.n,aI ((ansH h m).2.2),aI 0,aI 0,aI 0,aS ([]),aN])]⟩,fun _=>True⟩
 .cut J2 (.pick [0]<|.u 1 [b5]<|
 .fork<|.alt (.u 1 [b7]<|
 .pick [2,3]<|.u 2 [b3,b4]<|
 .jo J2 () [] [] sr2 bb2)
 <| .u 1 [b3]<|
 .pick [1,3]<|.u 2 [b7,b4]<|
 .jo J2 () [] [] sr2 bb2)
 <| fun _ _=>.f (.tup [.agg (hosA (ansH h m).1),.agg (rspA (rspH h m))]) [b3,b4] (.tup [.agg [.sl 2 false ((ansH h m).1.s.l.map chnA),.sl 2 false ((ansH h m).1.s.nexts.map cntA),aI ((ansH h m).1.s.stamp),.sl 4 false ((ansH h m).1.rows.map trA),.sl 17 false ((ansH h m).1.opens.map opA),aI ((ansH h m).1.now),aI ((ansH h m).1.lease)],.agg [aI m.kind,aI m.client,aI m.epoch,aI m.seq,aI m.n,aI ((ansH h m).2.2),aI 0,aI 0,aI 0,aS ([]),aN]]) (by
  rw [show rspH h m=_ from W1w (by omega),show (if m.kind=2 then (-1:Int) else m.n)=_ from W1w (by omega)];exact W2q ⟨sR,W2r ⟨sR,sR,sR,sR,sR,sR,sR,sR,sR,sR,Sub.nil _ _,trivial⟩,trivial⟩))
 <| fun p1=>let J3:Jn (Unit):=⟨fun j3=>⟨[(4,.ptr 4 b3 0),(5,.ptr 5 b4 0)],[(4,.box b3 29 [.sl 2 false ((ansH h m).1.s.l.map chnA),.sl 2 false ((ansH h m).1.s.nexts.map cntA),aI ((ansH h m).1.s.stamp),.sl 4 false ((ansH h m).1.rows.map trA),.sl 17 false ((ansH h m).1.opens.map opA),aI ((ansH h m).1.now),aI ((ansH h m).1.lease)]),(5,.box b4 66 [aI m.kind,aI m.client,aI m.epoch,aI m.seq,aI m.n,aI ((ansH h m).2.1.e),aI ((ansH h m).2.1.a),aI ((ansH h m).2.1.b),aI ((ansH h m).2.1.n),aS ((ansH h m).2.1.text),.sl 1 false ((ansH h m).2.1.names.map txA)])]⟩,fun _=>True⟩
 .cut J3 (.pick [0]<|.u 1 [b5]<|
 .fork<|.alt (.u 1 [b7]<|
 .pick [2,3]<|.u 2 [b3,b4]<|
 .jo J3 () [] [] sr2 bb2)
 <| .u 1 [b3]<|
 .pick [1,3]<|.u 2 [b7,b4]<|
 .jo J3 () [] [] sr2 bb2)
 <| fun _ _=>.f (.tup [.agg (hosA (ansH h m).1),.agg (rspA (rspH h m))]) [b3,b4] (.tup [.agg [.sl 2 false ((ansH h m).1.s.l.map chnA),.sl 2 false ((ansH h m).1.s.nexts.map cntA),aI ((ansH h m).1.s.stamp),.sl 4 false ((ansH h m).1.rows.map trA),.sl 17 false ((ansH h m).1.opens.map opA),aI ((ansH h m).1.now),aI ((ansH h m).1.lease)],.agg [aI m.kind,aI m.client,aI m.epoch,aI m.seq,aI m.n,aI ((ansH h m).2.1.e),aI ((ansH h m).2.1.a),aI ((ansH h m).2.1.b),aI ((ansH h m).2.1.n),aS ((ansH h m).2.1.text),.sl 1 false ((ansH h m).2.1.names.map txA)]]) (by
  rw [show rspH h m=_ from W1x (by omega)];exact sR))
def newH (lease:Int):Hos × Int:=if lease<1 then (⟨⟨[],[],0⟩,[],[],0,0⟩,1) else (⟨newS,[],[],0,lease⟩,0)
theorem Zdp (lease:Int):Qag prog 12 [aI lease] (.tup [.agg (hosA (newH lease).1),aI (newH lease).2]):=by
 exact Qac func12 (
 .new fun b1=>.r 1<|.r 2<|.bd 5 (lease<1) (fun p1=>.u 3 [b1]<|
 .f (.tup [.agg (hosA (newH lease).1),aI (newH lease).2]) [b1] (.tup [.agg [aN,aN,aI 0,aN,aN,aI 0,aI 0],aI 1]) (by
  rw [show newH lease=_ from W1x (by omega)];exact W2q ⟨W2r ⟨Sub.nil _ _,Sub.nil _ _,sR,Sub.nil _ _,Sub.nil _ _,sR,sR,trivial⟩,sR,trivial⟩))
 <| fun p1=>.call (Zbb)<|
 .u 4 [b1]<|
 .f (.tup [.agg (hosA (newH lease).1),aI (newH lease).2]) [b1] (.tup [.agg [.sl 2 false (newS.l.map chnA),.sl 2 false (newS.nexts.map cntA),aI newS.stamp,aN,aN,aI 0,aI lease],aI 0]) (by
  rw [show newH lease=_ from W1w (by omega)];exact W2q ⟨W2r ⟨sR,sR,sR,Sub.nil _ _,Sub.nil _ _,sR,sR,trivial⟩,sR,trivial⟩))
structure OkO0 (o:Udw):Prop where
 client:I64 o.client
 epoch:I64 o.epoch
 seq:I64 o.seq
 n:I64 o.n
 until_:I64 o.until_
 t:OkT o.t
 names:o.last.names.length≤8796093022207
structure OkH0 (h:Hos):Prop where
 s:OkS h.s
 rl:h.rows.length≤8796093022207
 re:∀ r∈h.rows,(I64 r.client∧I64 r.epoch∧I64 r.done)∧r.l.length≤8796093022207∧∀ d∈r.l,I64 d.1
 ol:h.opens.length≤8796093022207
 o:∀ o∈h.opens,OkO0 o
 now:I64 h.now
 lease:I64 h.lease
def opAt (h:Hos) (i:Nat) (o:Udw):Prop:=txnP o.t∧0≤o.client∧1≤o.epoch∧1≤o.seq∧0≤o.n∧o.t.stamp≤h.s.stamp∧∀ y,0<i→h.opens[i-1]?=some y→y.client<o.client
def Qe4 (h:Hos):Prop:=h.opens.length≤64∧0≤h.now∧1≤h.lease∧AllQ (opAt h) h.opens∧Qcc h.s∧Good h.rows∧Qe3 (Qcl h.s h.s.stamp)
def fewO (_:Nat) (o:Udw):Prop:=fewT o.t∧o.last.names.length≤300
def Qzq (h:Hos):Prop:=Zdw h.s∧Qey h.rows h.rows.length≤400∧h.opens.length≤8∧h.now<1152921504606846976∧h.lease<1152921504606846976∧AllQ fewO h.opens∧Qe4 h
theorem Qiy (h:Hos) (ok0:OkH0 h) (okr:OkRw h.rows) (hm:∀ o∈h.opens,midF o.t.was∧midF o.t.now) (hv:midF (Qcl h.s h.s.stamp)) (hsl:h.s.l.length≤100000):Qag prog 15 [.agg [.sl 2 false (h.s.l.map chnA),.sl 2 false (h.s.nexts.map cntA),aI h.s.stamp,.sl 4 false (h.rows.map trA),.sl 17 false (h.opens.map opA),aI h.now,aI h.lease]] (aB (dP (Qe4 h))):=by
 have hol:=ok0.ol;exact Qac func15 (let R:AV:=aB (dP (Qe4 h));
 .new fun b1=>.r 1<|.u 3 [b1]<|
 .lm 10 h.opens opA<|.r 2<|.bd 12 ((h.opens.length:Int)>64) (fun p1=>.r 9<|.r 1<|.f R [] (aB false) (by
  refine sF (fun h0=>?_);obtain ⟨g1,g2,g3,_⟩:=h0;omega))
 <| fun p1=>.u 5 [b1]<|
 .bd 17 (h.now<0) (fun p2=>.r 4<|.r 1<|.f R [] (aB false) (by
  refine sF (fun h0=>?_);obtain ⟨g1,g2,g3,_⟩:=h0;omega))
 <| fun p2=>.u 4 [b1]<|
 .bd 21 (h.lease<1) (fun p3=>.r 1<|.f R [] (aB false) (by
  refine sF (fun h0=>?_);obtain ⟨g1,g2,g3,_⟩:=h0;omega))
 <| fun p3=>.r 1<|let L1:Lp (Nat):=⟨fun a1=>⟨[(1,.ptr 1 b1 0),(3,aI (a1:Int))],[(1,.box b1 29 [.sl 2 false (h.s.l.map chnA),.sl 2 false (h.s.nexts.map cntA),aI h.s.stamp,.sl 4 false (h.rows.map trA),.sl 17 false (h.opens.map opA),aI h.now,aI h.lease])]⟩,fun a1=>h.opens.length-a1,fun a1=>a1≤h.opens.length∧Qaz (opAt h) h.opens a1⟩
 .lp L1 0 ⟨W0j _,Qaz.zero _ _⟩ [(3,aI 0)] [] ⟨sR,sO,trivial⟩ bb1 fun a1 ha1=>
 (fun (k:Nat) (hH1:k≤h.opens.length∧Qaz (opAt h) h.opens k)=>.u 4 [b1]<|
 .lm 25 h.opens opA<|.r 1<|.bd 26 ((k:Int)<(h.opens.length:Int)) (fun p4=>.u 3 [b1]<|
 .idxM h.opens opA k (m:=(k:Int)) rfl (by omega) fun x1 hx1=>
 have oox1:=ok0.o x1 (W0h hx1);have otx1:=oox1.t;.r 1<|.new fun b2=>.u 1 [b2]<|
 .u 2 [b2]<|
 .call (Qkm x1.t otx1 (hm x1 (W0h hx1)).1 (hm x1 (W0h hx1)).2)<|
 .r 1<|.ord [0,1,2,3,4,5,6,7,8,9,10,11,12,13,14,15,16,17,18,19,20,21,22,23,24,25,26,27,28,29,30,31,32,33,34,35,36,37,38,39,40,41,42,43,44,45,46]<|.r 3<|.nbb 39 (dP (txnP x1.t)) (fun p5=>.r 44<|.r 1<|.f R [] (aB false) (by
  refine sF (fun h0=>?_);have g:=h0.2.2.2.1.at hx1;have g1:=Qaf.2 g.1;obtain ⟨_,g2,g3,g4,g5,g6,_⟩:=g
  first | omega | (simp_all;done) | (simp_all;omega)))
 <| fun p5=>.u 5 [b2]<|
 .bd 44 (x1.client<0) (fun p6=>.r 39<|.r 1<|.f R [] (aB false) (by
  refine sF (fun h0=>?_);have g:=h0.2.2.2.1.at hx1;have g1:=Qaf.2 g.1;obtain ⟨_,g2,g3,g4,g5,g6,_⟩:=g
  first | omega | (simp_all;done) | (simp_all;omega)))
 <| fun p6=>.u 5 [b2]<|
 .bd 49 (x1.epoch<1) (fun p7=>.r 34<|.r 1<|.f R [] (aB false) (by
  refine sF (fun h0=>?_);have g:=h0.2.2.2.1.at hx1;have g1:=Qaf.2 g.1;obtain ⟨_,g2,g3,g4,g5,g6,_⟩:=g
  first | omega | (simp_all;done) | (simp_all;omega)))
 <| fun p7=>.u 5 [b2]<|
 .bd 54 (x1.seq<1) (fun p8=>.r 29<|.r 1<|.f R [] (aB false) (by
  refine sF (fun h0=>?_);have g:=h0.2.2.2.1.at hx1;have g1:=Qaf.2 g.1;obtain ⟨_,g2,g3,g4,g5,g6,_⟩:=g
  first | omega | (simp_all;done) | (simp_all;omega)))
 <| fun p8=>.u 5 [b2]<|
 .bd 59 (x1.n<0) (fun p9=>.r 24<|.r 1<|.f R [] (aB false) (by
  refine sF (fun h0=>?_);have g:=h0.2.2.2.1.at hx1;have g1:=Qaf.2 g.1;obtain ⟨_,g2,g3,g4,g5,g6,_⟩:=g
  first | omega | (simp_all;done) | (simp_all;omega)))
 <| fun p9=>.u 9 [b2,b1]<|
 .bd 68 (x1.t.stamp>h.s.stamp) (fun p10=>.r 15<|.r 1<|.f R [] (aB false) (by
  refine sF (fun h0=>?_);have g:=h0.2.2.2.1.at hx1;have g1:=Qaf.2 g.1;obtain ⟨_,g2,g3,g4,g5,g6,_⟩:=g
  first | omega | (simp_all;done) | (simp_all;omega)))
 <| fun p10=>.r 3<|.bd 71 ((k:Int)>0) (fun p11=>.run 4 [b1=b1,rng .i64 ((k:Int)-1)] ⟨rfl,Qal,trivial⟩<|
 .idxM h.opens opA (k-1) (m:=(k:Int)-1) (show (k:Int)-1=((k-1:Nat):Int) from by omega) (by omega) fun x2 hx2=>
 have oox2:=ok0.o x2 (W0h hx2);have otx2:=oox2.t;.u 7 [b2]<|
 .bd 83 (x2.client≥x1.client) (fun p12=>.r 1<|.f R [] (aB false) (by
  refine sF (fun h0=>?_);have g:=h0.2.2.2.1.at hx1;have:=g.2.2.2.2.2.2 x2 (by omega) hx2;have:=g.2;omega))
 <| fun p12=>.run 3 [rng .i64 ((k:Int)+1)] ⟨Qal,trivial⟩<|
 .bk L1 k (k+1) ⟨by omega,hH1.2.step hx1 ⟨Qaf.1 (by simp_all),by omega,by omega,by omega,by omega,by omega,fun z h0 hz=>by rw [hx2] at hz;obtain rfl:=W0c hz;omega⟩⟩ (show h.opens.length-(k+1)<h.opens.length-k from (by omega)) [(3,aI ((k:Int)+1))] [] ⟨sR,sO,trivial⟩ bb1)
 <| fun p11=>.r 12<|.run 3 [rng .i64 ((k:Int)+1)] ⟨Qal,trivial⟩<|
 .bk L1 k (k+1) ⟨by omega,hH1.2.step hx1 ⟨Qaf.1 (by simp_all),by omega,by omega,by omega,by omega,by omega,fun z h0 hz=>absurd h0 (by omega)⟩⟩ (show h.opens.length-(k+1)<h.opens.length-k from (by omega)) [(3,aI ((k:Int)+1))] [] ⟨sR,sO,trivial⟩ bb1)
 <| fun p4=>.u 2 [b1]<|
 .call (Ql8 h.s ok0.s)<|
 .r 1<|.u 2 [b1]<|
 .call (Qps h.rows okr)<|
 .r 1<|.r 2<|.bb 91 (dP (Qcc h.s)) (fun p13=>.r 3<|.bb 94 (dP (Good h.rows)) (fun p14=>.u 5 [b1,b1]<|
 .call (Qod h.s h.s.stamp ok0.s hsl)<|
 .call (Qfv (Qcl h.s h.s.stamp) (Qlt ok0.s _) hv)<|
 .r 2<|.f (aB (dP (Qe4 h))) [] (aB (dP (Qe3 (Qcl h.s h.s.stamp)))) (by
  have hall:=hH1.2.full (by omega);refine sE ?_;unfold Qe4;simp only [W0r,W2m,Qaf] at *;constructor
  ·intro h0;exact ⟨by omega,by omega,by omega,hall,by simp_all,by simp_all,by simp_all⟩
  ·intro h0;simp_all))
 <| fun p14=>.r 9<|.f R [] (aB false) (by
  refine sF (fun h0=>?_);obtain ⟨g1,g2,g3,g4,g5,g6,g7⟩:=h0;simp_all [Qaa]))
 <| fun p13=>.r 12<|.f R [] (aB false) (by
  refine sF (fun h0=>?_);obtain ⟨g1,g2,g3,g4,g5,g6,g7⟩:=h0;simp_all [Qaa])) a1 ha1)
theorem Zcd {h:Hos} (ok0:OkH0 h) (g:Qey h.rows h.rows.length≤400):OkRw h.rows:=by
 have h0:h.rows.length≤Qey h.rows h.rows.length:=by unfold Qey;omega
 refine ⟨by omega,fun r hr=>⟨(ok0.re r hr).1,?_,(ok0.re r hr).2.2⟩⟩;have:=Qzg hr;omega
theorem Qrp (h:Hos) (ok0:OkH0 h):Qag prog 17 [.agg [.sl 2 false (h.s.l.map chnA),.sl 2 false (h.s.nexts.map cntA),aI h.s.stamp,.sl 4 false (h.rows.map trA),.sl 17 false (h.opens.map opA),aI h.now,aI h.lease]] (aB (dP (Qzq h))):=by
 have hol:=ok0.ol;exact Qac func17 (let R:AV:=aB (dP (Qzq h));
 .new fun b1=>.r 1<|.u 2 [b1]<|
 .call (Qy5 h.s ok0.s)<|
 .r 2<|.br 8 (!(dP (Zdw h.s))) (fun q1=>have q1:=notT q1;have p1:=booF q1;.r 21<|.r 1<|.f R [] (aB false) (by
  refine sF (fun h0=>?_);obtain ⟨g1,g2,g3,g4,g5,g6,g7⟩:=h0;have g8:=Qaf.2 g1;have g9:=Qaf.2 g2
  first | omega | (simp_all;done) | (simp_all;omega)))
 <| fun q1=>have q1:=notF q1;have p1:=booT q1;.u 2 [b1]<|
 .call (Qt9 h.rows ok0.rl (fun r hr=>(ok0.re r hr).2.1))<|
 .r 3<|.br 14 (!(dP (Qey h.rows h.rows.length≤400))) (fun q2=>have q2:=notT q2;have p2:=booF q2;.r 15<|.r 1<|.f R [] (aB false) (by
  refine sF (fun h0=>?_);obtain ⟨g1,g2,g3,g4,g5,g6,g7⟩:=h0;have g8:=Qaf.2 g1;have g9:=Qaf.2 g2
  first | omega | (simp_all;done) | (simp_all;omega)))
 <| fun q2=>have q2:=notF q2;have p2:=booT q2;.u 3 [b1]<|
 .lm 17 h.opens opA<|.r 3<|.br 20 (decide ((h.opens.length:Int)>8)) (fun q3=>have p3:=decT q3;.r 9<|.r 1<|.f R [] (aB false) (by
  refine sF (fun h0=>?_);obtain ⟨g1,g2,g3,g4,g5,g6,g7⟩:=h0;have g8:=Qaf.2 g1;have g9:=Qaf.2 g2
  first | omega | (simp_all;done) | (simp_all;omega)))
 <| fun q3=>have p3:=decF q3;.u 5 [b1]<|
 .br 25 (decide (h.now≥1152921504606846976)) (fun q4=>have p4:=decT q4;.r 4<|.r 1<|.f R [] (aB false) (by
  refine sF (fun h0=>?_);obtain ⟨g1,g2,g3,g4,g5,g6,g7⟩:=h0;have g8:=Qaf.2 g1;have g9:=Qaf.2 g2
  first | omega | (simp_all;done) | (simp_all;omega)))
 <| fun q4=>have p4:=decF q4;.u 4 [b1]<|
 .br 29 (decide (h.lease≥1152921504606846976)) (fun q5=>have p5:=decT q5;.r 1<|.f R [] (aB false) (by
  refine sF (fun h0=>?_);obtain ⟨g1,g2,g3,g4,g5,g6,g7⟩:=h0;have g8:=Qaf.2 g1;have g9:=Qaf.2 g2
  first | omega | (simp_all;done) | (simp_all;omega)))
 <| fun q5=>have p5:=decF q5;.r 1<|let L1:Lp (Nat):=⟨fun a1=>⟨[(1,.ptr 1 b1 0),(3,aI (a1:Int))],[(1,.box b1 29 [.sl 2 false (h.s.l.map chnA),.sl 2 false (h.s.nexts.map cntA),aI h.s.stamp,.sl 4 false (h.rows.map trA),.sl 17 false (h.opens.map opA),aI h.now,aI h.lease])]⟩,fun a1=>h.opens.length-a1,fun a1=>a1≤h.opens.length∧Qaz fewO h.opens a1⟩
 .lp L1 0 ⟨W0j _,Qaz.zero _ _⟩ [(3,aI 0)] [] ⟨sR,sO,trivial⟩ bb1 fun a1 ha1=>
 (fun (k:Nat) (hH1:k≤h.opens.length∧Qaz fewO h.opens k)=>.u 4 [b1]<|
 .lm 33 h.opens opA<|.r 1<|.br 34 (decide ((k:Int)<(h.opens.length:Int))) (fun q6=>have p6:=decT q6;.u 3 [b1]<|
 .idxM h.opens opA k (m:=(k:Int)) rfl (by omega) fun x1 hx1=>
 have oox1:=ok0.o x1 (W0h hx1);have otx1:=oox1.t;.r 2<|.call (Qyx x1.t otx1)<|
 .r 2<|.nbb 45 (dP (fewT x1.t)) (fun p7=>.r 10<|.r 1<|.f R [] (aB false) (by
  refine sF (fun h0=>?_);have g:=h0.2.2.2.2.2.1.at hx1;have g1:=Qaf.2 g.1;have g2:=g.2
  first | omega | (simp_all;done) | (simp_all;omega)))
 <| fun p7=>.u 3 [b1]<|
 .idx k (m:=(k:Int)) (xs:=h.opens.map opA) (e:=opA x1) rfl (map_some hx1)<|
 .r 4<|.lm 53 x1.last.names txA<|.r 2<|.bd 55 ((x1.last.names.length:Int)>300) (fun p8=>.r 1<|.f R [] (aB false) (by
  refine sF (fun h0=>?_);have g:=h0.2.2.2.2.2.1.at hx1;have g1:=Qaf.2 g.1;have g2:=g.2
  first | omega | (simp_all;done) | (simp_all;omega)))
 <| fun p8=>.run 3 [rng .i64 ((k:Int)+1)] ⟨Qal,trivial⟩<|
 .bk L1 k (k+1) ⟨by omega,hH1.2.step hx1 ⟨Qaf.1 (by simp_all),by omega⟩⟩ (show h.opens.length-(k+1)<h.opens.length-k from (by omega)) [(3,aI ((k:Int)+1))] [] ⟨sR,sO,trivial⟩ bb1)
 <| fun q6=>have p6:=decF q6;.u 1 [b1]<|
 .call (Qiy h ok0 (Zcd ok0 (Qaf.1 q2)) (fun o ho=>by obtain ⟨i,hi⟩:=W0w ho;have g:=(hH1.2.full (by omega)) i o hi;exact ⟨Qj2 g.1.1,Qj2 g.1.2.1⟩) (Qj2 (Qaf.1 q1).2.2.2.1) (by have:=(Qqn (Qaf.1 q1).1).1;omega))<|
 .r 1<|.f (aB (dP (Qzq h))) [] (aB (dP (Qe4 h))) (by
  have hall:=hH1.2.full (by omega);refine sE ?_;unfold Qzq;simp only [W0r,W2m,Qaf] at *;constructor
  ·intro h0;exact ⟨by assumption,by assumption,by omega,by omega,by omega,hall,h0⟩
  ·intro h0;exact h0.2.2.2.2.2.2)) a1 ha1)
theorem Qpk (x y:Udw) (okx:OkO0 x) (oky:OkO0 y) (h1:x.last.names.length≤1000000) (h2:y.last.names.length≤1000000):Qag prog 20 [.agg [aI x.client,aI x.epoch,aI x.seq,aI x.n,aI x.t.stamp,.sl 5 false (x.t.was.l.map nodA),aI x.t.was.next,.sl 5 false (x.t.now.l.map nodA),aI x.t.now.next,.sl 1 false (x.t.looks.map intA),aI x.last.e,aI x.last.a,aI x.last.b,aI x.last.n,aS x.last.text,.sl 1 false (x.last.names.map txA),aI x.until_],.agg [aI y.client,aI y.epoch,aI y.seq,aI y.n,aI y.t.stamp,.sl 5 false (y.t.was.l.map nodA),aI y.t.was.next,.sl 5 false (y.t.now.l.map nodA),aI y.t.now.next,.sl 1 false (y.t.looks.map intA),aI y.last.e,aI y.last.a,aI y.last.b,aI y.last.n,aS y.last.text,.sl 1 false (y.last.names.map txA),aI y.until_]] (aB (dP (x=y))):=by
 exact Qac func20 (let R:AV:=aB (dP (x=y));
 .new fun b1=>.new fun b2=>.r 1<|.u 4 [b1,b2]<|
 .call (Qt4 x.t y.t okx.t oky.t)<|
 .r 1<|.u 4 [b1,b2]<|
 .call (Qkn x.last y.last h1 h2)<|
 .r 1<|.r 2<|.bb 18 (dP (x.t=y.t)) (fun p1=>.r 3<|.bb 21 (dP (x.last=y.last)) (fun p2=>.u 7 [b1,b2]<|
 .be 28 x.client y.client (fun p3=>.u 7 [b1,b2]<|
 .be 35 x.epoch y.epoch (fun p4=>.u 7 [b1,b2]<|
 .be 42 x.seq y.seq (fun p5=>.u 7 [b1,b2]<|
 .be 49 x.n y.n (fun p6=>.u 7 [b1,b2]<|
 .f R [] (aB (x.until_==y.until_)) (by
  refine sE ?_;constructor
  ·intro h;simp only [W0r,beq_iff_eq,Qaf] at *;refine op_eq ?_ ?_ ?_ ?_ ?_ ?_ ?_<;>simp_all
  ·intro h;subst h;simp_all [Qaf]))
 <| fun p6=>.r 7<|.f R [] (aB false) (by
  refine sF (fun h=>?_);subst h;simp_all [Qaa]))
 <| fun p5=>.r 14<|.f R [] (aB false) (by
  refine sF (fun h=>?_);subst h;simp_all [Qaa]))
 <| fun p4=>.r 21<|.f R [] (aB false) (by
  refine sF (fun h=>?_);subst h;simp_all [Qaa]))
 <| fun p3=>.r 28<|.f R [] (aB false) (by
  refine sF (fun h=>?_);subst h;simp_all [Qaa]))
 <| fun p2=>.r 35<|.f R [] (aB false) (by
  refine sF (fun h=>?_);subst h;simp_all [Qaa]))
 <| fun p1=>.r 38<|.f R [] (aB false) (by
  refine sF (fun h=>?_);subst h;simp_all [Qaa]))
theorem Qgi (a b:Hos) (oka:OkH0 a) (okb:OkH0 b) (ra:OkRw a.rows) (rb:OkRw b.rows) (na:∀ o∈a.opens,o.last.names.length≤1000000) (nb:∀ o∈b.opens,o.last.names.length≤1000000):Qag prog 14 [.agg [.sl 2 false (a.s.l.map chnA),.sl 2 false (a.s.nexts.map cntA),aI a.s.stamp,.sl 4 false (a.rows.map trA),.sl 17 false (a.opens.map opA),aI a.now,aI a.lease],.agg [.sl 2 false (b.s.l.map chnA),.sl 2 false (b.s.nexts.map cntA),aI b.s.stamp,.sl 4 false (b.rows.map trA),.sl 17 false (b.opens.map opA),aI b.now,aI b.lease]] (aB (dP (a=b))):=by
 have la:=oka.ol;have lb:=okb.ol;exact Qac func14 (let R:AV:=aB (dP (a=b));
 .new fun b1=>.new fun b2=>.r 1<|.u 4 [b1,b2]<|
 .call (Qy0 a.s b.s oka.s okb.s)<|
 .r 1<|.u 4 [b1,b2]<|
 .call (Qrq a.rows b.rows ra rb)<|
 .r 1<|.r 3<|.nbb 21 (dP (a.s=b.s)) (fun p1=>.r 26<|.r 1<|.f R [] (aB false) (by
  refine sF (fun h=>?_);subst h
  first | omega | (simp_all [Qaf,Qaa];done) | (simp_all [Qaf,Qaa];omega)))
 <| fun p1=>.r 4<|.nbb 25 (dP (a.rows=b.rows)) (fun p2=>.r 22<|.r 1<|.f R [] (aB false) (by
  refine sF (fun h=>?_);subst h
  first | omega | (simp_all [Qaf,Qaa];done) | (simp_all [Qaf,Qaa];omega)))
 <| fun p2=>.u 7 [b1,b2]<|
 .bn 32 a.now b.now (fun p3=>.r 15<|.r 1<|.f R [] (aB false) (by
  refine sF (fun h=>?_);subst h
  first | omega | (simp_all [Qaf,Qaa];done) | (simp_all [Qaf,Qaa];omega)))
 <| fun p3=>.u 7 [b1,b2]<|
 .bn 39 a.lease b.lease (fun p4=>.r 8<|.r 1<|.f R [] (aB false) (by
  refine sF (fun h=>?_);subst h
  first | omega | (simp_all [Qaf,Qaa];done) | (simp_all [Qaf,Qaa];omega)))
 <| fun p4=>.u 3 [b1]<|
 .lm 42 a.opens opA<|.u 3 [b2]<|
 .lm 45 b.opens opA<|.r 2<|.bn 47 (a.opens.length:Int) (b.opens.length:Int) (fun p5=>.r 1<|.f R [] (aB false) (by
  refine sF (fun h=>?_);subst h
  first | omega | (simp_all [Qaf,Qaa];done) | (simp_all [Qaf,Qaa];omega)))
 <| fun p5=>.r 1<|let L1:Lp (Nat):=⟨fun a1=>⟨[(2,.ptr 2 b1 0),(3,.ptr 3 b2 0),(7,aI (a1:Int))],[(2,.box b1 29 [.sl 2 false (a.s.l.map chnA),.sl 2 false (a.s.nexts.map cntA),aI a.s.stamp,.sl 4 false (a.rows.map trA),.sl 17 false (a.opens.map opA),aI a.now,aI a.lease]),(3,.box b2 29 [.sl 2 false (b.s.l.map chnA),.sl 2 false (b.s.nexts.map cntA),aI b.s.stamp,.sl 4 false (b.rows.map trA),.sl 17 false (b.opens.map opA),aI b.now,aI b.lease])]⟩,fun a1=>a.opens.length-a1,fun a1=>a1≤a.opens.length∧a.opens.take a1=b.opens.take a1⟩
 .lp L1 0 ⟨W0j _,rfl⟩ [(7,aI 0)] [] ⟨sR,sR,sO,trivial⟩ bb2 fun a1 ha1=>
 (fun (k:Nat) (hH1:k≤a.opens.length∧a.opens.take k=b.opens.take k)=>.u 4 [b1]<|
 .lm 51 a.opens opA<|.r 1<|.bd 52 ((k:Int)<(a.opens.length:Int)) (fun p6=>.ord [0,1,2,3,4,5,6,7,8,9,10,11]<|.u 3 [b1]<|
 .idxM a.opens opA k (m:=(k:Int)) rfl (by omega) fun x1 hx1=>
 have oox1:=oka.o x1 (W0h hx1);have onx1:=na x1 (W0h hx1);.u 4 [b2]<|
 .idxM b.opens opA k (m:=(k:Int)) rfl (by omega) fun x2 hx2=>
 have oox2:=okb.o x2 (W0h hx2);have onx2:=nb x2 (W0h hx2);.r 1<|.call (Qpk x1 x2 oox1 oox2 onx1 onx2)<|
 .r 1<|.r 2<|.nbb 67 (dP (x1=x2)) (fun p7=>.r 1<|.f R [] (aB false) (by
  refine sF (fun h=>?_);rw [h,hx2] at hx1;obtain rfl:=W0c hx1;simp_all [Qaf,Qaa]))
 <| fun p7=>.run 3 [rng .i64 ((k:Int)+1)] ⟨Qal,trivial⟩<|
 .bk L1 k (k+1) ⟨by omega,by rw [Qaq hx1,Qaq hx2,hH1.2];first | (congr 2;done) | (congr 2;exact (Qaf.1 (by simp_all)))⟩ (show a.opens.length-(k+1)<a.opens.length-k from (by omega)) [(7,aI ((k:Int)+1))] [] ⟨sR,sR,sO,trivial⟩ bb2)
 <| fun p6=>.r 1<|.f (aB (dP (a=b))) [] (aB true) (by
  have hop:a.opens=b.opens:=(by have h:=hH1.2;rw [Qap (by omega),Qap (by omega)] at h;exact h)
  refine sT (hos_eq ?_ ?_ hop ?_ ?_)<;>simp_all [Qaf])) a1 ha1)
theorem rsp_eq {x y:Rsp} (h1:x.kind=y.kind) (h2:x.client=y.client) (h3:x.epoch=y.epoch) (h4:x.seq=y.seq) (h5:x.n=y.n) (h6:x.r=y.r):x=y:=by cases x;cases y;simp_all
theorem Qgj (x y:Rsp) (h1:x.r.names.length≤1000000) (h2:y.r.names.length≤1000000):Qag prog 28 [.agg [aI x.kind,aI x.client,aI x.epoch,aI x.seq,aI x.n,aI x.r.e,aI x.r.a,aI x.r.b,aI x.r.n,aS x.r.text,.sl 1 false (x.r.names.map txA)],.agg [aI y.kind,aI y.client,aI y.epoch,aI y.seq,aI y.n,aI y.r.e,aI y.r.a,aI y.r.b,aI y.r.n,aS y.r.text,.sl 1 false (y.r.names.map txA)]] (aB (dP (x=y))):=by
 exact Qac func28 (let R:AV:=aB (dP (x=y));
 .new fun b1=>.new fun b2=>.r 1<|.u 4 [b1,b2]<|
 .call (Qkn x.r y.r h1 h2)<|
 .r 1<|.r 2<|.bb 12 (dP (x.r=y.r)) (fun p1=>.u 7 [b1,b2]<|
 .be 19 x.kind y.kind (fun p2=>.u 7 [b1,b2]<|
 .be 26 x.client y.client (fun p3=>.u 7 [b1,b2]<|
 .be 33 x.epoch y.epoch (fun p4=>.u 7 [b1,b2]<|
 .be 40 x.seq y.seq (fun p5=>.u 7 [b1,b2]<|
 .f R [] (aB (x.n==y.n)) (by
  refine sE ?_;constructor
  ·intro h;simp only [W0r,beq_iff_eq,Qaf] at *;refine rsp_eq ?_ ?_ ?_ ?_ ?_ ?_<;>simp_all
  ·intro h;subst h;simp_all [Qaf]))
 <| fun p5=>.r 7<|.f R [] (aB false) (by
  refine sF (fun h=>?_);subst h;simp_all [Qaa]))
 <| fun p4=>.r 14<|.f R [] (aB false) (by
  refine sF (fun h=>?_);subst h;simp_all [Qaa]))
 <| fun p3=>.r 21<|.f R [] (aB false) (by
  refine sF (fun h=>?_);subst h;simp_all [Qaa]))
 <| fun p2=>.r 28<|.f R [] (aB false) (by
  refine sF (fun h=>?_);subst h;simp_all [Qaa]))
 <| fun p1=>.r 35<|.f R [] (aB false) (by
  refine sF (fun h=>?_);subst h;simp_all [Qaa]))
end Go.Proofs.YtkhodpknpligpaaGreat
