import Derived.Test.YtahlldgocpabjaaGreatOpsC13
set_option maxRecDepth 100000
set_option maxHeartbeats 8000000
set_option linter.unusedVariables false
set_option linter.unusedSimpArgs false
namespace Go.Proofs.YtahlldgocpabjaaGreat
open Go Go.RowKit Copyhold
noncomputable def Qbw (f:Fsy) (c:Cal):Fsy × Rep:=if c.kind=1 then Qea f c else if c.kind=2 then Qcz f c else if c.kind=3 then Qc0 f c else if c.kind=4 then Qb2 f c else if c.kind=5 then cutO f c else if c.kind=6 then addO f c ⟨0,1,0,[],[]⟩ else if c.kind=7 then addO f c ⟨0,2,0,[],[]⟩ else if c.kind=8 then symO f c else if c.kind=9 then Qa9 f c false 9 else if c.kind=10 then Qa9 f c true 8 else if c.kind=11 then Qd3 f c else if c.kind=12 then renO f c else if c.kind=13 then Qdy f c else if c.kind=14 then Qd8 f c else if c.kind=15 then sfsO f else (f,errR 1)
noncomputable def doF (f:Fsy) (c:Cal):Fsy × Rep:=if (Qbw f c).2.e=0 then Qbw f c else (f,errR (Qbw f c).2.e)
theorem Qmb {f:Fsy} {c:Cal} (h:c.kind=1):Qbw f c=Qea f c:=by unfold Qbw;rw [if_pos h]
theorem Qj8 {f:Fsy} {c:Cal} (h:c.kind=2):Qbw f c=Qcz f c:=by unfold Qbw;rw [if_neg (by omega),if_pos h]
theorem Qj7 {f:Fsy} {c:Cal} (h:c.kind=3):Qbw f c=Qc0 f c:=by unfold Qbw;rw [if_neg (by omega),if_neg (by omega),if_pos h]
theorem Qj6 {f:Fsy} {c:Cal} (h:c.kind=4):Qbw f c=Qb2 f c:=by unfold Qbw;rw [if_neg (by omega),if_neg (by omega),if_neg (by omega),if_pos h]
theorem Qj5 {f:Fsy} {c:Cal} (h:c.kind=5):Qbw f c=cutO f c:=by unfold Qbw;rw [if_neg (by omega),if_neg (by omega),if_neg (by omega),if_neg (by omega),if_pos h]
theorem Qiy {f:Fsy} {c:Cal} (h:c.kind=6):Qbw f c=addO f c ⟨0,1,0,[],[]⟩:=by unfold Qbw;rw [if_neg (by omega),if_neg (by omega),if_neg (by omega),if_neg (by omega),if_neg (by omega),if_pos h]
theorem Qj4 {f:Fsy} {c:Cal} (h:c.kind=7):Qbw f c=addO f c ⟨0,2,0,[],[]⟩:=by unfold Qbw;rw [if_neg (by omega),if_neg (by omega),if_neg (by omega),if_neg (by omega),if_neg (by omega),if_neg (by omega),if_pos h]
theorem Qj3 {f:Fsy} {c:Cal} (h:c.kind=8):Qbw f c=symO f c:=by unfold Qbw;rw [if_neg (by omega),if_neg (by omega),if_neg (by omega),if_neg (by omega),if_neg (by omega),if_neg (by omega),if_neg (by omega),if_pos h]
theorem Qix {f:Fsy} {c:Cal} (h:c.kind=9):Qbw f c=Qa9 f c false 9:=by unfold Qbw;rw [if_neg (by omega),if_neg (by omega),if_neg (by omega),if_neg (by omega),if_neg (by omega),if_neg (by omega),if_neg (by omega),if_neg (by omega),if_pos h]
theorem Qf3 {f:Fsy} {c:Cal} (h:c.kind=10):Qbw f c=Qa9 f c true 8:=by unfold Qbw;rw [if_neg (by omega),if_neg (by omega),if_neg (by omega),if_neg (by omega),if_neg (by omega),if_neg (by omega),if_neg (by omega),if_neg (by omega),if_neg (by omega),if_pos h]
theorem Qhv {f:Fsy} {c:Cal} (h:c.kind=11):Qbw f c=Qd3 f c:=by unfold Qbw;rw [if_neg (by omega),if_neg (by omega),if_neg (by omega),if_neg (by omega),if_neg (by omega),if_neg (by omega),if_neg (by omega),if_neg (by omega),if_neg (by omega),if_neg (by omega),if_pos h]
theorem Qhu {f:Fsy} {c:Cal} (h:c.kind=12):Qbw f c=renO f c:=by unfold Qbw;rw [if_neg (by omega),if_neg (by omega),if_neg (by omega),if_neg (by omega),if_neg (by omega),if_neg (by omega),if_neg (by omega),if_neg (by omega),if_neg (by omega),if_neg (by omega),if_neg (by omega),if_pos h]
theorem Qgo {f:Fsy} {c:Cal} (h:c.kind=13):Qbw f c=Qdy f c:=by unfold Qbw;rw [if_neg (by omega),if_neg (by omega),if_neg (by omega),if_neg (by omega),if_neg (by omega),if_neg (by omega),if_neg (by omega),if_neg (by omega),if_neg (by omega),if_neg (by omega),if_neg (by omega),if_neg (by omega),if_pos h]
theorem Qht {f:Fsy} {c:Cal} (h:c.kind=14):Qbw f c=Qd8 f c:=by unfold Qbw;rw [if_neg (by omega),if_neg (by omega),if_neg (by omega),if_neg (by omega),if_neg (by omega),if_neg (by omega),if_neg (by omega),if_neg (by omega),if_neg (by omega),if_neg (by omega),if_neg (by omega),if_neg (by omega),if_neg (by omega),if_pos h]
theorem Qhs {f:Fsy} {c:Cal} (h:c.kind=15):Qbw f c=sfsO f:=by unfold Qbw;rw [if_neg (by omega),if_neg (by omega),if_neg (by omega),if_neg (by omega),if_neg (by omega),if_neg (by omega),if_neg (by omega),if_neg (by omega),if_neg (by omega),if_neg (by omega),if_neg (by omega),if_neg (by omega),if_neg (by omega),if_neg (by omega),if_pos h]
theorem Qpf {f:Fsy} {c:Cal} (h:c.kind<1∨c.kind>15):Qbw f c=(f,errR 1):=by unfold Qbw;rw [if_neg (by omega),if_neg (by omega),if_neg (by omega),if_neg (by omega),if_neg (by omega),if_neg (by omega),if_neg (by omega),if_neg (by omega),if_neg (by omega),if_neg (by omega),if_neg (by omega),if_neg (by omega),if_neg (by omega),if_neg (by omega),if_neg (by omega)]
theorem Qbq {f:Fsy} {c:Cal} {x:Fsy × Rep} (h:Qbw f c=x) (he:x.2.e=0):doF f c=x:=by unfold doF;rw [h,if_pos he]
theorem Qco {f:Fsy} {c:Cal} {x:Fsy × Rep} (h:Qbw f c=x) (he:¬ x.2.e=0):doF f c=(f,errR x.2.e):=by unfold doF;rw [h,if_neg he]
theorem Qbv :Qaj Tryz.prog 88 [] (.mp [(.i 1,.val (.func (.func 130) #[] #[])),(.i 2,.val (.func (.func 131) #[] #[])),(.i 3,.val (.func (.func 132) #[] #[])),(.i 4,.val (.func (.func 133) #[] #[])),(.i 5,.val (.func (.func 134) #[] #[])),(.i 6,.val (.func (.func 135) #[] #[])),(.i 7,.val (.func (.func 137) #[] #[])),(.i 8,.val (.func (.func 138) #[] #[])),(.i 9,.val (.func (.func 139) #[] #[])),(.i 10,.val (.func (.func 141) #[] #[])),(.i 11,.val (.func (.func 142) #[] #[])),(.i 12,.val (.func (.func 144) #[] #[])),(.i 13,.val (.func (.func 146) #[] #[])),(.i 14,.val (.func (.func 148) #[] #[])),(.i 15,.val (.func (.func 150) #[] #[]))]):=by
 exact Qac (F:=Tryz.f88) 400 (
 .r 1<|.mkMap fun r1=>.ins (kk:=.i 1) (es:=[]) r1 (by rfl)<|.ins (kk:=.i 2) (es:=[(.i 1,.val (.func (.func 130) #[] #[]))]) r1 (by simp [Qcb])<|.ins (kk:=.i 3) (es:=[(.i 1,.val (.func (.func 130) #[] #[])),(.i 2,.val (.func (.func 131) #[] #[]))]) r1 (by simp [Qcb])<|.ins (kk:=.i 4) (es:=[(.i 1,.val (.func (.func 130) #[] #[])),(.i 2,.val (.func (.func 131) #[] #[])),(.i 3,.val (.func (.func 132) #[] #[]))]) r1 (by simp [Qcb])<|.ins (kk:=.i 5) (es:=[(.i 1,.val (.func (.func 130) #[] #[])),(.i 2,.val (.func (.func 131) #[] #[])),(.i 3,.val (.func (.func 132) #[] #[])),(.i 4,.val (.func (.func 133) #[] #[]))]) r1 (by simp [Qcb])<|.ins (kk:=.i 6) (es:=[(.i 1,.val (.func (.func 130) #[] #[])),(.i 2,.val (.func (.func 131) #[] #[])),(.i 3,.val (.func (.func 132) #[] #[])),(.i 4,.val (.func (.func 133) #[] #[])),(.i 5,.val (.func (.func 134) #[] #[]))]) r1 (by simp [Qcb])<|.ins (kk:=.i 7) (es:=[(.i 1,.val (.func (.func 130) #[] #[])),(.i 2,.val (.func (.func 131) #[] #[])),(.i 3,.val (.func (.func 132) #[] #[])),(.i 4,.val (.func (.func 133) #[] #[])),(.i 5,.val (.func (.func 134) #[] #[])),(.i 6,.val (.func (.func 135) #[] #[]))]) r1 (by simp [Qcb])<|.ins (kk:=.i 8) (es:=[(.i 1,.val (.func (.func 130) #[] #[])),(.i 2,.val (.func (.func 131) #[] #[])),(.i 3,.val (.func (.func 132) #[] #[])),(.i 4,.val (.func (.func 133) #[] #[])),(.i 5,.val (.func (.func 134) #[] #[])),(.i 6,.val (.func (.func 135) #[] #[])),(.i 7,.val (.func (.func 137) #[] #[]))]) r1 (by simp [Qcb])<|.ins (kk:=.i 9) (es:=[(.i 1,.val (.func (.func 130) #[] #[])),(.i 2,.val (.func (.func 131) #[] #[])),(.i 3,.val (.func (.func 132) #[] #[])),(.i 4,.val (.func (.func 133) #[] #[])),(.i 5,.val (.func (.func 134) #[] #[])),(.i 6,.val (.func (.func 135) #[] #[])),(.i 7,.val (.func (.func 137) #[] #[])),(.i 8,.val (.func (.func 138) #[] #[]))]) r1 (by simp [Qcb])<|.ins (kk:=.i 10) (es:=[(.i 1,.val (.func (.func 130) #[] #[])),(.i 2,.val (.func (.func 131) #[] #[])),(.i 3,.val (.func (.func 132) #[] #[])),(.i 4,.val (.func (.func 133) #[] #[])),(.i 5,.val (.func (.func 134) #[] #[])),(.i 6,.val (.func (.func 135) #[] #[])),(.i 7,.val (.func (.func 137) #[] #[])),(.i 8,.val (.func (.func 138) #[] #[])),(.i 9,.val (.func (.func 139) #[] #[]))]) r1 (by simp [Qcb])<|.ins (kk:=.i 11) (es:=[(.i 1,.val (.func (.func 130) #[] #[])),(.i 2,.val (.func (.func 131) #[] #[])),(.i 3,.val (.func (.func 132) #[] #[])),(.i 4,.val (.func (.func 133) #[] #[])),(.i 5,.val (.func (.func 134) #[] #[])),(.i 6,.val (.func (.func 135) #[] #[])),(.i 7,.val (.func (.func 137) #[] #[])),(.i 8,.val (.func (.func 138) #[] #[])),(.i 9,.val (.func (.func 139) #[] #[])),(.i 10,.val (.func (.func 141) #[] #[]))]) r1 (by simp [Qcb])<|.ins (kk:=.i 12) (es:=[(.i 1,.val (.func (.func 130) #[] #[])),(.i 2,.val (.func (.func 131) #[] #[])),(.i 3,.val (.func (.func 132) #[] #[])),(.i 4,.val (.func (.func 133) #[] #[])),(.i 5,.val (.func (.func 134) #[] #[])),(.i 6,.val (.func (.func 135) #[] #[])),(.i 7,.val (.func (.func 137) #[] #[])),(.i 8,.val (.func (.func 138) #[] #[])),(.i 9,.val (.func (.func 139) #[] #[])),(.i 10,.val (.func (.func 141) #[] #[])),(.i 11,.val (.func (.func 142) #[] #[]))]) r1 (by simp [Qcb])<|.ins (kk:=.i 13) (es:=[(.i 1,.val (.func (.func 130) #[] #[])),(.i 2,.val (.func (.func 131) #[] #[])),(.i 3,.val (.func (.func 132) #[] #[])),(.i 4,.val (.func (.func 133) #[] #[])),(.i 5,.val (.func (.func 134) #[] #[])),(.i 6,.val (.func (.func 135) #[] #[])),(.i 7,.val (.func (.func 137) #[] #[])),(.i 8,.val (.func (.func 138) #[] #[])),(.i 9,.val (.func (.func 139) #[] #[])),(.i 10,.val (.func (.func 141) #[] #[])),(.i 11,.val (.func (.func 142) #[] #[])),(.i 12,.val (.func (.func 144) #[] #[]))]) r1 (by simp [Qcb])<|.ins (kk:=.i 14) (es:=[(.i 1,.val (.func (.func 130) #[] #[])),(.i 2,.val (.func (.func 131) #[] #[])),(.i 3,.val (.func (.func 132) #[] #[])),(.i 4,.val (.func (.func 133) #[] #[])),(.i 5,.val (.func (.func 134) #[] #[])),(.i 6,.val (.func (.func 135) #[] #[])),(.i 7,.val (.func (.func 137) #[] #[])),(.i 8,.val (.func (.func 138) #[] #[])),(.i 9,.val (.func (.func 139) #[] #[])),(.i 10,.val (.func (.func 141) #[] #[])),(.i 11,.val (.func (.func 142) #[] #[])),(.i 12,.val (.func (.func 144) #[] #[])),(.i 13,.val (.func (.func 146) #[] #[]))]) r1 (by simp [Qcb])<|.ins (kk:=.i 15) (es:=[(.i 1,.val (.func (.func 130) #[] #[])),(.i 2,.val (.func (.func 131) #[] #[])),(.i 3,.val (.func (.func 132) #[] #[])),(.i 4,.val (.func (.func 133) #[] #[])),(.i 5,.val (.func (.func 134) #[] #[])),(.i 6,.val (.func (.func 135) #[] #[])),(.i 7,.val (.func (.func 137) #[] #[])),(.i 8,.val (.func (.func 138) #[] #[])),(.i 9,.val (.func (.func 139) #[] #[])),(.i 10,.val (.func (.func 141) #[] #[])),(.i 11,.val (.func (.func 142) #[] #[])),(.i 12,.val (.func (.func 144) #[] #[])),(.i 13,.val (.func (.func 146) #[] #[])),(.i 14,.val (.func (.func 148) #[] #[]))]) r1 (by simp [Qcb])<|.r 2<|.frz 1 [0] [] [r1=r1] rt1<|
 .fin (x:=.mp [(.i 1,.val (.func (.func 130) #[] #[])),(.i 2,.val (.func (.func 131) #[] #[])),(.i 3,.val (.func (.func 132) #[] #[])),(.i 4,.val (.func (.func 133) #[] #[])),(.i 5,.val (.func (.func 134) #[] #[])),(.i 6,.val (.func (.func 135) #[] #[])),(.i 7,.val (.func (.func 137) #[] #[])),(.i 8,.val (.func (.func 138) #[] #[])),(.i 9,.val (.func (.func 139) #[] #[])),(.i 10,.val (.func (.func 141) #[] #[])),(.i 11,.val (.func (.func 142) #[] #[])),(.i 12,.val (.func (.func 144) #[] #[])),(.i 13,.val (.func (.func 146) #[] #[])),(.i 14,.val (.func (.func 148) #[] #[])),(.i 15,.val (.func (.func 150) #[] #[]))]) (r:=.mp [(.i 1,.val (.func (.func 130) #[] #[])),(.i 2,.val (.func (.func 131) #[] #[])),(.i 3,.val (.func (.func 132) #[] #[])),(.i 4,.val (.func (.func 133) #[] #[])),(.i 5,.val (.func (.func 134) #[] #[])),(.i 6,.val (.func (.func 135) #[] #[])),(.i 7,.val (.func (.func 137) #[] #[])),(.i 8,.val (.func (.func 138) #[] #[])),(.i 9,.val (.func (.func 139) #[] #[])),(.i 10,.val (.func (.func 141) #[] #[])),(.i 11,.val (.func (.func 142) #[] #[])),(.i 12,.val (.func (.func 144) #[] #[])),(.i 13,.val (.func (.func 146) #[] #[])),(.i 14,.val (.func (.func 148) #[] #[])),(.i 15,.val (.func (.func 150) #[] #[]))]) [] trivial (by exact sR)) Tryz.func88 rfl (by kernel_rfl) (by kernel_rfl)
theorem Zfj (f:Fsy) (c:Cal) (okf:OkF f) (okc:OkCal c) (hp:Qal f) (hx:f.next<9223372036854775807) (hk:c.kind=1):Qaj Tryz.prog 48 [.agg (fsyA f),.agg (calA c)] (.tup [.agg (fsyA (doF f c).1),.agg (repA (doF f c).2)]):=by
 exact Qac (F:=Tryz.f48) 400 (
 .new fun b1=>.new fun b2=>.new fun b3=>.new fun b4=>.ord [1,2,0,3,4,5,6,7,8]<|.run 2 [b2=b2] rt1<|
 .call (Qbv)<|
 .look (kk:=.i c.kind) (es:=[(.i 1,.val (.func (.func 130) #[] #[])),(.i 2,.val (.func (.func 131) #[] #[])),(.i 3,.val (.func (.func 132) #[] #[])),(.i 4,.val (.func (.func 133) #[] #[])),(.i 5,.val (.func (.func 134) #[] #[])),(.i 6,.val (.func (.func 135) #[] #[])),(.i 7,.val (.func (.func 137) #[] #[])),(.i 8,.val (.func (.func 138) #[] #[])),(.i 9,.val (.func (.func 139) #[] #[])),(.i 10,.val (.func (.func 141) #[] #[])),(.i 11,.val (.func (.func 142) #[] #[])),(.i 12,.val (.func (.func 144) #[] #[])),(.i 13,.val (.func (.func 146) #[] #[])),(.i 14,.val (.func (.func 148) #[] #[])),(.i 15,.val (.func (.func 150) #[] #[]))]) (fd:=some (0,.val (.func (.func 130) #[] #[]))) (by rw [hk];rfl)<|.r 5<|.r 2<|.run 3 [b1=b1,b2=b2] rt2<|
 .call (Qxb f c okf okc hp)<|
 .r 3<|.new fun b5=>.new fun b6=>.run 2 [b5=b5,b6=b6] rt2<|
 .run 3 [b6=b6] rt1<|
 .br 30 (((Qea f c).2.e) != 0) (fun q1=>have p1:=bneT q1;.pick [0,1]<|.run 2 [b1=b1] rt1<|
 .fork<|.alt (.run 1 [b6=b6] rt1<|
 .pick [3,4,5]<|.run 3 [b3=b3,b4=b4] rt2<|
 .fin (x:=.tup [.agg (fsyA f),.agg [aI ((Qea f c).2.e),aI 0,aI 0,aI 0,aS ([]),aN]]) (r:=.tup [.agg (fsyA (doF f c).1),.agg (repA (doF f c).2)]) [b3=b3,b4=b4] rt2 (by
  rw [Qco (Qmb hk) (bneT q1)]
  exact Sub.tups ⟨sR,(Qaw _ _ _ _ _),trivial⟩))
 <| .run 1 [b3=b3] rt1<|
 .pick [2,3,5]<|.run 3 [b6=b6,b4=b4] rt2<|
 .fin (x:=.tup [.agg (fsyA f),.agg [aI ((Qea f c).2.e),aI 0,aI 0,aI 0,aS ([]),aN]]) (r:=.tup [.agg (fsyA (doF f c).1),.agg (repA (doF f c).2)]) [b3=b3,b4=b4] rt2 (by
  rw [Qco (Qmb hk) (bneT q1)]
  exact Sub.tups ⟨sR,(Qaw _ _ _ _ _),trivial⟩))
 <| fun q1=>have p1:=bneF q1;.pick [0]<|.run 1 [b5=b5] rt1<|
 .fork<|.alt (.run 1 [b6=b6] rt1<|
 .pick [2,3]<|.run 2 [b3=b3,b4=b4] rt2<|
 .fin (x:=.tup [.agg [.sl 5 false ((Qea f c).1.l.map nodA),aI ((Qea f c).1.next)],.agg [aI ((Qea f c).2.e),aI ((Qea f c).2.a),aI ((Qea f c).2.b),aI ((Qea f c).2.n),aS ((Qea f c).2.text),.sl 1 false ((Qea f c).2.names.map txA)]]) (r:=.tup [.agg (fsyA (doF f c).1),.agg (repA (doF f c).2)]) [b3=b3,b4=b4] rt2 (by
  rw [Qbq (Qmb hk) (bneF q1)]
  exact sR))
 <| .run 1 [b3=b3] rt1<|
 .pick [1,3]<|.run 2 [b6=b6,b4=b4] rt2<|
 .fin (x:=.tup [.agg [.sl 5 false ((Qea f c).1.l.map nodA),aI ((Qea f c).1.next)],.agg [aI ((Qea f c).2.e),aI ((Qea f c).2.a),aI ((Qea f c).2.b),aI ((Qea f c).2.n),aS ((Qea f c).2.text),.sl 1 false ((Qea f c).2.names.map txA)]]) (r:=.tup [.agg (fsyA (doF f c).1),.agg (repA (doF f c).2)]) [b3=b3,b4=b4] rt2 (by
  rw [Qbq (Qmb hk) (bneF q1)]
  exact sR)) Tryz.func48 rfl (by kernel_rfl) (by kernel_rfl)
theorem Zfi (f:Fsy) (c:Cal) (okf:OkF f) (okc:OkCal c) (hp:Qal f) (hx:f.next<9223372036854775807) (hk:c.kind=2):Qaj Tryz.prog 48 [.agg (fsyA f),.agg (calA c)] (.tup [.agg (fsyA (doF f c).1),.agg (repA (doF f c).2)]):=by
 exact Qac (F:=Tryz.f48) 400 (
 .new fun b1=>.new fun b2=>.new fun b3=>.new fun b4=>.ord [1,2,0,3,4,5,6,7,8]<|.run 2 [b2=b2] rt1<|
 .call (Qbv)<|
 .look (kk:=.i c.kind) (es:=[(.i 1,.val (.func (.func 130) #[] #[])),(.i 2,.val (.func (.func 131) #[] #[])),(.i 3,.val (.func (.func 132) #[] #[])),(.i 4,.val (.func (.func 133) #[] #[])),(.i 5,.val (.func (.func 134) #[] #[])),(.i 6,.val (.func (.func 135) #[] #[])),(.i 7,.val (.func (.func 137) #[] #[])),(.i 8,.val (.func (.func 138) #[] #[])),(.i 9,.val (.func (.func 139) #[] #[])),(.i 10,.val (.func (.func 141) #[] #[])),(.i 11,.val (.func (.func 142) #[] #[])),(.i 12,.val (.func (.func 144) #[] #[])),(.i 13,.val (.func (.func 146) #[] #[])),(.i 14,.val (.func (.func 148) #[] #[])),(.i 15,.val (.func (.func 150) #[] #[]))]) (fd:=some (1,.val (.func (.func 131) #[] #[]))) (by rw [hk];rfl)<|.r 5<|.r 2<|.run 3 [b1=b1,b2=b2] rt2<|
 .call (Qw9 f c okf okc hp)<|
 .r 3<|.new fun b5=>.new fun b6=>.run 2 [b5=b5,b6=b6] rt2<|
 .run 3 [b6=b6] rt1<|
 .br 30 (((Qcz f c).2.e) != 0) (fun q1=>have p1:=bneT q1;.pick [0,1]<|.run 2 [b1=b1] rt1<|
 .fork<|.alt (.run 1 [b6=b6] rt1<|
 .pick [3,4,5]<|.run 3 [b3=b3,b4=b4] rt2<|
 .fin (x:=.tup [.agg (fsyA f),.agg [aI ((Qcz f c).2.e),aI 0,aI 0,aI 0,aS ([]),aN]]) (r:=.tup [.agg (fsyA (doF f c).1),.agg (repA (doF f c).2)]) [b3=b3,b4=b4] rt2 (by
  rw [Qco (Qj8 hk) (bneT q1)]
  exact Sub.tups ⟨sR,(Qaw _ _ _ _ _),trivial⟩))
 <| .run 1 [b3=b3] rt1<|
 .pick [2,3,5]<|.run 3 [b6=b6,b4=b4] rt2<|
 .fin (x:=.tup [.agg (fsyA f),.agg [aI ((Qcz f c).2.e),aI 0,aI 0,aI 0,aS ([]),aN]]) (r:=.tup [.agg (fsyA (doF f c).1),.agg (repA (doF f c).2)]) [b3=b3,b4=b4] rt2 (by
  rw [Qco (Qj8 hk) (bneT q1)]
  exact Sub.tups ⟨sR,(Qaw _ _ _ _ _),trivial⟩))
 <| fun q1=>have p1:=bneF q1;.pick [0]<|.run 1 [b5=b5] rt1<|
 .fork<|.alt (.run 1 [b6=b6] rt1<|
 .pick [2,3]<|.run 2 [b3=b3,b4=b4] rt2<|
 .fin (x:=.tup [.agg [.sl 5 false ((Qcz f c).1.l.map nodA),aI ((Qcz f c).1.next)],.agg [aI ((Qcz f c).2.e),aI ((Qcz f c).2.a),aI ((Qcz f c).2.b),aI ((Qcz f c).2.n),aS ((Qcz f c).2.text),.sl 1 false ((Qcz f c).2.names.map txA)]]) (r:=.tup [.agg (fsyA (doF f c).1),.agg (repA (doF f c).2)]) [b3=b3,b4=b4] rt2 (by
  rw [Qbq (Qj8 hk) (bneF q1)]
  exact sR))
 <| .run 1 [b3=b3] rt1<|
 .pick [1,3]<|.run 2 [b6=b6,b4=b4] rt2<|
 .fin (x:=.tup [.agg [.sl 5 false ((Qcz f c).1.l.map nodA),aI ((Qcz f c).1.next)],.agg [aI ((Qcz f c).2.e),aI ((Qcz f c).2.a),aI ((Qcz f c).2.b),aI ((Qcz f c).2.n),aS ((Qcz f c).2.text),.sl 1 false ((Qcz f c).2.names.map txA)]]) (r:=.tup [.agg (fsyA (doF f c).1),.agg (repA (doF f c).2)]) [b3=b3,b4=b4] rt2 (by
  rw [Qbq (Qj8 hk) (bneF q1)]
  exact sR)) Tryz.func48 rfl (by kernel_rfl) (by kernel_rfl)
theorem Zfh (f:Fsy) (c:Cal) (okf:OkF f) (okc:OkCal c) (hp:Qal f) (hx:f.next<9223372036854775807) (hk:c.kind=3):Qaj Tryz.prog 48 [.agg (fsyA f),.agg (calA c)] (.tup [.agg (fsyA (doF f c).1),.agg (repA (doF f c).2)]):=by
 exact Qac (F:=Tryz.f48) 400 (
 .new fun b1=>.new fun b2=>.new fun b3=>.new fun b4=>.ord [1,2,0,3,4,5,6,7,8]<|.run 2 [b2=b2] rt1<|
 .call (Qbv)<|
 .look (kk:=.i c.kind) (es:=[(.i 1,.val (.func (.func 130) #[] #[])),(.i 2,.val (.func (.func 131) #[] #[])),(.i 3,.val (.func (.func 132) #[] #[])),(.i 4,.val (.func (.func 133) #[] #[])),(.i 5,.val (.func (.func 134) #[] #[])),(.i 6,.val (.func (.func 135) #[] #[])),(.i 7,.val (.func (.func 137) #[] #[])),(.i 8,.val (.func (.func 138) #[] #[])),(.i 9,.val (.func (.func 139) #[] #[])),(.i 10,.val (.func (.func 141) #[] #[])),(.i 11,.val (.func (.func 142) #[] #[])),(.i 12,.val (.func (.func 144) #[] #[])),(.i 13,.val (.func (.func 146) #[] #[])),(.i 14,.val (.func (.func 148) #[] #[])),(.i 15,.val (.func (.func 150) #[] #[]))]) (fd:=some (2,.val (.func (.func 132) #[] #[]))) (by rw [hk];rfl)<|.r 5<|.r 2<|.run 3 [b1=b1,b2=b2] rt2<|
 .call (Ziw f c okf okc hp)<|
 .r 3<|.new fun b5=>.new fun b6=>.run 2 [b5=b5,b6=b6] rt2<|
 .run 3 [b6=b6] rt1<|
 .br 30 (((Qc0 f c).2.e) != 0) (fun q1=>have p1:=bneT q1;.pick [0,1]<|.run 2 [b1=b1] rt1<|
 .fork<|.alt (.run 1 [b6=b6] rt1<|
 .pick [3,4,5]<|.run 3 [b3=b3,b4=b4] rt2<|
 .fin (x:=.tup [.agg (fsyA f),.agg [aI ((Qc0 f c).2.e),aI 0,aI 0,aI 0,aS ([]),aN]]) (r:=.tup [.agg (fsyA (doF f c).1),.agg (repA (doF f c).2)]) [b3=b3,b4=b4] rt2 (by
  rw [Qco (Qj7 hk) (bneT q1)]
  exact Sub.tups ⟨sR,(Qaw _ _ _ _ _),trivial⟩))
 <| .run 1 [b3=b3] rt1<|
 .pick [2,3,5]<|.run 3 [b6=b6,b4=b4] rt2<|
 .fin (x:=.tup [.agg (fsyA f),.agg [aI ((Qc0 f c).2.e),aI 0,aI 0,aI 0,aS ([]),aN]]) (r:=.tup [.agg (fsyA (doF f c).1),.agg (repA (doF f c).2)]) [b3=b3,b4=b4] rt2 (by
  rw [Qco (Qj7 hk) (bneT q1)]
  exact Sub.tups ⟨sR,(Qaw _ _ _ _ _),trivial⟩))
 <| fun q1=>have p1:=bneF q1;.pick [0]<|.run 1 [b5=b5] rt1<|
 .fork<|.alt (.run 1 [b6=b6] rt1<|
 .pick [2,3]<|.run 2 [b3=b3,b4=b4] rt2<|
 .fin (x:=.tup [.agg [.sl 5 false ((Qc0 f c).1.l.map nodA),aI ((Qc0 f c).1.next)],.agg [aI ((Qc0 f c).2.e),aI ((Qc0 f c).2.a),aI ((Qc0 f c).2.b),aI ((Qc0 f c).2.n),aS ((Qc0 f c).2.text),.sl 1 false ((Qc0 f c).2.names.map txA)]]) (r:=.tup [.agg (fsyA (doF f c).1),.agg (repA (doF f c).2)]) [b3=b3,b4=b4] rt2 (by
  rw [Qbq (Qj7 hk) (bneF q1)]
  exact sR))
 <| .run 1 [b3=b3] rt1<|
 .pick [1,3]<|.run 2 [b6=b6,b4=b4] rt2<|
 .fin (x:=.tup [.agg [.sl 5 false ((Qc0 f c).1.l.map nodA),aI ((Qc0 f c).1.next)],.agg [aI ((Qc0 f c).2.e),aI ((Qc0 f c).2.a),aI ((Qc0 f c).2.b),aI ((Qc0 f c).2.n),aS ((Qc0 f c).2.text),.sl 1 false ((Qc0 f c).2.names.map txA)]]) (r:=.tup [.agg (fsyA (doF f c).1),.agg (repA (doF f c).2)]) [b3=b3,b4=b4] rt2 (by
  rw [Qbq (Qj7 hk) (bneF q1)]
  exact sR)) Tryz.func48 rfl (by kernel_rfl) (by kernel_rfl)
theorem Zfg (f:Fsy) (c:Cal) (okf:OkF f) (okc:OkCal c) (hp:Qal f) (hx:f.next<9223372036854775807) (hk:c.kind=4):Qaj Tryz.prog 48 [.agg (fsyA f),.agg (calA c)] (.tup [.agg (fsyA (doF f c).1),.agg (repA (doF f c).2)]):=by
 exact Qac (F:=Tryz.f48) 400 (
 .new fun b1=>.new fun b2=>.new fun b3=>.new fun b4=>.ord [1,2,0,3,4,5,6,7,8]<|.run 2 [b2=b2] rt1<|
 .call (Qbv)<|
 .look (kk:=.i c.kind) (es:=[(.i 1,.val (.func (.func 130) #[] #[])),(.i 2,.val (.func (.func 131) #[] #[])),(.i 3,.val (.func (.func 132) #[] #[])),(.i 4,.val (.func (.func 133) #[] #[])),(.i 5,.val (.func (.func 134) #[] #[])),(.i 6,.val (.func (.func 135) #[] #[])),(.i 7,.val (.func (.func 137) #[] #[])),(.i 8,.val (.func (.func 138) #[] #[])),(.i 9,.val (.func (.func 139) #[] #[])),(.i 10,.val (.func (.func 141) #[] #[])),(.i 11,.val (.func (.func 142) #[] #[])),(.i 12,.val (.func (.func 144) #[] #[])),(.i 13,.val (.func (.func 146) #[] #[])),(.i 14,.val (.func (.func 148) #[] #[])),(.i 15,.val (.func (.func 150) #[] #[]))]) (fd:=some (3,.val (.func (.func 133) #[] #[]))) (by rw [hk];rfl)<|.r 5<|.r 2<|.run 3 [b1=b1,b2=b2] rt2<|
 .call (Ze8 f c okf okc hp)<|
 .r 3<|.new fun b5=>.new fun b6=>.run 2 [b5=b5,b6=b6] rt2<|
 .run 3 [b6=b6] rt1<|
 .br 30 (((Qb2 f c).2.e) != 0) (fun q1=>have p1:=bneT q1;.pick [0,1]<|.run 2 [b1=b1] rt1<|
 .fork<|.alt (.run 1 [b6=b6] rt1<|
 .pick [3,4,5]<|.run 3 [b3=b3,b4=b4] rt2<|
 .fin (x:=.tup [.agg (fsyA f),.agg [aI ((Qb2 f c).2.e),aI 0,aI 0,aI 0,aS ([]),aN]]) (r:=.tup [.agg (fsyA (doF f c).1),.agg (repA (doF f c).2)]) [b3=b3,b4=b4] rt2 (by
  rw [Qco (Qj6 hk) (bneT q1)]
  exact Sub.tups ⟨sR,(Qaw _ _ _ _ _),trivial⟩))
 <| .run 1 [b3=b3] rt1<|
 .pick [2,3,5]<|.run 3 [b6=b6,b4=b4] rt2<|
 .fin (x:=.tup [.agg (fsyA f),.agg [aI ((Qb2 f c).2.e),aI 0,aI 0,aI 0,aS ([]),aN]]) (r:=.tup [.agg (fsyA (doF f c).1),.agg (repA (doF f c).2)]) [b3=b3,b4=b4] rt2 (by
  rw [Qco (Qj6 hk) (bneT q1)]
  exact Sub.tups ⟨sR,(Qaw _ _ _ _ _),trivial⟩))
 <| fun q1=>have p1:=bneF q1;.pick [0]<|.run 1 [b5=b5] rt1<|
 .fork<|.alt (.run 1 [b6=b6] rt1<|
 .pick [2,3]<|.run 2 [b3=b3,b4=b4] rt2<|
 .fin (x:=.tup [.agg [.sl 5 false ((Qb2 f c).1.l.map nodA),aI ((Qb2 f c).1.next)],.agg [aI ((Qb2 f c).2.e),aI ((Qb2 f c).2.a),aI ((Qb2 f c).2.b),aI ((Qb2 f c).2.n),aS ((Qb2 f c).2.text),.sl 1 false ((Qb2 f c).2.names.map txA)]]) (r:=.tup [.agg (fsyA (doF f c).1),.agg (repA (doF f c).2)]) [b3=b3,b4=b4] rt2 (by
  rw [Qbq (Qj6 hk) (bneF q1)]
  exact sR))
 <| .run 1 [b3=b3] rt1<|
 .pick [1,3]<|.run 2 [b6=b6,b4=b4] rt2<|
 .fin (x:=.tup [.agg [.sl 5 false ((Qb2 f c).1.l.map nodA),aI ((Qb2 f c).1.next)],.agg [aI ((Qb2 f c).2.e),aI ((Qb2 f c).2.a),aI ((Qb2 f c).2.b),aI ((Qb2 f c).2.n),aS ((Qb2 f c).2.text),.sl 1 false ((Qb2 f c).2.names.map txA)]]) (r:=.tup [.agg (fsyA (doF f c).1),.agg (repA (doF f c).2)]) [b3=b3,b4=b4] rt2 (by
  rw [Qbq (Qj6 hk) (bneF q1)]
  exact sR)) Tryz.func48 rfl (by kernel_rfl) (by kernel_rfl)
theorem Zff (f:Fsy) (c:Cal) (okf:OkF f) (okc:OkCal c) (hp:Qal f) (hx:f.next<9223372036854775807) (hk:c.kind=5):Qaj Tryz.prog 48 [.agg (fsyA f),.agg (calA c)] (.tup [.agg (fsyA (doF f c).1),.agg (repA (doF f c).2)]):=by
 exact Qac (F:=Tryz.f48) 400 (
 .new fun b1=>.new fun b2=>.new fun b3=>.new fun b4=>.ord [1,2,0,3,4,5,6,7,8]<|.run 2 [b2=b2] rt1<|
 .call (Qbv)<|
 .look (kk:=.i c.kind) (es:=[(.i 1,.val (.func (.func 130) #[] #[])),(.i 2,.val (.func (.func 131) #[] #[])),(.i 3,.val (.func (.func 132) #[] #[])),(.i 4,.val (.func (.func 133) #[] #[])),(.i 5,.val (.func (.func 134) #[] #[])),(.i 6,.val (.func (.func 135) #[] #[])),(.i 7,.val (.func (.func 137) #[] #[])),(.i 8,.val (.func (.func 138) #[] #[])),(.i 9,.val (.func (.func 139) #[] #[])),(.i 10,.val (.func (.func 141) #[] #[])),(.i 11,.val (.func (.func 142) #[] #[])),(.i 12,.val (.func (.func 144) #[] #[])),(.i 13,.val (.func (.func 146) #[] #[])),(.i 14,.val (.func (.func 148) #[] #[])),(.i 15,.val (.func (.func 150) #[] #[]))]) (fd:=some (4,.val (.func (.func 134) #[] #[]))) (by rw [hk];rfl)<|.r 5<|.r 2<|.run 3 [b1=b1,b2=b2] rt2<|
 .call (dcut_o f c okf okc hp)<|
 .r 3<|.new fun b5=>.new fun b6=>.run 2 [b5=b5,b6=b6] rt2<|
 .run 3 [b6=b6] rt1<|
 .br 30 (((cutO f c).2.e) != 0) (fun q1=>have p1:=bneT q1;.pick [0,1]<|.run 2 [b1=b1] rt1<|
 .fork<|.alt (.run 1 [b6=b6] rt1<|
 .pick [3,4,5]<|.run 3 [b3=b3,b4=b4] rt2<|
 .fin (x:=.tup [.agg (fsyA f),.agg [aI ((cutO f c).2.e),aI 0,aI 0,aI 0,aS ([]),aN]]) (r:=.tup [.agg (fsyA (doF f c).1),.agg (repA (doF f c).2)]) [b3=b3,b4=b4] rt2 (by
  rw [Qco (Qj5 hk) (bneT q1)]
  exact Sub.tups ⟨sR,(Qaw _ _ _ _ _),trivial⟩))
 <| .run 1 [b3=b3] rt1<|
 .pick [2,3,5]<|.run 3 [b6=b6,b4=b4] rt2<|
 .fin (x:=.tup [.agg (fsyA f),.agg [aI ((cutO f c).2.e),aI 0,aI 0,aI 0,aS ([]),aN]]) (r:=.tup [.agg (fsyA (doF f c).1),.agg (repA (doF f c).2)]) [b3=b3,b4=b4] rt2 (by
  rw [Qco (Qj5 hk) (bneT q1)]
  exact Sub.tups ⟨sR,(Qaw _ _ _ _ _),trivial⟩))
 <| fun q1=>have p1:=bneF q1;.pick [0]<|.run 1 [b5=b5] rt1<|
 .fork<|.alt (.run 1 [b6=b6] rt1<|
 .pick [2,3]<|.run 2 [b3=b3,b4=b4] rt2<|
 .fin (x:=.tup [.agg [.sl 5 false ((cutO f c).1.l.map nodA),aI ((cutO f c).1.next)],.agg [aI ((cutO f c).2.e),aI ((cutO f c).2.a),aI ((cutO f c).2.b),aI ((cutO f c).2.n),aS ((cutO f c).2.text),.sl 1 false ((cutO f c).2.names.map txA)]]) (r:=.tup [.agg (fsyA (doF f c).1),.agg (repA (doF f c).2)]) [b3=b3,b4=b4] rt2 (by
  rw [Qbq (Qj5 hk) (bneF q1)]
  exact sR))
 <| .run 1 [b3=b3] rt1<|
 .pick [1,3]<|.run 2 [b6=b6,b4=b4] rt2<|
 .fin (x:=.tup [.agg [.sl 5 false ((cutO f c).1.l.map nodA),aI ((cutO f c).1.next)],.agg [aI ((cutO f c).2.e),aI ((cutO f c).2.a),aI ((cutO f c).2.b),aI ((cutO f c).2.n),aS ((cutO f c).2.text),.sl 1 false ((cutO f c).2.names.map txA)]]) (r:=.tup [.agg (fsyA (doF f c).1),.agg (repA (doF f c).2)]) [b3=b3,b4=b4] rt2 (by
  rw [Qbq (Qj5 hk) (bneF q1)]
  exact sR)) Tryz.func48 rfl (by kernel_rfl) (by kernel_rfl)
theorem Zfe (f:Fsy) (c:Cal) (okf:OkF f) (okc:OkCal c) (hp:Qal f) (hx:f.next<9223372036854775807) (hk:c.kind=6):Qaj Tryz.prog 48 [.agg (fsyA f),.agg (calA c)] (.tup [.agg (fsyA (doF f c).1),.agg (repA (doF f c).2)]):=by
 exact Qac (F:=Tryz.f48) 400 (
 .new fun b1=>.new fun b2=>.new fun b3=>.new fun b4=>.ord [1,2,0,3,4,5,6,7,8]<|.run 2 [b2=b2] rt1<|
 .call (Qbv)<|
 .look (kk:=.i c.kind) (es:=[(.i 1,.val (.func (.func 130) #[] #[])),(.i 2,.val (.func (.func 131) #[] #[])),(.i 3,.val (.func (.func 132) #[] #[])),(.i 4,.val (.func (.func 133) #[] #[])),(.i 5,.val (.func (.func 134) #[] #[])),(.i 6,.val (.func (.func 135) #[] #[])),(.i 7,.val (.func (.func 137) #[] #[])),(.i 8,.val (.func (.func 138) #[] #[])),(.i 9,.val (.func (.func 139) #[] #[])),(.i 10,.val (.func (.func 141) #[] #[])),(.i 11,.val (.func (.func 142) #[] #[])),(.i 12,.val (.func (.func 144) #[] #[])),(.i 13,.val (.func (.func 146) #[] #[])),(.i 14,.val (.func (.func 148) #[] #[])),(.i 15,.val (.func (.func 150) #[] #[]))]) (fd:=some (5,.val (.func (.func 135) #[] #[]))) (by rw [hk];rfl)<|.r 5<|.r 2<|.run 3 [b1=b1,b2=b2] rt2<|
 .call (Zi2 f c okf okc hp hx)<|
 .r 3<|.new fun b5=>.new fun b6=>.run 2 [b5=b5,b6=b6] rt2<|
 .run 3 [b6=b6] rt1<|
 .br 30 (((addO f c ⟨0,1,0,[],[]⟩).2.e) != 0) (fun q1=>have p1:=bneT q1;.pick [0,1]<|.run 2 [b1=b1] rt1<|
 .fork<|.alt (.run 1 [b6=b6] rt1<|
 .pick [3,4,5]<|.run 3 [b3=b3,b4=b4] rt2<|
 .fin (x:=.tup [.agg (fsyA f),.agg [aI ((addO f c ⟨0,1,0,[],[]⟩).2.e),aI 0,aI 0,aI 0,aS ([]),aN]]) (r:=.tup [.agg (fsyA (doF f c).1),.agg (repA (doF f c).2)]) [b3=b3,b4=b4] rt2 (by
  rw [Qco (Qiy hk) (bneT q1)]
  exact Sub.tups ⟨sR,(Qaw _ _ _ _ _),trivial⟩))
 <| .run 1 [b3=b3] rt1<|
 .pick [2,3,5]<|.run 3 [b6=b6,b4=b4] rt2<|
 .fin (x:=.tup [.agg (fsyA f),.agg [aI ((addO f c ⟨0,1,0,[],[]⟩).2.e),aI 0,aI 0,aI 0,aS ([]),aN]]) (r:=.tup [.agg (fsyA (doF f c).1),.agg (repA (doF f c).2)]) [b3=b3,b4=b4] rt2 (by
  rw [Qco (Qiy hk) (bneT q1)]
  exact Sub.tups ⟨sR,(Qaw _ _ _ _ _),trivial⟩))
 <| fun q1=>have p1:=bneF q1;.pick [0]<|.run 1 [b5=b5] rt1<|
 .fork<|.alt (.run 1 [b6=b6] rt1<|
 .pick [2,3]<|.run 2 [b3=b3,b4=b4] rt2<|
 .fin (x:=.tup [.agg [.sl 5 false ((addO f c ⟨0,1,0,[],[]⟩).1.l.map nodA),aI ((addO f c ⟨0,1,0,[],[]⟩).1.next)],.agg [aI ((addO f c ⟨0,1,0,[],[]⟩).2.e),aI ((addO f c ⟨0,1,0,[],[]⟩).2.a),aI ((addO f c ⟨0,1,0,[],[]⟩).2.b),aI ((addO f c ⟨0,1,0,[],[]⟩).2.n),aS ((addO f c ⟨0,1,0,[],[]⟩).2.text),.sl 1 false ((addO f c ⟨0,1,0,[],[]⟩).2.names.map txA)]]) (r:=.tup [.agg (fsyA (doF f c).1),.agg (repA (doF f c).2)]) [b3=b3,b4=b4] rt2 (by
  rw [Qbq (Qiy hk) (bneF q1)]
  exact sR))
 <| .run 1 [b3=b3] rt1<|
 .pick [1,3]<|.run 2 [b6=b6,b4=b4] rt2<|
 .fin (x:=.tup [.agg [.sl 5 false ((addO f c ⟨0,1,0,[],[]⟩).1.l.map nodA),aI ((addO f c ⟨0,1,0,[],[]⟩).1.next)],.agg [aI ((addO f c ⟨0,1,0,[],[]⟩).2.e),aI ((addO f c ⟨0,1,0,[],[]⟩).2.a),aI ((addO f c ⟨0,1,0,[],[]⟩).2.b),aI ((addO f c ⟨0,1,0,[],[]⟩).2.n),aS ((addO f c ⟨0,1,0,[],[]⟩).2.text),.sl 1 false ((addO f c ⟨0,1,0,[],[]⟩).2.names.map txA)]]) (r:=.tup [.agg (fsyA (doF f c).1),.agg (repA (doF f c).2)]) [b3=b3,b4=b4] rt2 (by
  rw [Qbq (Qiy hk) (bneF q1)]
  exact sR)) Tryz.func48 rfl (by kernel_rfl) (by kernel_rfl)
theorem Zfd (f:Fsy) (c:Cal) (okf:OkF f) (okc:OkCal c) (hp:Qal f) (hx:f.next<9223372036854775807) (hk:c.kind=7):Qaj Tryz.prog 48 [.agg (fsyA f),.agg (calA c)] (.tup [.agg (fsyA (doF f c).1),.agg (repA (doF f c).2)]):=by
 exact Qac (F:=Tryz.f48) 400 (
 .new fun b1=>.new fun b2=>.new fun b3=>.new fun b4=>.ord [1,2,0,3,4,5,6,7,8]<|.run 2 [b2=b2] rt1<|
 .call (Qbv)<|
 .look (kk:=.i c.kind) (es:=[(.i 1,.val (.func (.func 130) #[] #[])),(.i 2,.val (.func (.func 131) #[] #[])),(.i 3,.val (.func (.func 132) #[] #[])),(.i 4,.val (.func (.func 133) #[] #[])),(.i 5,.val (.func (.func 134) #[] #[])),(.i 6,.val (.func (.func 135) #[] #[])),(.i 7,.val (.func (.func 137) #[] #[])),(.i 8,.val (.func (.func 138) #[] #[])),(.i 9,.val (.func (.func 139) #[] #[])),(.i 10,.val (.func (.func 141) #[] #[])),(.i 11,.val (.func (.func 142) #[] #[])),(.i 12,.val (.func (.func 144) #[] #[])),(.i 13,.val (.func (.func 146) #[] #[])),(.i 14,.val (.func (.func 148) #[] #[])),(.i 15,.val (.func (.func 150) #[] #[]))]) (fd:=some (6,.val (.func (.func 137) #[] #[]))) (by rw [hk];rfl)<|.r 5<|.r 2<|.run 3 [b1=b1,b2=b2] rt2<|
 .call (Zi1 f c okf okc hp hx)<|
 .r 3<|.new fun b5=>.new fun b6=>.run 2 [b5=b5,b6=b6] rt2<|
 .run 3 [b6=b6] rt1<|
 .br 30 (((addO f c ⟨0,2,0,[],[]⟩).2.e) != 0) (fun q1=>have p1:=bneT q1;.pick [0,1]<|.run 2 [b1=b1] rt1<|
 .fork<|.alt (.run 1 [b6=b6] rt1<|
 .pick [3,4,5]<|.run 3 [b3=b3,b4=b4] rt2<|
 .fin (x:=.tup [.agg (fsyA f),.agg [aI ((addO f c ⟨0,2,0,[],[]⟩).2.e),aI 0,aI 0,aI 0,aS ([]),aN]]) (r:=.tup [.agg (fsyA (doF f c).1),.agg (repA (doF f c).2)]) [b3=b3,b4=b4] rt2 (by
  rw [Qco (Qj4 hk) (bneT q1)]
  exact Sub.tups ⟨sR,(Qaw _ _ _ _ _),trivial⟩))
 <| .run 1 [b3=b3] rt1<|
 .pick [2,3,5]<|.run 3 [b6=b6,b4=b4] rt2<|
 .fin (x:=.tup [.agg (fsyA f),.agg [aI ((addO f c ⟨0,2,0,[],[]⟩).2.e),aI 0,aI 0,aI 0,aS ([]),aN]]) (r:=.tup [.agg (fsyA (doF f c).1),.agg (repA (doF f c).2)]) [b3=b3,b4=b4] rt2 (by
  rw [Qco (Qj4 hk) (bneT q1)]
  exact Sub.tups ⟨sR,(Qaw _ _ _ _ _),trivial⟩))
 <| fun q1=>have p1:=bneF q1;.pick [0]<|.run 1 [b5=b5] rt1<|
 .fork<|.alt (.run 1 [b6=b6] rt1<|
 .pick [2,3]<|.run 2 [b3=b3,b4=b4] rt2<|
 .fin (x:=.tup [.agg [.sl 5 false ((addO f c ⟨0,2,0,[],[]⟩).1.l.map nodA),aI ((addO f c ⟨0,2,0,[],[]⟩).1.next)],.agg [aI ((addO f c ⟨0,2,0,[],[]⟩).2.e),aI ((addO f c ⟨0,2,0,[],[]⟩).2.a),aI ((addO f c ⟨0,2,0,[],[]⟩).2.b),aI ((addO f c ⟨0,2,0,[],[]⟩).2.n),aS ((addO f c ⟨0,2,0,[],[]⟩).2.text),.sl 1 false ((addO f c ⟨0,2,0,[],[]⟩).2.names.map txA)]]) (r:=.tup [.agg (fsyA (doF f c).1),.agg (repA (doF f c).2)]) [b3=b3,b4=b4] rt2 (by
  rw [Qbq (Qj4 hk) (bneF q1)]
  exact sR))
 <| .run 1 [b3=b3] rt1<|
 .pick [1,3]<|.run 2 [b6=b6,b4=b4] rt2<|
 .fin (x:=.tup [.agg [.sl 5 false ((addO f c ⟨0,2,0,[],[]⟩).1.l.map nodA),aI ((addO f c ⟨0,2,0,[],[]⟩).1.next)],.agg [aI ((addO f c ⟨0,2,0,[],[]⟩).2.e),aI ((addO f c ⟨0,2,0,[],[]⟩).2.a),aI ((addO f c ⟨0,2,0,[],[]⟩).2.b),aI ((addO f c ⟨0,2,0,[],[]⟩).2.n),aS ((addO f c ⟨0,2,0,[],[]⟩).2.text),.sl 1 false ((addO f c ⟨0,2,0,[],[]⟩).2.names.map txA)]]) (r:=.tup [.agg (fsyA (doF f c).1),.agg (repA (doF f c).2)]) [b3=b3,b4=b4] rt2 (by
  rw [Qbq (Qj4 hk) (bneF q1)]
  exact sR)) Tryz.func48 rfl (by kernel_rfl) (by kernel_rfl)
theorem Zfc (f:Fsy) (c:Cal) (okf:OkF f) (okc:OkCal c) (hp:Qal f) (hx:f.next<9223372036854775807) (hk:c.kind=8):Qaj Tryz.prog 48 [.agg (fsyA f),.agg (calA c)] (.tup [.agg (fsyA (doF f c).1),.agg (repA (doF f c).2)]):=by
 exact Qac (F:=Tryz.f48) 400 (
 .new fun b1=>.new fun b2=>.new fun b3=>.new fun b4=>.ord [1,2,0,3,4,5,6,7,8]<|.run 2 [b2=b2] rt1<|
 .call (Qbv)<|
 .look (kk:=.i c.kind) (es:=[(.i 1,.val (.func (.func 130) #[] #[])),(.i 2,.val (.func (.func 131) #[] #[])),(.i 3,.val (.func (.func 132) #[] #[])),(.i 4,.val (.func (.func 133) #[] #[])),(.i 5,.val (.func (.func 134) #[] #[])),(.i 6,.val (.func (.func 135) #[] #[])),(.i 7,.val (.func (.func 137) #[] #[])),(.i 8,.val (.func (.func 138) #[] #[])),(.i 9,.val (.func (.func 139) #[] #[])),(.i 10,.val (.func (.func 141) #[] #[])),(.i 11,.val (.func (.func 142) #[] #[])),(.i 12,.val (.func (.func 144) #[] #[])),(.i 13,.val (.func (.func 146) #[] #[])),(.i 14,.val (.func (.func 148) #[] #[])),(.i 15,.val (.func (.func 150) #[] #[]))]) (fd:=some (7,.val (.func (.func 138) #[] #[]))) (by rw [hk];rfl)<|.r 5<|.r 2<|.run 3 [b1=b1,b2=b2] rt2<|
 .call (Zi0 f c okf okc hp hx)<|
 .r 3<|.new fun b5=>.new fun b6=>.run 2 [b5=b5,b6=b6] rt2<|
 .run 3 [b6=b6] rt1<|
 .br 30 (((symO f c).2.e) != 0) (fun q1=>have p1:=bneT q1;.pick [0,1]<|.run 2 [b1=b1] rt1<|
 .fork<|.alt (.run 1 [b6=b6] rt1<|
 .pick [3,4,5]<|.run 3 [b3=b3,b4=b4] rt2<|
 .fin (x:=.tup [.agg (fsyA f),.agg [aI ((symO f c).2.e),aI 0,aI 0,aI 0,aS ([]),aN]]) (r:=.tup [.agg (fsyA (doF f c).1),.agg (repA (doF f c).2)]) [b3=b3,b4=b4] rt2 (by
  rw [Qco (Qj3 hk) (bneT q1)]
  exact Sub.tups ⟨sR,(Qaw _ _ _ _ _),trivial⟩))
 <| .run 1 [b3=b3] rt1<|
 .pick [2,3,5]<|.run 3 [b6=b6,b4=b4] rt2<|
 .fin (x:=.tup [.agg (fsyA f),.agg [aI ((symO f c).2.e),aI 0,aI 0,aI 0,aS ([]),aN]]) (r:=.tup [.agg (fsyA (doF f c).1),.agg (repA (doF f c).2)]) [b3=b3,b4=b4] rt2 (by
  rw [Qco (Qj3 hk) (bneT q1)]
  exact Sub.tups ⟨sR,(Qaw _ _ _ _ _),trivial⟩))
 <| fun q1=>have p1:=bneF q1;.pick [0]<|.run 1 [b5=b5] rt1<|
 .fork<|.alt (.run 1 [b6=b6] rt1<|
 .pick [2,3]<|.run 2 [b3=b3,b4=b4] rt2<|
 .fin (x:=.tup [.agg [.sl 5 false ((symO f c).1.l.map nodA),aI ((symO f c).1.next)],.agg [aI ((symO f c).2.e),aI ((symO f c).2.a),aI ((symO f c).2.b),aI ((symO f c).2.n),aS ((symO f c).2.text),.sl 1 false ((symO f c).2.names.map txA)]]) (r:=.tup [.agg (fsyA (doF f c).1),.agg (repA (doF f c).2)]) [b3=b3,b4=b4] rt2 (by
  rw [Qbq (Qj3 hk) (bneF q1)]
  exact sR))
 <| .run 1 [b3=b3] rt1<|
 .pick [1,3]<|.run 2 [b6=b6,b4=b4] rt2<|
 .fin (x:=.tup [.agg [.sl 5 false ((symO f c).1.l.map nodA),aI ((symO f c).1.next)],.agg [aI ((symO f c).2.e),aI ((symO f c).2.a),aI ((symO f c).2.b),aI ((symO f c).2.n),aS ((symO f c).2.text),.sl 1 false ((symO f c).2.names.map txA)]]) (r:=.tup [.agg (fsyA (doF f c).1),.agg (repA (doF f c).2)]) [b3=b3,b4=b4] rt2 (by
  rw [Qbq (Qj3 hk) (bneF q1)]
  exact sR)) Tryz.func48 rfl (by kernel_rfl) (by kernel_rfl)
theorem Zfb (f:Fsy) (c:Cal) (okf:OkF f) (okc:OkCal c) (hp:Qal f) (hx:f.next<9223372036854775807) (hk:c.kind=9):Qaj Tryz.prog 48 [.agg (fsyA f),.agg (calA c)] (.tup [.agg (fsyA (doF f c).1),.agg (repA (doF f c).2)]):=by
 exact Qac (F:=Tryz.f48) 400 (
 .new fun b1=>.new fun b2=>.new fun b3=>.new fun b4=>.ord [1,2,0,3,4,5,6,7,8]<|.run 2 [b2=b2] rt1<|
 .call (Qbv)<|
 .look (kk:=.i c.kind) (es:=[(.i 1,.val (.func (.func 130) #[] #[])),(.i 2,.val (.func (.func 131) #[] #[])),(.i 3,.val (.func (.func 132) #[] #[])),(.i 4,.val (.func (.func 133) #[] #[])),(.i 5,.val (.func (.func 134) #[] #[])),(.i 6,.val (.func (.func 135) #[] #[])),(.i 7,.val (.func (.func 137) #[] #[])),(.i 8,.val (.func (.func 138) #[] #[])),(.i 9,.val (.func (.func 139) #[] #[])),(.i 10,.val (.func (.func 141) #[] #[])),(.i 11,.val (.func (.func 142) #[] #[])),(.i 12,.val (.func (.func 144) #[] #[])),(.i 13,.val (.func (.func 146) #[] #[])),(.i 14,.val (.func (.func 148) #[] #[])),(.i 15,.val (.func (.func 150) #[] #[]))]) (fd:=some (8,.val (.func (.func 139) #[] #[]))) (by rw [hk];rfl)<|.r 5<|.r 2<|.run 3 [b1=b1,b2=b2] rt2<|
 .call (Ziz f c okf okc hp)<|
 .r 3<|.new fun b5=>.new fun b6=>.run 2 [b5=b5,b6=b6] rt2<|
 .run 3 [b6=b6] rt1<|
 .br 30 (((Qa9 f c false 9).2.e) != 0) (fun q1=>have p1:=bneT q1;.pick [0,1]<|.run 2 [b1=b1] rt1<|
 .fork<|.alt (.run 1 [b6=b6] rt1<|
 .pick [3,4,5]<|.run 3 [b3=b3,b4=b4] rt2<|
 .fin (x:=.tup [.agg (fsyA f),.agg [aI ((Qa9 f c false 9).2.e),aI 0,aI 0,aI 0,aS ([]),aN]]) (r:=.tup [.agg (fsyA (doF f c).1),.agg (repA (doF f c).2)]) [b3=b3,b4=b4] rt2 (by
  rw [Qco (Qix hk) (bneT q1)]
  exact Sub.tups ⟨sR,(Qaw _ _ _ _ _),trivial⟩))
 <| .run 1 [b3=b3] rt1<|
 .pick [2,3,5]<|.run 3 [b6=b6,b4=b4] rt2<|
 .fin (x:=.tup [.agg (fsyA f),.agg [aI ((Qa9 f c false 9).2.e),aI 0,aI 0,aI 0,aS ([]),aN]]) (r:=.tup [.agg (fsyA (doF f c).1),.agg (repA (doF f c).2)]) [b3=b3,b4=b4] rt2 (by
  rw [Qco (Qix hk) (bneT q1)]
  exact Sub.tups ⟨sR,(Qaw _ _ _ _ _),trivial⟩))
 <| fun q1=>have p1:=bneF q1;.pick [0]<|.run 1 [b5=b5] rt1<|
 .fork<|.alt (.run 1 [b6=b6] rt1<|
 .pick [2,3]<|.run 2 [b3=b3,b4=b4] rt2<|
 .fin (x:=.tup [.agg [.sl 5 false ((Qa9 f c false 9).1.l.map nodA),aI ((Qa9 f c false 9).1.next)],.agg [aI ((Qa9 f c false 9).2.e),aI ((Qa9 f c false 9).2.a),aI ((Qa9 f c false 9).2.b),aI ((Qa9 f c false 9).2.n),aS ((Qa9 f c false 9).2.text),.sl 1 false ((Qa9 f c false 9).2.names.map txA)]]) (r:=.tup [.agg (fsyA (doF f c).1),.agg (repA (doF f c).2)]) [b3=b3,b4=b4] rt2 (by
  rw [Qbq (Qix hk) (bneF q1)]
  exact sR))
 <| .run 1 [b3=b3] rt1<|
 .pick [1,3]<|.run 2 [b6=b6,b4=b4] rt2<|
 .fin (x:=.tup [.agg [.sl 5 false ((Qa9 f c false 9).1.l.map nodA),aI ((Qa9 f c false 9).1.next)],.agg [aI ((Qa9 f c false 9).2.e),aI ((Qa9 f c false 9).2.a),aI ((Qa9 f c false 9).2.b),aI ((Qa9 f c false 9).2.n),aS ((Qa9 f c false 9).2.text),.sl 1 false ((Qa9 f c false 9).2.names.map txA)]]) (r:=.tup [.agg (fsyA (doF f c).1),.agg (repA (doF f c).2)]) [b3=b3,b4=b4] rt2 (by
  rw [Qbq (Qix hk) (bneF q1)]
  exact sR)) Tryz.func48 rfl (by kernel_rfl) (by kernel_rfl)
theorem Zbu (f:Fsy) (c:Cal) (okf:OkF f) (okc:OkCal c) (hp:Qal f) (hx:f.next<9223372036854775807) (hk:c.kind=10):Qaj Tryz.prog 48 [.agg (fsyA f),.agg (calA c)] (.tup [.agg (fsyA (doF f c).1),.agg (repA (doF f c).2)]):=by
 exact Qac (F:=Tryz.f48) 400 (
 .new fun b1=>.new fun b2=>.new fun b3=>.new fun b4=>.ord [1,2,0,3,4,5,6,7,8]<|.run 2 [b2=b2] rt1<|
 .call (Qbv)<|
 .look (kk:=.i c.kind) (es:=[(.i 1,.val (.func (.func 130) #[] #[])),(.i 2,.val (.func (.func 131) #[] #[])),(.i 3,.val (.func (.func 132) #[] #[])),(.i 4,.val (.func (.func 133) #[] #[])),(.i 5,.val (.func (.func 134) #[] #[])),(.i 6,.val (.func (.func 135) #[] #[])),(.i 7,.val (.func (.func 137) #[] #[])),(.i 8,.val (.func (.func 138) #[] #[])),(.i 9,.val (.func (.func 139) #[] #[])),(.i 10,.val (.func (.func 141) #[] #[])),(.i 11,.val (.func (.func 142) #[] #[])),(.i 12,.val (.func (.func 144) #[] #[])),(.i 13,.val (.func (.func 146) #[] #[])),(.i 14,.val (.func (.func 148) #[] #[])),(.i 15,.val (.func (.func 150) #[] #[]))]) (fd:=some (9,.val (.func (.func 141) #[] #[]))) (by rw [hk];rfl)<|.r 5<|.r 2<|.run 3 [b1=b1,b2=b2] rt2<|
 .call (Zfp f c okf okc hp)<|
 .r 3<|.new fun b5=>.new fun b6=>.run 2 [b5=b5,b6=b6] rt2<|
 .run 3 [b6=b6] rt1<|
 .br 30 (((Qa9 f c true 8).2.e) != 0) (fun q1=>have p1:=bneT q1;.pick [0,1]<|.run 2 [b1=b1] rt1<|
 .fork<|.alt (.run 1 [b6=b6] rt1<|
 .pick [3,4,5]<|.run 3 [b3=b3,b4=b4] rt2<|
 .fin (x:=.tup [.agg (fsyA f),.agg [aI ((Qa9 f c true 8).2.e),aI 0,aI 0,aI 0,aS ([]),aN]]) (r:=.tup [.agg (fsyA (doF f c).1),.agg (repA (doF f c).2)]) [b3=b3,b4=b4] rt2 (by
  rw [Qco (Qf3 hk) (bneT q1)]
  exact Sub.tups ⟨sR,(Qaw _ _ _ _ _),trivial⟩))
 <| .run 1 [b3=b3] rt1<|
 .pick [2,3,5]<|.run 3 [b6=b6,b4=b4] rt2<|
 .fin (x:=.tup [.agg (fsyA f),.agg [aI ((Qa9 f c true 8).2.e),aI 0,aI 0,aI 0,aS ([]),aN]]) (r:=.tup [.agg (fsyA (doF f c).1),.agg (repA (doF f c).2)]) [b3=b3,b4=b4] rt2 (by
  rw [Qco (Qf3 hk) (bneT q1)]
  exact Sub.tups ⟨sR,(Qaw _ _ _ _ _),trivial⟩))
 <| fun q1=>have p1:=bneF q1;.pick [0]<|.run 1 [b5=b5] rt1<|
 .fork<|.alt (.run 1 [b6=b6] rt1<|
 .pick [2,3]<|.run 2 [b3=b3,b4=b4] rt2<|
 .fin (x:=.tup [.agg [.sl 5 false ((Qa9 f c true 8).1.l.map nodA),aI ((Qa9 f c true 8).1.next)],.agg [aI ((Qa9 f c true 8).2.e),aI ((Qa9 f c true 8).2.a),aI ((Qa9 f c true 8).2.b),aI ((Qa9 f c true 8).2.n),aS ((Qa9 f c true 8).2.text),.sl 1 false ((Qa9 f c true 8).2.names.map txA)]]) (r:=.tup [.agg (fsyA (doF f c).1),.agg (repA (doF f c).2)]) [b3=b3,b4=b4] rt2 (by
  rw [Qbq (Qf3 hk) (bneF q1)]
  exact sR))
 <| .run 1 [b3=b3] rt1<|
 .pick [1,3]<|.run 2 [b6=b6,b4=b4] rt2<|
 .fin (x:=.tup [.agg [.sl 5 false ((Qa9 f c true 8).1.l.map nodA),aI ((Qa9 f c true 8).1.next)],.agg [aI ((Qa9 f c true 8).2.e),aI ((Qa9 f c true 8).2.a),aI ((Qa9 f c true 8).2.b),aI ((Qa9 f c true 8).2.n),aS ((Qa9 f c true 8).2.text),.sl 1 false ((Qa9 f c true 8).2.names.map txA)]]) (r:=.tup [.agg (fsyA (doF f c).1),.agg (repA (doF f c).2)]) [b3=b3,b4=b4] rt2 (by
  rw [Qbq (Qf3 hk) (bneF q1)]
  exact sR)) Tryz.func48 rfl (by kernel_rfl) (by kernel_rfl)
theorem Zbt (f:Fsy) (c:Cal) (okf:OkF f) (okc:OkCal c) (hp:Qal f) (hx:f.next<9223372036854775807) (hk:c.kind=11):Qaj Tryz.prog 48 [.agg (fsyA f),.agg (calA c)] (.tup [.agg (fsyA (doF f c).1),.agg (repA (doF f c).2)]):=by
 exact Qac (F:=Tryz.f48) 400 (
 .new fun b1=>.new fun b2=>.new fun b3=>.new fun b4=>.ord [1,2,0,3,4,5,6,7,8]<|.run 2 [b2=b2] rt1<|
 .call (Qbv)<|
 .look (kk:=.i c.kind) (es:=[(.i 1,.val (.func (.func 130) #[] #[])),(.i 2,.val (.func (.func 131) #[] #[])),(.i 3,.val (.func (.func 132) #[] #[])),(.i 4,.val (.func (.func 133) #[] #[])),(.i 5,.val (.func (.func 134) #[] #[])),(.i 6,.val (.func (.func 135) #[] #[])),(.i 7,.val (.func (.func 137) #[] #[])),(.i 8,.val (.func (.func 138) #[] #[])),(.i 9,.val (.func (.func 139) #[] #[])),(.i 10,.val (.func (.func 141) #[] #[])),(.i 11,.val (.func (.func 142) #[] #[])),(.i 12,.val (.func (.func 144) #[] #[])),(.i 13,.val (.func (.func 146) #[] #[])),(.i 14,.val (.func (.func 148) #[] #[])),(.i 15,.val (.func (.func 150) #[] #[]))]) (fd:=some (10,.val (.func (.func 142) #[] #[]))) (by rw [hk];rfl)<|.r 5<|.r 2<|.run 3 [b1=b1,b2=b2] rt2<|
 .call (Zfo f c okf okc hp)<|
 .r 3<|.new fun b5=>.new fun b6=>.run 2 [b5=b5,b6=b6] rt2<|
 .run 3 [b6=b6] rt1<|
 .br 30 (((Qd3 f c).2.e) != 0) (fun q1=>have p1:=bneT q1;.pick [0,1]<|.run 2 [b1=b1] rt1<|
 .fork<|.alt (.run 1 [b6=b6] rt1<|
 .pick [3,4,5]<|.run 3 [b3=b3,b4=b4] rt2<|
 .fin (x:=.tup [.agg (fsyA f),.agg [aI ((Qd3 f c).2.e),aI 0,aI 0,aI 0,aS ([]),aN]]) (r:=.tup [.agg (fsyA (doF f c).1),.agg (repA (doF f c).2)]) [b3=b3,b4=b4] rt2 (by
  rw [Qco (Qhv hk) (bneT q1)]
  exact Sub.tups ⟨sR,(Qaw _ _ _ _ _),trivial⟩))
 <| .run 1 [b3=b3] rt1<|
 .pick [2,3,5]<|.run 3 [b6=b6,b4=b4] rt2<|
 .fin (x:=.tup [.agg (fsyA f),.agg [aI ((Qd3 f c).2.e),aI 0,aI 0,aI 0,aS ([]),aN]]) (r:=.tup [.agg (fsyA (doF f c).1),.agg (repA (doF f c).2)]) [b3=b3,b4=b4] rt2 (by
  rw [Qco (Qhv hk) (bneT q1)]
  exact Sub.tups ⟨sR,(Qaw _ _ _ _ _),trivial⟩))
 <| fun q1=>have p1:=bneF q1;.pick [0]<|.run 1 [b5=b5] rt1<|
 .fork<|.alt (.run 1 [b6=b6] rt1<|
 .pick [2,3]<|.run 2 [b3=b3,b4=b4] rt2<|
 .fin (x:=.tup [.agg [.sl 5 false ((Qd3 f c).1.l.map nodA),aI ((Qd3 f c).1.next)],.agg [aI ((Qd3 f c).2.e),aI ((Qd3 f c).2.a),aI ((Qd3 f c).2.b),aI ((Qd3 f c).2.n),aS ((Qd3 f c).2.text),.sl 1 false ((Qd3 f c).2.names.map txA)]]) (r:=.tup [.agg (fsyA (doF f c).1),.agg (repA (doF f c).2)]) [b3=b3,b4=b4] rt2 (by
  rw [Qbq (Qhv hk) (bneF q1)]
  exact sR))
 <| .run 1 [b3=b3] rt1<|
 .pick [1,3]<|.run 2 [b6=b6,b4=b4] rt2<|
 .fin (x:=.tup [.agg [.sl 5 false ((Qd3 f c).1.l.map nodA),aI ((Qd3 f c).1.next)],.agg [aI ((Qd3 f c).2.e),aI ((Qd3 f c).2.a),aI ((Qd3 f c).2.b),aI ((Qd3 f c).2.n),aS ((Qd3 f c).2.text),.sl 1 false ((Qd3 f c).2.names.map txA)]]) (r:=.tup [.agg (fsyA (doF f c).1),.agg (repA (doF f c).2)]) [b3=b3,b4=b4] rt2 (by
  rw [Qbq (Qhv hk) (bneF q1)]
  exact sR)) Tryz.func48 rfl (by kernel_rfl) (by kernel_rfl)
theorem Zbs (f:Fsy) (c:Cal) (okf:OkF f) (okc:OkCal c) (hp:Qal f) (hx:f.next<9223372036854775807) (hk:c.kind=12):Qaj Tryz.prog 48 [.agg (fsyA f),.agg (calA c)] (.tup [.agg (fsyA (doF f c).1),.agg (repA (doF f c).2)]):=by
 exact Qac (F:=Tryz.f48) 400 (
 .new fun b1=>.new fun b2=>.new fun b3=>.new fun b4=>.ord [1,2,0,3,4,5,6,7,8]<|.run 2 [b2=b2] rt1<|
 .call (Qbv)<|
 .look (kk:=.i c.kind) (es:=[(.i 1,.val (.func (.func 130) #[] #[])),(.i 2,.val (.func (.func 131) #[] #[])),(.i 3,.val (.func (.func 132) #[] #[])),(.i 4,.val (.func (.func 133) #[] #[])),(.i 5,.val (.func (.func 134) #[] #[])),(.i 6,.val (.func (.func 135) #[] #[])),(.i 7,.val (.func (.func 137) #[] #[])),(.i 8,.val (.func (.func 138) #[] #[])),(.i 9,.val (.func (.func 139) #[] #[])),(.i 10,.val (.func (.func 141) #[] #[])),(.i 11,.val (.func (.func 142) #[] #[])),(.i 12,.val (.func (.func 144) #[] #[])),(.i 13,.val (.func (.func 146) #[] #[])),(.i 14,.val (.func (.func 148) #[] #[])),(.i 15,.val (.func (.func 150) #[] #[]))]) (fd:=some (11,.val (.func (.func 144) #[] #[]))) (by rw [hk];rfl)<|.r 5<|.r 2<|.run 3 [b1=b1,b2=b2] rt2<|
 .call (Zfn f c okf okc hp)<|
 .r 3<|.new fun b5=>.new fun b6=>.run 2 [b5=b5,b6=b6] rt2<|
 .run 3 [b6=b6] rt1<|
 .br 30 (((renO f c).2.e) != 0) (fun q1=>have p1:=bneT q1;.pick [0,1]<|.run 2 [b1=b1] rt1<|
 .fork<|.alt (.run 1 [b6=b6] rt1<|
 .pick [3,4,5]<|.run 3 [b3=b3,b4=b4] rt2<|
 .fin (x:=.tup [.agg (fsyA f),.agg [aI ((renO f c).2.e),aI 0,aI 0,aI 0,aS ([]),aN]]) (r:=.tup [.agg (fsyA (doF f c).1),.agg (repA (doF f c).2)]) [b3=b3,b4=b4] rt2 (by
  rw [Qco (Qhu hk) (bneT q1)]
  exact Sub.tups ⟨sR,(Qaw _ _ _ _ _),trivial⟩))
 <| .run 1 [b3=b3] rt1<|
 .pick [2,3,5]<|.run 3 [b6=b6,b4=b4] rt2<|
 .fin (x:=.tup [.agg (fsyA f),.agg [aI ((renO f c).2.e),aI 0,aI 0,aI 0,aS ([]),aN]]) (r:=.tup [.agg (fsyA (doF f c).1),.agg (repA (doF f c).2)]) [b3=b3,b4=b4] rt2 (by
  rw [Qco (Qhu hk) (bneT q1)]
  exact Sub.tups ⟨sR,(Qaw _ _ _ _ _),trivial⟩))
 <| fun q1=>have p1:=bneF q1;.pick [0]<|.run 1 [b5=b5] rt1<|
 .fork<|.alt (.run 1 [b6=b6] rt1<|
 .pick [2,3]<|.run 2 [b3=b3,b4=b4] rt2<|
 .fin (x:=.tup [.agg [.sl 5 false ((renO f c).1.l.map nodA),aI ((renO f c).1.next)],.agg [aI ((renO f c).2.e),aI ((renO f c).2.a),aI ((renO f c).2.b),aI ((renO f c).2.n),aS ((renO f c).2.text),.sl 1 false ((renO f c).2.names.map txA)]]) (r:=.tup [.agg (fsyA (doF f c).1),.agg (repA (doF f c).2)]) [b3=b3,b4=b4] rt2 (by
  rw [Qbq (Qhu hk) (bneF q1)]
  exact sR))
 <| .run 1 [b3=b3] rt1<|
 .pick [1,3]<|.run 2 [b6=b6,b4=b4] rt2<|
 .fin (x:=.tup [.agg [.sl 5 false ((renO f c).1.l.map nodA),aI ((renO f c).1.next)],.agg [aI ((renO f c).2.e),aI ((renO f c).2.a),aI ((renO f c).2.b),aI ((renO f c).2.n),aS ((renO f c).2.text),.sl 1 false ((renO f c).2.names.map txA)]]) (r:=.tup [.agg (fsyA (doF f c).1),.agg (repA (doF f c).2)]) [b3=b3,b4=b4] rt2 (by
  rw [Qbq (Qhu hk) (bneF q1)]
  exact sR)) Tryz.func48 rfl (by kernel_rfl) (by kernel_rfl)
theorem Zbr (f:Fsy) (c:Cal) (okf:OkF f) (okc:OkCal c) (hp:Qal f) (hx:f.next<9223372036854775807) (hk:c.kind=13):Qaj Tryz.prog 48 [.agg (fsyA f),.agg (calA c)] (.tup [.agg (fsyA (doF f c).1),.agg (repA (doF f c).2)]):=by
 exact Qac (F:=Tryz.f48) 400 (
 .new fun b1=>.new fun b2=>.new fun b3=>.new fun b4=>.ord [1,2,0,3,4,5,6,7,8]<|.run 2 [b2=b2] rt1<|
 .call (Qbv)<|
 .look (kk:=.i c.kind) (es:=[(.i 1,.val (.func (.func 130) #[] #[])),(.i 2,.val (.func (.func 131) #[] #[])),(.i 3,.val (.func (.func 132) #[] #[])),(.i 4,.val (.func (.func 133) #[] #[])),(.i 5,.val (.func (.func 134) #[] #[])),(.i 6,.val (.func (.func 135) #[] #[])),(.i 7,.val (.func (.func 137) #[] #[])),(.i 8,.val (.func (.func 138) #[] #[])),(.i 9,.val (.func (.func 139) #[] #[])),(.i 10,.val (.func (.func 141) #[] #[])),(.i 11,.val (.func (.func 142) #[] #[])),(.i 12,.val (.func (.func 144) #[] #[])),(.i 13,.val (.func (.func 146) #[] #[])),(.i 14,.val (.func (.func 148) #[] #[])),(.i 15,.val (.func (.func 150) #[] #[]))]) (fd:=some (12,.val (.func (.func 146) #[] #[]))) (by rw [hk];rfl)<|.r 5<|.r 2<|.run 3 [b1=b1,b2=b2] rt2<|
 .call (Zfm f c okf okc hp)<|
 .r 3<|.new fun b5=>.new fun b6=>.run 2 [b5=b5,b6=b6] rt2<|
 .run 3 [b6=b6] rt1<|
 .br 30 (((Qdy f c).2.e) != 0) (fun q1=>have p1:=bneT q1;.pick [0,1]<|.run 2 [b1=b1] rt1<|
 .fork<|.alt (.run 1 [b6=b6] rt1<|
 .pick [3,4,5]<|.run 3 [b3=b3,b4=b4] rt2<|
 .fin (x:=.tup [.agg (fsyA f),.agg [aI ((Qdy f c).2.e),aI 0,aI 0,aI 0,aS ([]),aN]]) (r:=.tup [.agg (fsyA (doF f c).1),.agg (repA (doF f c).2)]) [b3=b3,b4=b4] rt2 (by
  rw [Qco (Qgo hk) (bneT q1)]
  exact Sub.tups ⟨sR,(Qaw _ _ _ _ _),trivial⟩))
 <| .run 1 [b3=b3] rt1<|
 .pick [2,3,5]<|.run 3 [b6=b6,b4=b4] rt2<|
 .fin (x:=.tup [.agg (fsyA f),.agg [aI ((Qdy f c).2.e),aI 0,aI 0,aI 0,aS ([]),aN]]) (r:=.tup [.agg (fsyA (doF f c).1),.agg (repA (doF f c).2)]) [b3=b3,b4=b4] rt2 (by
  rw [Qco (Qgo hk) (bneT q1)]
  exact Sub.tups ⟨sR,(Qaw _ _ _ _ _),trivial⟩))
 <| fun q1=>have p1:=bneF q1;.pick [0]<|.run 1 [b5=b5] rt1<|
 .fork<|.alt (.run 1 [b6=b6] rt1<|
 .pick [2,3]<|.run 2 [b3=b3,b4=b4] rt2<|
 .fin (x:=.tup [.agg [.sl 5 false ((Qdy f c).1.l.map nodA),aI ((Qdy f c).1.next)],.agg [aI ((Qdy f c).2.e),aI ((Qdy f c).2.a),aI ((Qdy f c).2.b),aI ((Qdy f c).2.n),aS ((Qdy f c).2.text),.sl 1 false ((Qdy f c).2.names.map txA)]]) (r:=.tup [.agg (fsyA (doF f c).1),.agg (repA (doF f c).2)]) [b3=b3,b4=b4] rt2 (by
  rw [Qbq (Qgo hk) (bneF q1)]
  exact sR))
 <| .run 1 [b3=b3] rt1<|
 .pick [1,3]<|.run 2 [b6=b6,b4=b4] rt2<|
 .fin (x:=.tup [.agg [.sl 5 false ((Qdy f c).1.l.map nodA),aI ((Qdy f c).1.next)],.agg [aI ((Qdy f c).2.e),aI ((Qdy f c).2.a),aI ((Qdy f c).2.b),aI ((Qdy f c).2.n),aS ((Qdy f c).2.text),.sl 1 false ((Qdy f c).2.names.map txA)]]) (r:=.tup [.agg (fsyA (doF f c).1),.agg (repA (doF f c).2)]) [b3=b3,b4=b4] rt2 (by
  rw [Qbq (Qgo hk) (bneF q1)]
  exact sR)) Tryz.func48 rfl (by kernel_rfl) (by kernel_rfl)
theorem Zbq (f:Fsy) (c:Cal) (okf:OkF f) (okc:OkCal c) (hp:Qal f) (hx:f.next<9223372036854775807) (hk:c.kind=14):Qaj Tryz.prog 48 [.agg (fsyA f),.agg (calA c)] (.tup [.agg (fsyA (doF f c).1),.agg (repA (doF f c).2)]):=by
 exact Qac (F:=Tryz.f48) 400 (
 .new fun b1=>.new fun b2=>.new fun b3=>.new fun b4=>.ord [1,2,0,3,4,5,6,7,8]<|.run 2 [b2=b2] rt1<|
 .call (Qbv)<|
 .look (kk:=.i c.kind) (es:=[(.i 1,.val (.func (.func 130) #[] #[])),(.i 2,.val (.func (.func 131) #[] #[])),(.i 3,.val (.func (.func 132) #[] #[])),(.i 4,.val (.func (.func 133) #[] #[])),(.i 5,.val (.func (.func 134) #[] #[])),(.i 6,.val (.func (.func 135) #[] #[])),(.i 7,.val (.func (.func 137) #[] #[])),(.i 8,.val (.func (.func 138) #[] #[])),(.i 9,.val (.func (.func 139) #[] #[])),(.i 10,.val (.func (.func 141) #[] #[])),(.i 11,.val (.func (.func 142) #[] #[])),(.i 12,.val (.func (.func 144) #[] #[])),(.i 13,.val (.func (.func 146) #[] #[])),(.i 14,.val (.func (.func 148) #[] #[])),(.i 15,.val (.func (.func 150) #[] #[]))]) (fd:=some (13,.val (.func (.func 148) #[] #[]))) (by rw [hk];rfl)<|.r 5<|.r 2<|.run 3 [b1=b1,b2=b2] rt2<|
 .call (Zfl f c okf okc hp)<|
 .r 3<|.new fun b5=>.new fun b6=>.run 2 [b5=b5,b6=b6] rt2<|
 .run 3 [b6=b6] rt1<|
 .br 30 (((Qd8 f c).2.e) != 0) (fun q1=>have p1:=bneT q1;.pick [0,1]<|.run 2 [b1=b1] rt1<|
 .fork<|.alt (.run 1 [b6=b6] rt1<|
 .pick [3,4,5]<|.run 3 [b3=b3,b4=b4] rt2<|
 .fin (x:=.tup [.agg (fsyA f),.agg [aI ((Qd8 f c).2.e),aI 0,aI 0,aI 0,aS ([]),aN]]) (r:=.tup [.agg (fsyA (doF f c).1),.agg (repA (doF f c).2)]) [b3=b3,b4=b4] rt2 (by
  rw [Qco (Qht hk) (bneT q1)]
  exact Sub.tups ⟨sR,(Qaw _ _ _ _ _),trivial⟩))
 <| .run 1 [b3=b3] rt1<|
 .pick [2,3,5]<|.run 3 [b6=b6,b4=b4] rt2<|
 .fin (x:=.tup [.agg (fsyA f),.agg [aI ((Qd8 f c).2.e),aI 0,aI 0,aI 0,aS ([]),aN]]) (r:=.tup [.agg (fsyA (doF f c).1),.agg (repA (doF f c).2)]) [b3=b3,b4=b4] rt2 (by
  rw [Qco (Qht hk) (bneT q1)]
  exact Sub.tups ⟨sR,(Qaw _ _ _ _ _),trivial⟩))
 <| fun q1=>have p1:=bneF q1;.pick [0]<|.run 1 [b5=b5] rt1<|
 .fork<|.alt (.run 1 [b6=b6] rt1<|
 .pick [2,3]<|.run 2 [b3=b3,b4=b4] rt2<|
 .fin (x:=.tup [.agg [.sl 5 false ((Qd8 f c).1.l.map nodA),aI ((Qd8 f c).1.next)],.agg [aI ((Qd8 f c).2.e),aI ((Qd8 f c).2.a),aI ((Qd8 f c).2.b),aI ((Qd8 f c).2.n),aS ((Qd8 f c).2.text),.sl 1 false ((Qd8 f c).2.names.map txA)]]) (r:=.tup [.agg (fsyA (doF f c).1),.agg (repA (doF f c).2)]) [b3=b3,b4=b4] rt2 (by
  rw [Qbq (Qht hk) (bneF q1)]
  exact sR))
 <| .run 1 [b3=b3] rt1<|
 .pick [1,3]<|.run 2 [b6=b6,b4=b4] rt2<|
 .fin (x:=.tup [.agg [.sl 5 false ((Qd8 f c).1.l.map nodA),aI ((Qd8 f c).1.next)],.agg [aI ((Qd8 f c).2.e),aI ((Qd8 f c).2.a),aI ((Qd8 f c).2.b),aI ((Qd8 f c).2.n),aS ((Qd8 f c).2.text),.sl 1 false ((Qd8 f c).2.names.map txA)]]) (r:=.tup [.agg (fsyA (doF f c).1),.agg (repA (doF f c).2)]) [b3=b3,b4=b4] rt2 (by
  rw [Qbq (Qht hk) (bneF q1)]
  exact sR)) Tryz.func48 rfl (by kernel_rfl) (by kernel_rfl)
theorem Zbp (f:Fsy) (c:Cal) (okf:OkF f) (okc:OkCal c) (hp:Qal f) (hx:f.next<9223372036854775807) (hk:c.kind=15):Qaj Tryz.prog 48 [.agg (fsyA f),.agg (calA c)] (.tup [.agg (fsyA (doF f c).1),.agg (repA (doF f c).2)]):=by
 exact Qac (F:=Tryz.f48) 400 (
 .new fun b1=>.new fun b2=>.new fun b3=>.new fun b4=>.ord [1,2,0,3,4,5,6,7,8]<|.run 2 [b2=b2] rt1<|
 .call (Qbv)<|
 .look (kk:=.i c.kind) (es:=[(.i 1,.val (.func (.func 130) #[] #[])),(.i 2,.val (.func (.func 131) #[] #[])),(.i 3,.val (.func (.func 132) #[] #[])),(.i 4,.val (.func (.func 133) #[] #[])),(.i 5,.val (.func (.func 134) #[] #[])),(.i 6,.val (.func (.func 135) #[] #[])),(.i 7,.val (.func (.func 137) #[] #[])),(.i 8,.val (.func (.func 138) #[] #[])),(.i 9,.val (.func (.func 139) #[] #[])),(.i 10,.val (.func (.func 141) #[] #[])),(.i 11,.val (.func (.func 142) #[] #[])),(.i 12,.val (.func (.func 144) #[] #[])),(.i 13,.val (.func (.func 146) #[] #[])),(.i 14,.val (.func (.func 148) #[] #[])),(.i 15,.val (.func (.func 150) #[] #[]))]) (fd:=some (14,.val (.func (.func 150) #[] #[]))) (by rw [hk];rfl)<|.r 5<|.r 2<|.run 3 [b1=b1,b2=b2] rt2<|
 .call (Zfk f c okf okc hp)<|
 .r 3<|.new fun b5=>.new fun b6=>.run 2 [b5=b5,b6=b6] rt2<|
 .run 3 [b6=b6] rt1<|
 .br 30 (((sfsO f).2.e) != 0) (fun q1=>have p1:=bneT q1;.pick [0,1]<|.run 2 [b1=b1] rt1<|
 .fork<|.alt (.run 1 [b6=b6] rt1<|
 .pick [3,4,5]<|.run 3 [b3=b3,b4=b4] rt2<|
 .fin (x:=.tup [.agg (fsyA f),.agg [aI ((sfsO f).2.e),aI 0,aI 0,aI 0,aS ([]),aN]]) (r:=.tup [.agg (fsyA (doF f c).1),.agg (repA (doF f c).2)]) [b3=b3,b4=b4] rt2 (by
  rw [Qco (Qhs hk) (bneT q1)]
  exact Sub.tups ⟨sR,(Qaw _ _ _ _ _),trivial⟩))
 <| .run 1 [b3=b3] rt1<|
 .pick [2,3,5]<|.run 3 [b6=b6,b4=b4] rt2<|
 .fin (x:=.tup [.agg (fsyA f),.agg [aI ((sfsO f).2.e),aI 0,aI 0,aI 0,aS ([]),aN]]) (r:=.tup [.agg (fsyA (doF f c).1),.agg (repA (doF f c).2)]) [b3=b3,b4=b4] rt2 (by
  rw [Qco (Qhs hk) (bneT q1)]
  exact Sub.tups ⟨sR,(Qaw _ _ _ _ _),trivial⟩))
 <| fun q1=>have p1:=bneF q1;.pick [0]<|.run 1 [b5=b5] rt1<|
 .fork<|.alt (.run 1 [b6=b6] rt1<|
 .pick [2,3]<|.run 2 [b3=b3,b4=b4] rt2<|
 .fin (x:=.tup [.agg [.sl 5 false ((sfsO f).1.l.map nodA),aI ((sfsO f).1.next)],.agg [aI ((sfsO f).2.e),aI ((sfsO f).2.a),aI ((sfsO f).2.b),aI ((sfsO f).2.n),aS ((sfsO f).2.text),.sl 1 false ((sfsO f).2.names.map txA)]]) (r:=.tup [.agg (fsyA (doF f c).1),.agg (repA (doF f c).2)]) [b3=b3,b4=b4] rt2 (by
  rw [Qbq (Qhs hk) (bneF q1)]
  exact sR))
 <| .run 1 [b3=b3] rt1<|
 .pick [1,3]<|.run 2 [b6=b6,b4=b4] rt2<|
 .fin (x:=.tup [.agg [.sl 5 false ((sfsO f).1.l.map nodA),aI ((sfsO f).1.next)],.agg [aI ((sfsO f).2.e),aI ((sfsO f).2.a),aI ((sfsO f).2.b),aI ((sfsO f).2.n),aS ((sfsO f).2.text),.sl 1 false ((sfsO f).2.names.map txA)]]) (r:=.tup [.agg (fsyA (doF f c).1),.agg (repA (doF f c).2)]) [b3=b3,b4=b4] rt2 (by
  rw [Qbq (Qhs hk) (bneF q1)]
  exact sR)) Tryz.func48 rfl (by kernel_rfl) (by kernel_rfl)
theorem Zbo (f:Fsy) (c:Cal) (okf:OkF f) (okc:OkCal c) (hp:Qal f) (hx:f.next<9223372036854775807) (hk:c.kind<1∨c.kind>15):Qaj Tryz.prog 48 [.agg (fsyA f),.agg (calA c)] (.tup [.agg (fsyA (doF f c).1),.agg (repA (doF f c).2)]):=by
 exact Qac (F:=Tryz.f48) 400 (
 .new fun b1=>.new fun b2=>.new fun b3=>.new fun b4=>.ord [1,2,0,3,4,5,6,7,8]<|.run 2 [b2=b2] rt1<|
 .call (Qbv)<|
 .look (kk:=.i c.kind) (es:=[(.i 1,.val (.func (.func 130) #[] #[])),(.i 2,.val (.func (.func 131) #[] #[])),(.i 3,.val (.func (.func 132) #[] #[])),(.i 4,.val (.func (.func 133) #[] #[])),(.i 5,.val (.func (.func 134) #[] #[])),(.i 6,.val (.func (.func 135) #[] #[])),(.i 7,.val (.func (.func 137) #[] #[])),(.i 8,.val (.func (.func 138) #[] #[])),(.i 9,.val (.func (.func 139) #[] #[])),(.i 10,.val (.func (.func 141) #[] #[])),(.i 11,.val (.func (.func 142) #[] #[])),(.i 12,.val (.func (.func 144) #[] #[])),(.i 13,.val (.func (.func 146) #[] #[])),(.i 14,.val (.func (.func 148) #[] #[])),(.i 15,.val (.func (.func 150) #[] #[]))]) (fd:=none) (by simp only [Qcb];repeat rw [if_neg (fun h=>by injection h with h;omega)])<|.r 5<|.r 2<|.run 4 [b1=b1,b3=b3,b4=b4] rt3<|
 .fin (x:=.tup [.agg (fsyA f),.agg [aI 1,aI 0,aI 0,aI 0,aS ([]),aN]]) (r:=.tup [.agg (fsyA (doF f c).1),.agg (repA (doF f c).2)]) [b3=b3,b4=b4] rt2 (by
  rw [Qco (Qpf hk) (by show ¬ (1:Int)=0;omega)]
  exact Sub.tups ⟨sR,(Qaw _ _ _ _ _),trivial⟩)) Tryz.func48 rfl (by kernel_rfl) (by kernel_rfl)
theorem Zix (f:Fsy) (c:Cal) (okf:OkF f) (okc:OkCal c) (hp:Qal f) (hx:f.next<9223372036854775807):Qaj Tryz.prog 48 [.agg (fsyA f),.agg (calA c)] (.tup [.agg (fsyA (doF f c).1),.agg (repA (doF f c).2)]):=by
 rcases (show c.kind=1∨c.kind=2∨c.kind=3∨c.kind=4∨c.kind=5∨c.kind=6∨c.kind=7∨c.kind=8∨c.kind=9∨c.kind=10∨c.kind=11∨c.kind=12∨c.kind=13∨c.kind=14∨c.kind=15∨(c.kind<1∨c.kind>15) from by omega) with h | h | h | h | h | h | h | h | h | h | h | h | h | h | h | h
 ·exact Zfj f c okf okc hp hx h
 ·exact Zfi f c okf okc hp hx h
 ·exact Zfh f c okf okc hp hx h
 ·exact Zfg f c okf okc hp hx h
 ·exact Zff f c okf okc hp hx h
 ·exact Zfe f c okf okc hp hx h
 ·exact Zfd f c okf okc hp hx h
 ·exact Zfc f c okf okc hp hx h
 ·exact Zfb f c okf okc hp hx h
 ·exact Zbu f c okf okc hp hx h
 ·exact Zbt f c okf okc hp hx h
 ·exact Zbs f c okf okc hp hx h
 ·exact Zbr f c okf okc hp hx h
 ·exact Zbq f c okf okc hp hx h
 ·exact Zbp f c okf okc hp hx h
 ·exact Zbo f c okf okc hp hx h
end Go.Proofs.YtahlldgocpabjaaGreat
