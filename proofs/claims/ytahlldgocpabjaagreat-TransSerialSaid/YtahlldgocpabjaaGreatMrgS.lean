import Derived.Test.YtahlldgocpabjaaGreatAl
import Derived.Test.YtahlldgocpabjaaGreatMrgR
import Derived.Test.YtahlldgocpabjaaGreatMrgQ
import Derived.Test.YtahlldgocpabjaaGreatMrgP
set_option maxRecDepth 100000
set_option maxHeartbeats 8000000
set_option linter.unusedVariables false
set_option linter.unusedSimpArgs false
namespace Go.Proofs.YtahlldgocpabjaaGreat
open Go Go.RowKit Copyhold Go.Proofs.Tryz
noncomputable def Qb5 (f:Fsy) (c:Cal):Fsy × Rep:=if c.kind=1 then Zb8 f c else if c.kind=2 then Qj9 f c else if c.kind=3 then Qkg f c else if c.kind=4 then Qfs f c else if c.kind=5 then cutO f c else if c.kind=6 then addO f c ⟨0,1,0,[],[]⟩ else if c.kind=7 then addO f c ⟨0,2,0,[],[]⟩ else if c.kind=8 then symO f c else if c.kind=9 then Qc8 f c false 9 else if c.kind=10 then Qc8 f c true 8 else if c.kind=11 then Qxi f c else if c.kind=12 then renO f c else if c.kind=13 then Qwq f c else if c.kind=14 then Zbw f c else if c.kind=15 then sfsO f else (f,errR 1)
noncomputable def doF (f:Fsy) (c:Cal):Fsy × Rep:=if (Qb5 f c).2.e=0 then Qb5 f c else (f,errR (Qb5 f c).2.e)
theorem Qz9 {f:Fsy} {c:Cal} (h:c.kind=1):Qb5 f c=Zb8 f c:=by unfold Qb5;rw [W1y h]
theorem Qu8 {f:Fsy} {c:Cal} (h:c.kind=2):Qb5 f c=Qj9 f c:=by unfold Qb5;rw [W1x (by omega),W1y h]
theorem Qu7 {f:Fsy} {c:Cal} (h:c.kind=3):Qb5 f c=Qkg f c:=by unfold Qb5;rw [W1x (by omega),W1x (by omega),W1y h]
theorem Qu6 {f:Fsy} {c:Cal} (h:c.kind=4):Qb5 f c=Qfs f c:=by unfold Qb5;rw [W1x (by omega),W1x (by omega),W1x (by omega),W1y h]
theorem Qu5 {f:Fsy} {c:Cal} (h:c.kind=5):Qb5 f c=cutO f c:=by unfold Qb5;rw [W1x (by omega),W1x (by omega),W1x (by omega),W1x (by omega),W1y h]
theorem Qqp {f:Fsy} {c:Cal} (h:c.kind=6):Qb5 f c=addO f c ⟨0,1,0,[],[]⟩:=by unfold Qb5;rw [W1x (by omega),W1x (by omega),W1x (by omega),W1x (by omega),W1x (by omega),W1y h]
theorem Qu4 {f:Fsy} {c:Cal} (h:c.kind=7):Qb5 f c=addO f c ⟨0,2,0,[],[]⟩:=by unfold Qb5;rw [W1x (by omega),W1x (by omega),W1x (by omega),W1x (by omega),W1x (by omega),W1x (by omega),W1y h]
theorem Qu3 {f:Fsy} {c:Cal} (h:c.kind=8):Qb5 f c=symO f c:=by unfold Qb5;rw [W1x (by omega),W1x (by omega),W1x (by omega),W1x (by omega),W1x (by omega),W1x (by omega),W1x (by omega),W1y h]
theorem Qmk {f:Fsy} {c:Cal} (h:c.kind=9):Qb5 f c=Qc8 f c false 9:=by unfold Qb5;rw [W1x (by omega),W1x (by omega),W1x (by omega),W1x (by omega),W1x (by omega),W1x (by omega),W1x (by omega),W1x (by omega),W1y h]
theorem Qii {f:Fsy} {c:Cal} (h:c.kind=10):Qb5 f c=Qc8 f c true 8:=by unfold Qb5;rw [W1x (by omega),W1x (by omega),W1x (by omega),W1x (by omega),W1x (by omega),W1x (by omega),W1x (by omega),W1x (by omega),W1x (by omega),W1y h]
theorem Qsm {f:Fsy} {c:Cal} (h:c.kind=11):Qb5 f c=Qxi f c:=by unfold Qb5;rw [W1x (by omega),W1x (by omega),W1x (by omega),W1x (by omega),W1x (by omega),W1x (by omega),W1x (by omega),W1x (by omega),W1x (by omega),W1x (by omega),W1y h]
theorem Qsl {f:Fsy} {c:Cal} (h:c.kind=12):Qb5 f c=renO f c:=by unfold Qb5;rw [W1x (by omega),W1x (by omega),W1x (by omega),W1x (by omega),W1x (by omega),W1x (by omega),W1x (by omega),W1x (by omega),W1x (by omega),W1x (by omega),W1x (by omega),W1y h]
theorem Qo0 {f:Fsy} {c:Cal} (h:c.kind=13):Qb5 f c=Qwq f c:=by unfold Qb5;rw [W1x (by omega),W1x (by omega),W1x (by omega),W1x (by omega),W1x (by omega),W1x (by omega),W1x (by omega),W1x (by omega),W1x (by omega),W1x (by omega),W1x (by omega),W1x (by omega),W1y h]
theorem Qsk {f:Fsy} {c:Cal} (h:c.kind=14):Qb5 f c=Zbw f c:=by unfold Qb5;rw [W1x (by omega),W1x (by omega),W1x (by omega),W1x (by omega),W1x (by omega),W1x (by omega),W1x (by omega),W1x (by omega),W1x (by omega),W1x (by omega),W1x (by omega),W1x (by omega),W1x (by omega),W1y h]
theorem Qsj {f:Fsy} {c:Cal} (h:c.kind=15):Qb5 f c=sfsO f:=by unfold Qb5;rw [W1x (by omega),W1x (by omega),W1x (by omega),W1x (by omega),W1x (by omega),W1x (by omega),W1x (by omega),W1x (by omega),W1x (by omega),W1x (by omega),W1x (by omega),W1x (by omega),W1x (by omega),W1x (by omega),W1y h]
theorem Qsi {f:Fsy} {c:Cal} (h:c.kind<1∨c.kind>15):Qb5 f c=(f,errR 1):=by unfold Qb5;rw [W1x (by omega),W1x (by omega),W1x (by omega),W1x (by omega),W1x (by omega),W1x (by omega),W1x (by omega),W1x (by omega),W1x (by omega),W1x (by omega),W1x (by omega),W1x (by omega),W1x (by omega),W1x (by omega),W1x (by omega)]
theorem Qef {f:Fsy} {c:Cal} {x:Fsy × Rep} (h:Qb5 f c=x) (he:x.2.e=0):doF f c=x:=by unfold doF;rw [h,W1y he]
theorem Qk4 {f:Fsy} {c:Cal} {x:Fsy × Rep} (h:Qb5 f c=x) (he:¬ x.2.e=0):doF f c=(f,errR x.2.e):=by unfold doF;rw [h,W1x he]
def Zcn:List (MK × AV):=[(.i 1,.val (.func (.func 130) #[] #[])),(.i 2,.val (.func (.func 131) #[] #[])),(.i 3,.val (.func (.func 132) #[] #[])),(.i 4,.val (.func (.func 133) #[] #[])),(.i 5,.val (.func (.func 134) #[] #[])),(.i 6,.val (.func (.func 135) #[] #[])),(.i 7,.val (.func (.func 137) #[] #[])),(.i 8,.val (.func (.func 138) #[] #[])),(.i 9,.val (.func (.func 139) #[] #[])),(.i 10,.val (.func (.func 141) #[] #[])),(.i 11,.val (.func (.func 142) #[] #[])),(.i 12,.val (.func (.func 144) #[] #[])),(.i 13,.val (.func (.func 146) #[] #[])),(.i 14,.val (.func (.func 148) #[] #[])),(.i 15,.val (.func (.func 150) #[] #[]))]
theorem Qqo :Qai prog 88 [] (.mp Zcn):=by
 exact Qae func88 (
 .r 1<|.mkMap fun r1=>.ins (kk:=.i 1) (es:=[]) r1 (by rfl)<|.ins (kk:=.i 2) (es:=[(.i 1,.val (.func (.func 130) #[] #[]))]) r1 (by rfl)<|.ins (kk:=.i 3) (es:=[(.i 1,.val (.func (.func 130) #[] #[])),(.i 2,.val (.func (.func 131) #[] #[]))]) r1 (by rfl)<|.ins (kk:=.i 4) (es:=[(.i 1,.val (.func (.func 130) #[] #[])),(.i 2,.val (.func (.func 131) #[] #[])),(.i 3,.val (.func (.func 132) #[] #[]))]) r1 (by rfl)<|.ins (kk:=.i 5) (es:=[(.i 1,.val (.func (.func 130) #[] #[])),(.i 2,.val (.func (.func 131) #[] #[])),(.i 3,.val (.func (.func 132) #[] #[])),(.i 4,.val (.func (.func 133) #[] #[]))]) r1 (by rfl)<|.ins (kk:=.i 6) (es:=[(.i 1,.val (.func (.func 130) #[] #[])),(.i 2,.val (.func (.func 131) #[] #[])),(.i 3,.val (.func (.func 132) #[] #[])),(.i 4,.val (.func (.func 133) #[] #[])),(.i 5,.val (.func (.func 134) #[] #[]))]) r1 (by rfl)<|.ins (kk:=.i 7) (es:=[(.i 1,.val (.func (.func 130) #[] #[])),(.i 2,.val (.func (.func 131) #[] #[])),(.i 3,.val (.func (.func 132) #[] #[])),(.i 4,.val (.func (.func 133) #[] #[])),(.i 5,.val (.func (.func 134) #[] #[])),(.i 6,.val (.func (.func 135) #[] #[]))]) r1 (by rfl)<|.ins (kk:=.i 8) (es:=[(.i 1,.val (.func (.func 130) #[] #[])),(.i 2,.val (.func (.func 131) #[] #[])),(.i 3,.val (.func (.func 132) #[] #[])),(.i 4,.val (.func (.func 133) #[] #[])),(.i 5,.val (.func (.func 134) #[] #[])),(.i 6,.val (.func (.func 135) #[] #[])),(.i 7,.val (.func (.func 137) #[] #[]))]) r1 (by rfl)<|.ins (kk:=.i 9) (es:=[(.i 1,.val (.func (.func 130) #[] #[])),(.i 2,.val (.func (.func 131) #[] #[])),(.i 3,.val (.func (.func 132) #[] #[])),(.i 4,.val (.func (.func 133) #[] #[])),(.i 5,.val (.func (.func 134) #[] #[])),(.i 6,.val (.func (.func 135) #[] #[])),(.i 7,.val (.func (.func 137) #[] #[])),(.i 8,.val (.func (.func 138) #[] #[]))]) r1 (by rfl)<|.ins (kk:=.i 10) (es:=[(.i 1,.val (.func (.func 130) #[] #[])),(.i 2,.val (.func (.func 131) #[] #[])),(.i 3,.val (.func (.func 132) #[] #[])),(.i 4,.val (.func (.func 133) #[] #[])),(.i 5,.val (.func (.func 134) #[] #[])),(.i 6,.val (.func (.func 135) #[] #[])),(.i 7,.val (.func (.func 137) #[] #[])),(.i 8,.val (.func (.func 138) #[] #[])),(.i 9,.val (.func (.func 139) #[] #[]))]) r1 (by rfl)<|.ins (kk:=.i 11) (es:=[(.i 1,.val (.func (.func 130) #[] #[])),(.i 2,.val (.func (.func 131) #[] #[])),(.i 3,.val (.func (.func 132) #[] #[])),(.i 4,.val (.func (.func 133) #[] #[])),(.i 5,.val (.func (.func 134) #[] #[])),(.i 6,.val (.func (.func 135) #[] #[])),(.i 7,.val (.func (.func 137) #[] #[])),(.i 8,.val (.func (.func 138) #[] #[])),(.i 9,.val (.func (.func 139) #[] #[])),(.i 10,.val (.func (.func 141) #[] #[]))]) r1 (by rfl)<|.ins (kk:=.i 12) (es:=[(.i 1,.val (.func (.func 130) #[] #[])),(.i 2,.val (.func (.func 131) #[] #[])),(.i 3,.val (.func (.func 132) #[] #[])),(.i 4,.val (.func (.func 133) #[] #[])),(.i 5,.val (.func (.func 134) #[] #[])),(.i 6,.val (.func (.func 135) #[] #[])),(.i 7,.val (.func (.func 137) #[] #[])),(.i 8,.val (.func (.func 138) #[] #[])),(.i 9,.val (.func (.func 139) #[] #[])),(.i 10,.val (.func (.func 141) #[] #[])),(.i 11,.val (.func (.func 142) #[] #[]))]) r1 (by rfl)<|.ins (kk:=.i 13) (es:=[(.i 1,.val (.func (.func 130) #[] #[])),(.i 2,.val (.func (.func 131) #[] #[])),(.i 3,.val (.func (.func 132) #[] #[])),(.i 4,.val (.func (.func 133) #[] #[])),(.i 5,.val (.func (.func 134) #[] #[])),(.i 6,.val (.func (.func 135) #[] #[])),(.i 7,.val (.func (.func 137) #[] #[])),(.i 8,.val (.func (.func 138) #[] #[])),(.i 9,.val (.func (.func 139) #[] #[])),(.i 10,.val (.func (.func 141) #[] #[])),(.i 11,.val (.func (.func 142) #[] #[])),(.i 12,.val (.func (.func 144) #[] #[]))]) r1 (by rfl)<|.ins (kk:=.i 14) (es:=[(.i 1,.val (.func (.func 130) #[] #[])),(.i 2,.val (.func (.func 131) #[] #[])),(.i 3,.val (.func (.func 132) #[] #[])),(.i 4,.val (.func (.func 133) #[] #[])),(.i 5,.val (.func (.func 134) #[] #[])),(.i 6,.val (.func (.func 135) #[] #[])),(.i 7,.val (.func (.func 137) #[] #[])),(.i 8,.val (.func (.func 138) #[] #[])),(.i 9,.val (.func (.func 139) #[] #[])),(.i 10,.val (.func (.func 141) #[] #[])),(.i 11,.val (.func (.func 142) #[] #[])),(.i 12,.val (.func (.func 144) #[] #[])),(.i 13,.val (.func (.func 146) #[] #[]))]) r1 (by rfl)<|.ins (kk:=.i 15) (es:=[(.i 1,.val (.func (.func 130) #[] #[])),(.i 2,.val (.func (.func 131) #[] #[])),(.i 3,.val (.func (.func 132) #[] #[])),(.i 4,.val (.func (.func 133) #[] #[])),(.i 5,.val (.func (.func 134) #[] #[])),(.i 6,.val (.func (.func 135) #[] #[])),(.i 7,.val (.func (.func 137) #[] #[])),(.i 8,.val (.func (.func 138) #[] #[])),(.i 9,.val (.func (.func 139) #[] #[])),(.i 10,.val (.func (.func 141) #[] #[])),(.i 11,.val (.func (.func 142) #[] #[])),(.i 12,.val (.func (.func 144) #[] #[])),(.i 13,.val (.func (.func 146) #[] #[])),(.i 14,.val (.func (.func 148) #[] #[]))]) r1 (by rfl)<|.r 2<|.frz 1 [0] [] [r1=r1] rt1<|
 .fi (.mp Zcn) [])
noncomputable def doCt (f:Fsy) (c:Cal) (fn j:Nat) (g:Fsy × Rep) (hl:Qd7 (.i c.kind) Zcn 0=some (j,.val (.func (.func fn) #[] #[]))) (hd:Qb5 f c=g) (hs:Qai prog fn [.agg (fsyA f),.agg (calA c)] (.tup [.agg (fsyA g.1),.agg (repA g.2)])):Ct prog:=
 .new fun b1=>.new fun b2=>.new fun b3=>.new fun b4=>.ord [1,2,0,3,4,5,6,7,8]<|.u 2 [b2]<|
 .call (Qqo)<|
 .look (kk:=.i c.kind) (es:=Zcn) (fd:=some (j,.val (.func (.func fn) #[] #[]))) hl<|.r 5<|.r 2<|.u 3 [b1,b2]<|
 .call (hs)<|
 .r 3<|.new fun b5=>.new fun b6=>.u 2 [b5,b6]<|
 .u 3 [b6]<|
 .br 30 (g.2.e != 0) (fun q1=>have p1:=bneT q1;.pick [0,1]<|.u 2 [b1]<|
 .fork<|.alt (.u 1 [b6]<|
 .pick [3,4,5]<|.u 3 [b3,b4]<|
 .f (.tup [.agg (fsyA (doF f c).1),.agg (repA (doF f c).2)]) [b3,b4] (.tup [.agg (fsyA f),.agg [aI g.2.e,aI 0,aI 0,aI 0,aS ([]),aN]]) (by
  rw [Qk4 hd (bneT q1)];exact W2s ⟨sR,(Qby _ _ _ _ _),trivial⟩))
 <| .u 1 [b3]<|
 .pick [2,3,5]<|.u 3 [b6,b4]<|
 .f (.tup [.agg (fsyA (doF f c).1),.agg (repA (doF f c).2)]) [b3,b4] (.tup [.agg (fsyA f),.agg [aI g.2.e,aI 0,aI 0,aI 0,aS ([]),aN]]) (by
  rw [Qk4 hd (bneT q1)];exact W2s ⟨sR,(Qby _ _ _ _ _),trivial⟩))
 <| fun q1=>have p1:=bneF q1;.pick [0]<|.u 1 [b5]<|
 .fork<|.alt (.u 1 [b6]<|
 .pick [2,3]<|.u 2 [b3,b4]<|
 .f (.tup [.agg (fsyA (doF f c).1),.agg (repA (doF f c).2)]) [b3,b4] (.tup [.agg (fsyA g.1),.agg (repA g.2)]) (by
  rw [Qef hd (bneF q1)];exact sR))
 <| .u 1 [b3]<|
 .pick [1,3]<|.u 2 [b6,b4]<|
 .f (.tup [.agg (fsyA (doF f c).1),.agg (repA (doF f c).2)]) [b3,b4] (.tup [.agg (fsyA g.1),.agg (repA g.2)]) (by
  rw [Qef hd (bneF q1)];exact sR)
theorem Zk1 (f:Fsy) (c:Cal) (okf:OkF f) (okc:OkCal c) (hp:Qan f) (hx:f.next<9223372036854775807) (hk:c.kind=1):Qai prog 48 [.agg (fsyA f),.agg (calA c)] (.tup [.agg (fsyA (doF f c).1),.agg (repA (doF f c).2)]):=
 Qae func48 (doCt f c 130 0 _ (by rw [hk];rfl) (Qz9 hk) (Zcm f c okf okc hp))
theorem Zk0 (f:Fsy) (c:Cal) (okf:OkF f) (okc:OkCal c) (hp:Qan f) (hx:f.next<9223372036854775807) (hk:c.kind=2):Qai prog 48 [.agg (fsyA f),.agg (calA c)] (.tup [.agg (fsyA (doF f c).1),.agg (repA (doF f c).2)]):=
 Qae func48 (doCt f c 131 1 _ (by rw [hk];rfl) (Qu8 hk) (Zck f c okf okc hp))
theorem Zkz (f:Fsy) (c:Cal) (okf:OkF f) (okc:OkCal c) (hp:Qan f) (hx:f.next<9223372036854775807) (hk:c.kind=3):Qai prog 48 [.agg (fsyA f),.agg (calA c)] (.tup [.agg (fsyA (doF f c).1),.agg (repA (doF f c).2)]):=
 Qae func48 (doCt f c 132 2 _ (by rw [hk];rfl) (Qu7 hk) (Zon f c okf okc hp))
theorem Zky (f:Fsy) (c:Cal) (okf:OkF f) (okc:OkCal c) (hp:Qan f) (hx:f.next<9223372036854775807) (hk:c.kind=4):Qai prog 48 [.agg (fsyA f),.agg (calA c)] (.tup [.agg (fsyA (doF f c).1),.agg (repA (doF f c).2)]):=
 Qae func48 (doCt f c 133 3 _ (by rw [hk];rfl) (Qu6 hk) (Zkp f c okf okc hp))
theorem Zkx (f:Fsy) (c:Cal) (okf:OkF f) (okc:OkCal c) (hp:Qan f) (hx:f.next<9223372036854775807) (hk:c.kind=5):Qai prog 48 [.agg (fsyA f),.agg (calA c)] (.tup [.agg (fsyA (doF f c).1),.agg (repA (doF f c).2)]):=
 Qae func48 (doCt f c 134 4 _ (by rw [hk];rfl) (Qu5 hk) (dcut_o f c okf okc hp))
theorem Zkw (f:Fsy) (c:Cal) (okf:OkF f) (okc:OkCal c) (hp:Qan f) (hx:f.next<9223372036854775807) (hk:c.kind=6):Qai prog 48 [.agg (fsyA f),.agg (calA c)] (.tup [.agg (fsyA (doF f c).1),.agg (repA (doF f c).2)]):=
 Qae func48 (doCt f c 135 5 _ (by rw [hk];rfl) (Qqp hk) (Zot f c okf okc hp hx))
theorem Zkv (f:Fsy) (c:Cal) (okf:OkF f) (okc:OkCal c) (hp:Qan f) (hx:f.next<9223372036854775807) (hk:c.kind=7):Qai prog 48 [.agg (fsyA f),.agg (calA c)] (.tup [.agg (fsyA (doF f c).1),.agg (repA (doF f c).2)]):=
 Qae func48 (doCt f c 137 6 _ (by rw [hk];rfl) (Qu4 hk) (Zos f c okf okc hp hx))
theorem Zku (f:Fsy) (c:Cal) (okf:OkF f) (okc:OkCal c) (hp:Qan f) (hx:f.next<9223372036854775807) (hk:c.kind=8):Qai prog 48 [.agg (fsyA f),.agg (calA c)] (.tup [.agg (fsyA (doF f c).1),.agg (repA (doF f c).2)]):=
 Qae func48 (doCt f c 138 7 _ (by rw [hk];rfl) (Qu3 hk) (Zor f c okf okc hp hx))
theorem Zkt (f:Fsy) (c:Cal) (okf:OkF f) (okc:OkCal c) (hp:Qan f) (hx:f.next<9223372036854775807) (hk:c.kind=9):Qai prog 48 [.agg (fsyA f),.agg (calA c)] (.tup [.agg (fsyA (doF f c).1),.agg (repA (doF f c).2)]):=
 Qae func48 (doCt f c 139 8 _ (by rw [hk];rfl) (Qmk hk) (Zoq f c okf okc hp))
theorem Zhd (f:Fsy) (c:Cal) (okf:OkF f) (okc:OkCal c) (hp:Qan f) (hx:f.next<9223372036854775807) (hk:c.kind=10):Qai prog 48 [.agg (fsyA f),.agg (calA c)] (.tup [.agg (fsyA (doF f c).1),.agg (repA (doF f c).2)]):=
 Qae func48 (doCt f c 141 9 _ (by rw [hk];rfl) (Qii hk) (Zk7 f c okf okc hp))
theorem Zhc (f:Fsy) (c:Cal) (okf:OkF f) (okc:OkCal c) (hp:Qan f) (hx:f.next<9223372036854775807) (hk:c.kind=11):Qai prog 48 [.agg (fsyA f),.agg (calA c)] (.tup [.agg (fsyA (doF f c).1),.agg (repA (doF f c).2)]):=
 Qae func48 (doCt f c 142 10 _ (by rw [hk];rfl) (Qsm hk) (Zk6 f c okf okc hp))
theorem Zhb (f:Fsy) (c:Cal) (okf:OkF f) (okc:OkCal c) (hp:Qan f) (hx:f.next<9223372036854775807) (hk:c.kind=12):Qai prog 48 [.agg (fsyA f),.agg (calA c)] (.tup [.agg (fsyA (doF f c).1),.agg (repA (doF f c).2)]):=
 Qae func48 (doCt f c 144 11 _ (by rw [hk];rfl) (Qsl hk) (Zk5 f c okf okc hp))
theorem Zha (f:Fsy) (c:Cal) (okf:OkF f) (okc:OkCal c) (hp:Qan f) (hx:f.next<9223372036854775807) (hk:c.kind=13):Qai prog 48 [.agg (fsyA f),.agg (calA c)] (.tup [.agg (fsyA (doF f c).1),.agg (repA (doF f c).2)]):=
 Qae func48 (doCt f c 146 12 _ (by rw [hk];rfl) (Qo0 hk) (Zk4 f c okf okc hp))
theorem Zg9 (f:Fsy) (c:Cal) (okf:OkF f) (okc:OkCal c) (hp:Qan f) (hx:f.next<9223372036854775807) (hk:c.kind=14):Qai prog 48 [.agg (fsyA f),.agg (calA c)] (.tup [.agg (fsyA (doF f c).1),.agg (repA (doF f c).2)]):=
 Qae func48 (doCt f c 148 13 _ (by rw [hk];rfl) (Qsk hk) (Zk3 f c okf okc hp))
theorem Zg8 (f:Fsy) (c:Cal) (okf:OkF f) (okc:OkCal c) (hp:Qan f) (hx:f.next<9223372036854775807) (hk:c.kind=15):Qai prog 48 [.agg (fsyA f),.agg (calA c)] (.tup [.agg (fsyA (doF f c).1),.agg (repA (doF f c).2)]):=
 Qae func48 (doCt f c 150 14 _ (by rw [hk];rfl) (Qsj hk) (Zk2 f c okf okc hp))
theorem Zg7 (f:Fsy) (c:Cal) (okf:OkF f) (okc:OkCal c) (hp:Qan f) (hx:f.next<9223372036854775807) (hk:c.kind<1∨c.kind>15):Qai prog 48 [.agg (fsyA f),.agg (calA c)] (.tup [.agg (fsyA (doF f c).1),.agg (repA (doF f c).2)]):=by
 exact Qae func48 (
 .new fun b1=>.new fun b2=>.new fun b3=>.new fun b4=>.ord [1,2,0,3,4,5,6,7,8]<|.u 2 [b2]<|
 .call (Qqo)<|
 .look (kk:=.i c.kind) (es:=Zcn) (fd:=none) (by simp only [Zcn,Qd7];repeat rw [W1x (fun h=>by injection h with h;omega)])<|.r 5<|.r 2<|.u 4 [b1,b3,b4]<|
 .f (.tup [.agg (fsyA (doF f c).1),.agg (repA (doF f c).2)]) [b3,b4] (.tup [.agg (fsyA f),.agg [aI 1,aI 0,aI 0,aI 0,aS ([]),aN]]) (by
  rw [Qk4 (Qsi hk) (by show ¬ (1:Int)=0;omega)];exact W2s ⟨sR,(Qby _ _ _ _ _),trivial⟩))
theorem Zoo (f:Fsy) (c:Cal) (okf:OkF f) (okc:OkCal c) (hp:Qan f) (hx:f.next<9223372036854775807):Qai prog 48 [.agg (fsyA f),.agg (calA c)] (.tup [.agg (fsyA (doF f c).1),.agg (repA (doF f c).2)]):=by
 rcases (show c.kind=1∨c.kind=2∨c.kind=3∨c.kind=4∨c.kind=5∨c.kind=6∨c.kind=7∨c.kind=8∨c.kind=9∨c.kind=10∨c.kind=11∨c.kind=12∨c.kind=13∨c.kind=14∨c.kind=15∨(c.kind<1∨c.kind>15) from by omega) with h | h | h | h | h | h | h | h | h | h | h | h | h | h | h | h
 ·exact Zk1 f c okf okc hp hx h
 ·exact Zk0 f c okf okc hp hx h
 ·exact Zkz f c okf okc hp hx h
 ·exact Zky f c okf okc hp hx h
 ·exact Zkx f c okf okc hp hx h
 ·exact Zkw f c okf okc hp hx h
 ·exact Zkv f c okf okc hp hx h
 ·exact Zku f c okf okc hp hx h
 ·exact Zkt f c okf okc hp hx h
 ·exact Zhd f c okf okc hp hx h
 ·exact Zhc f c okf okc hp hx h
 ·exact Zhb f c okf okc hp hx h
 ·exact Zha f c okf okc hp hx h
 ·exact Zg9 f c okf okc hp hx h
 ·exact Zg8 f c okf okc hp hx h
 ·exact Zg7 f c okf okc hp hx h
theorem of_at {f:Fsy} {i k:Int} (h:ofE f i k=0):atF f i=some (Qaa f i)∧(Qaa f i).kind=k:=by
 unfold ofE at h
 split at h
 ·rename_i hb
  split at h
  ·rename_i hk;exact ⟨Qgb hb,hk⟩
  ·cases h
 ·cases h
theorem Qul {f:Fsy} {i:Int} {t:Txt} (okf:OkF f) (T:TreeP f) (h:ofE f i 1=0) (ht:t.length≤4096):Kept f (putF f (Qei (Qaa f i) t)):=by
 obtain ⟨hn,hk⟩:=of_at h;obtain ⟨n1,n2,n3⟩:=Qbh T.rows hn;have okn:=okf.2.2 _ (Qdk hn);exact Zj2 okf T hn n3 rfl rfl rfl ⟨n1.1,n1.2.1,n1.2.2.1,.inr ⟨.inl hk,ht,(show (Qaa f i).l=[] from Qgz n1 (by rw [hk];decide))⟩⟩ ⟨okn.1,okn.2.1,okn.2.2.1,by show t.length≤_;omega,okn.2.2.2.2⟩
theorem Qok {f:Fsy} {c:Cal} {n:Nod} (okf:OkF f) (okc:OkCal c) (T:TreeP f) (hx:f.next<4611686018427387904) (okn:OkN n):Kept f (addO f c n).1:=by
 unfold addO;show Kept f (if Qaw f c.ino c.name n=0 then _ else f)
 split
 ·rename_i h;exact Zj4 okf T okn okc.name hx h
 ·exact Kept.self okf T
theorem Zf9 {f:Fsy} {c:Cal} (okf:OkF f) (okc:OkCal c) (T:TreeP f) (hx:f.next<4611686018427387904) (he:(Qb5 f c).2.e=0):Kept f (Qb5 f c).1:=by
 have S:=Kept.self okf T;rcases (show c.kind=1∨c.kind=2∨c.kind=3∨c.kind=4∨c.kind=5∨c.kind=6∨c.kind=7∨c.kind=8∨c.kind=9∨c.kind=10∨c.kind=11∨c.kind=12∨c.kind=13∨c.kind=14∨c.kind=15∨(c.kind<1∨c.kind>15) from by omega) with h | h | h | h | h | h | h | h | h | h | h | h | h | h | h | h
 ·rw [Qz9 h] at he ⊢;exact S
 ·rw [Qu8 h] at he ⊢;unfold Qj9;split<;>exact S
 ·rw [Qu7 h] at he ⊢;unfold Qkg;split<;>exact S
 ·rw [Qu6 h] at he ⊢;unfold Qfs at he ⊢
  split
  ·rename_i hof;rw [W1y hof] at he;refine Qul okf T hof ?_;have he2:(Qbk (Qaa f c.ino).text c.at_ c.text).2=0:=he;unfold Qbk at he2 ⊢
   split
   ·rename_i hw;have hz:=Qha hw;have htl:=Qf6 T.rows c.ino;show (if c.text=[] then (Qaa f c.ino).text else putD (Qaa f c.ino).text c.at_.toNat c.text).length≤4096
    split
    ·exact htl
    ·rw [Qnx];omega
   ·exact Qf6 T.rows c.ino
  ·exact S
 ·rw [Qu5 h] at he ⊢;unfold cutO
  split
  ·rename_i hof;refine Qul okf T hof ?_;unfold cutD
   split
   ·rename_i hw;have hz:=Qha hw;show (Qga (Qaa f c.ino).text c.many.toNat).length≤4096;rw [Qdz];omega
   ·exact Qf6 T.rows c.ino
  ·exact S
 ·rw [Qqp h] at he ⊢;exact Qok okf okc T hx Qrz
 ·rw [Qu4 h] at he ⊢;exact Qok okf okc T hx Qxl
 ·rw [Qu3 h] at he ⊢;unfold symO
  split
  ·exact S
  ·exact Qok okf okc T hx (Qrx okc.text)
 ·rw [Qmk h] at he ⊢;unfold Qc8 at he ⊢
  split
  ·rename_i h0
   split
   ·exact S
   ·rename_i h1;rw [W1y h0,W1x h1] at he;exact Qum okf T he
  ·exact S
 ·rw [Qii h] at he ⊢;unfold Qc8 at he ⊢
  split
  ·rename_i h0
   split
   ·exact S
   ·rename_i h1;rw [W1y h0,W1x h1] at he;exact Qum okf T he
  ·exact S
 ·rw [Qsm h] at he ⊢;unfold Qxi at he ⊢;exact Zf8 okf T okc.name he
 ·rw [Qsl h] at he ⊢;unfold renO at he ⊢;exact Zj3 okf T okc.name2 he
 ·rw [Qo0 h] at he ⊢;exact S
 ·rw [Qsk h] at he ⊢;exact S
 ·rw [Qsj h] at he ⊢;exact S
 ·rw [Qsi h];exact S
theorem Qr0 {f:Fsy} {c:Cal} (okf:OkF f) (okc:OkCal c) (T:TreeP f) (hx:f.next<4611686018427387904):Kept f (doF f c).1:=by
 unfold doF
 split
 ·rename_i h;exact Zf9 okf okc T hx h
 ·exact Kept.self okf T
end Go.Proofs.YtahlldgocpabjaaGreat

namespace Go.Proofs.YtahlldgocpabjaaGreat
open Go Go.RowKit Copyhold Go.Proofs.Tryz
open Copyhold.Name (Srt insE delE getE isAt)
theorem Quh {s:Txt}:∀ {l:List NEnt},Srt l→∀ (k:Nat) (x:NEnt),l[k]?=some x→(x.1<s↔k<Name.pos l s)
 | a :: r,h,k,x,hx=>by
  by_cases ha:a.1<s
  ·rw [Name.pos_lt ha];cases k with
   | zero=>
    simp at hx;subst hx;exact ⟨fun _=>by omega,fun _=>ha⟩
   | succ k=>
    have:=Quh (s:=s) (Name.Srt.tail h) k x (by simpa using hx);rw [this];omega
  ·have h0:=Name.pos_ge h ha;rw [h0];refine ⟨fun hlt=>?_,fun h=>absurd h (Nat.not_lt_zero _)⟩;have hc:(a :: r).countP (fun y=>decide (y.1<s))=0:=h0;have:=List.countP_eq_zero.1 hc x (W0h hx);simp [hlt] at this
theorem Qui {l:List Ent} {s:Txt} {k:Nat} {x:Ent} (h:Srt (lI l)) (hx:l[k]?=some x):Op.bytesLess x.name s=true↔k<posI l s:=by
 rw [Qoc,decide_eq_true_iff];exact Quh h k (x.name,x.ino) (by unfold lI;rw [W0v,hx];rfl)
theorem Zhx {s:Txt} (h:¬ Qak s=0):Qak s=10:=by
 unfold Qak at h ⊢
 split
 ·rename_i h1;rw [W1y h1] at h;exact absurd rfl h
 ·rfl
def lvK (l:List Ent) (s:Txt) (k:Nat):List Ent:=(l.take k).filter fun e=>!(e.name==s)
theorem Zfs {l:List Ent} {s:Txt} {k:Nat} {x:Ent} (h:l[k]?=some x) (q:(!(x.name==s))=true):lvK l s (k+1)=lvK l s k++[x]:=by
 unfold lvK;rw [Qam h,W1k];simp [W2l,q]
theorem Zl3 {l:List Ent} {s:Txt} {k:Nat} {x:Ent} (h:l[k]?=some x) (q:(!(x.name==s))=false):lvK l s (k+1)=lvK l s k:=by
 unfold lvK;rw [Qam h,W1k];simp [W2l,q]
theorem Zl4 (l:List Ent) (s:Txt) (k:Nat):(lvK l s k).length≤l.length:=W1a (W2h _ _) (by rw [W0g];omega)
theorem Zft {l:List Ent} {s:Txt} {k:Nat} (h:Srt (lI l)) (hk:l.length≤k):lvK l s k=delL l s:=by
 apply Zf6;rw [Qzm h];unfold lvK delE lI;rw [Qat hk,List.filter_map];rfl
theorem Zf3 {l:List Ent} {s:Txt} (h:isB l s=true):Qhv l s=0:=W1y h
theorem Qzk {l:List Ent} {s:Txt} (h:isB l s=false):delL l s=l∧Qhv l s=6:=⟨W1x (by rw [h];decide),W1x (by rw [h];decide)⟩
theorem Qwt (l:List Ent) (s:Txt) (n:Int) (hl:l.length≤256) (hr:Name.Srt (lI l)) (hs:s.length≤1000000):Qai prog 166 [.sl 2 false (l.map entA),aS s,aI n] (.tup [.sl 2 false ((entL l s n).map entA),aI (entE l s n)]):=by
 exact Qae func166 (
 .r 2<|.r 1<|.call (Qep s (by omega))<|
 .r 1<|.r 2<|.call (Qen l s (by omega))<|
 .r 5<|.r 2<|.br 22 ((Qak s) != 0) (fun q1=>have p1:=bneT q1;.r 4<|.f (.tup [.sl 2 false ((entL l s n).map entA),aI (entE l s n)]) [] (.tup [.sl 2 false (l.map entA),aI (Qak s)]) (by
  have e:entE l s n=Qak s:=by
   unfold entE;rw [W1y q1];exact (Zhx (bneT q1)).symm
  have e2:entL l s n=l:=W1x (by rw [e];exact bneT q1);rw [e2,e];exact W2s ⟨by first | exact sR | exact W2r _ _ _,sR,trivial⟩))
 <| fun q1=>have p1:=bneF q1;.r 2<|.bd 26 (n<1) (fun p2=>.r 3<|.f (.tup [.sl 2 false ((entL l s n).map entA),aI (entE l s n)]) [] (.tup [.sl 2 false (l.map entA),aI 1]) (by
  have e:entE l s n=1:=by
   unfold entE;rw [W1x (by rw [q1];decide)];rw [W1y (by omega)]
  have e2:entL l s n=l:=W1x (by rw [e];decide);rw [e2,e];exact W2s ⟨by first | exact sR | exact W2r _ _ _,sR,trivial⟩))
 <| fun p2=>.r 1<|.br 28 (isB l s) (fun q3=>have p3:=booT q3;.r 3<|.f (.tup [.sl 2 false ((entL l s n).map entA),aI (entE l s n)]) [] (.tup [.sl 2 false (l.map entA),aI 7]) (by
  have e:entE l s n=7:=by
   unfold entE;rw [W1x (by rw [q1];decide)];rw [W1x (by omega)];rw [W1y q3]
  have e2:entL l s n=l:=W1x (by rw [e];decide);rw [e2,e];exact W2s ⟨by first | exact sR | exact W2r _ _ _,sR,trivial⟩))
 <| fun q3=>have p3:=booF q3;.r 2<|.lm 31 l entA<|.r 1<|.bd 32 ((l.length:Int)≥256) (fun p4=>.r 3<|.f (.tup [.sl 2 false ((entL l s n).map entA),aI (entE l s n)]) [] (.tup [.sl 2 false (l.map entA),aI 12]) (by
  have e:entE l s n=12:=by
   unfold entE;rw [W1x (by rw [q1];decide)];rw [W1x (by omega)];rw [W1x (by rw [q3];decide)];rw [W1y (by omega)]
  have e2:entL l s n=l:=W1x (by rw [e];decide);rw [e2,e];exact W2s ⟨by first | exact sR | exact W2r _ _ _,sR,trivial⟩))
 <| fun p4=>.r 1<|.rowNil 11 11 128 2<|.r 1<|let L1:Lp (Nat × Value):=⟨fun a1=>⟨[(0,.sl 2 false (l.map entA)),(1,aS s),(2,aI n),(12,aI (a1.1:Int)),(11,.rw 11 a1.2 ((l.take a1.1).length))],[(11,.row a1.2 128 2 ((l.take a1.1).map entA))]⟩,fun a1=>l.length-a1.1,fun a1=>a1.1≤l.length∧a1.1≤posI l s⟩
 .lp L1 (0,.slice none 0 0) ⟨W0j _,W0j _⟩ [(12,aI 0),(11,.rw 11 (.slice none 0 0) 0)] [(11,.row (.slice none 0 0) 128 2 ([]))] ⟨sR,sR,sR,sO,W2p (W1z (AV.rw 11 (.slice none 0 0)) (by simp)),trivial⟩ ⟨⟨_,rfl,W2q (by simp)⟩,trivial⟩ fun a1 ha1=>
 (fun (k:Nat) (V:Value) (hH1:k≤l.length∧k≤posI l s)=>.r 3<|.lm 36 l entA<|.r 2<|.bd 38 ((k:Int)<(l.length:Int)) (fun p5=>.r 2<|.idxM l entA k (m:=(k:Int)) rfl (by omega) fun x1 hx1=>
 .r 5<|.br 46 (Op.bytesLess x1.name s) (fun q6=>have p6:=booT q6;.r 3<|.idx k (m:=(k:Int)) (xs:=l.map entA) (e:=entA x1) rfl (map_some hx1)<|
 .r 2<|.app 24 V ((l.take k).map entA) ([[aS x1.name,aI x1.ino]]) (by have hq:=Qbt l s;simp only [W0a,W0b,W0f,W0g,W0p,W0e];omega) (by have hq:=Qbt l s;simp only [W0a,W0b,W0f,W0g,W0p,W0e];omega) fun V1=>
 .r 1<|.run 3 [rng .i64 ((k:Int)+1)] ⟨Qah,trivial⟩<|
 .bk L1 (k,V) ((k+1),V1) (show (k+1)≤l.length∧(k+1)≤posI l s from (by refine ⟨by omega,?_⟩;have:=(Qui hr hx1).1 q6;omega)) (show l.length-(k+1)<l.length-k from (by omega)) [(12,aI ((k:Int)+1)),(11,.rw 11 V1 (((l.take k).map entA).length+([[aS x1.name,aI x1.ino]]:List (List AV)).length))] [(11,.row V1 128 2 (((l.take k).map entA)++([[aS x1.name,aI x1.ino]])))] ⟨sR,sR,sR,sO,W2p (W1z (AV.rw 11 V1) (by rw [Qam hx1];simp)),trivial⟩ ⟨⟨_,rfl,W2q (by rw [Qam hx1];simp [entA])⟩,trivial⟩)
 <| fun q6=>have p6:=booF q6;.r 5<|.app 24 V ((l.take k).map entA) ([[aS s,aI n]]) (by have hq:=Qbt l s;simp only [W0a,W0b,W0f,W0g,W0p,W0e];omega) (by have hq:=Qbt l s;simp only [W0a,W0b,W0f,W0g,W0p,W0e];omega) fun V2=>
 .r 1<|.r 3<|.slc 2 false (l.map entA) (some (k:Int)) none none k ((l.map entA).length) false (.inr rfl) (.inl ⟨rfl,rfl⟩) (.inl ⟨rfl,fun h=>by cases h⟩) (by first | omega | (rw [W0a];omega)) (by first | omega | (rw [W0a];omega))<|
 .app 24 V2 (((l.take k).map entA)++([[aS s,aI n]])) (((l.map entA).take ((l.map entA).length)).drop k) (by have hq:=Qbt l s;simp only [W0a,W0b,W0f,W0g,W0p,W0e];omega) (by have hq:=Qbt l s;simp only [W0a,W0b,W0f,W0g,W0p,W0e];omega) fun V3=>
 .r 2<|.frz 11 [6,7] [] [V3=V3,(((l.take k).map entA)++([[aS s,aI n]])).length+(((l.map entA).take ((l.map entA).length)).drop k).length=((((l.take k).map entA)++([[aS s,aI n]]))++(((l.map entA).take ((l.map entA).length)).drop k)).length] ⟨rfl,(by first | rfl | (simp;done) | (simp;omega)),trivial⟩<|
 .f (.tup [.sl 2 false ((entL l s n).map entA),aI (entE l s n)]) [] (.tup [.sl 2 false ((((l.take k).map entA)++([[aS s,aI n]]))++(((l.map entA).take ((l.map entA).length)).drop k)),aI 0]) (by
  have e:entE l s n=0:=by
   unfold entE;rw [W1x (by rw [q1];decide)];rw [W1x (by omega)];rw [W1x (by rw [q3];decide)];rw [W1x (by omega)]
  have e2:entL l s n=l.take (posI l s)++⟨s,n⟩ :: l.drop (posI l s):=W1y e;have hk:k=posI l s:=by
   have hq:=Qbt l s;by_cases h:k<posI l s
   ·have:=(Qui hr hx1).2 h;simp_all
   ·omega
  rw [e,e2,← hk]
  first | exact W2s ⟨W2p (W1z (AV.sl 2 false) (by simp [entA,W17,W2f,Qat])),sR,trivial⟩ | exact W2s ⟨(W2p (W1z (AV.sl 2 true) (by simp [entA,W17,W2f,Qat]))).trans (W2r _ _ _),sR,trivial⟩))
 <| fun p5=>.r 8<|.r 5<|.app 24 V ((l.take k).map entA) ([[aS s,aI n]]) (by have hq:=Qbt l s;simp only [W0a,W0b,W0f,W0g,W0p,W0e];omega) (by have hq:=Qbt l s;simp only [W0a,W0b,W0f,W0g,W0p,W0e];omega) fun V4=>
 .r 1<|.r 3<|.slc 2 false (l.map entA) (some (k:Int)) none none k ((l.map entA).length) false (.inr rfl) (.inl ⟨rfl,rfl⟩) (.inl ⟨rfl,fun h=>by cases h⟩) (by first | omega | (rw [W0a];omega)) (by first | omega | (rw [W0a];omega))<|
 .app 24 V4 (((l.take k).map entA)++([[aS s,aI n]])) (((l.map entA).take ((l.map entA).length)).drop k) (by have hq:=Qbt l s;simp only [W0a,W0b,W0f,W0g,W0p,W0e];omega) (by have hq:=Qbt l s;simp only [W0a,W0b,W0f,W0g,W0p,W0e];omega) fun V5=>
 .r 2<|.frz 11 [6,7] [] [V5=V5,(((l.take k).map entA)++([[aS s,aI n]])).length+(((l.map entA).take ((l.map entA).length)).drop k).length=((((l.take k).map entA)++([[aS s,aI n]]))++(((l.map entA).take ((l.map entA).length)).drop k)).length] ⟨rfl,(by first | rfl | (simp;done) | (simp;omega)),trivial⟩<|
 .f (.tup [.sl 2 false ((entL l s n).map entA),aI (entE l s n)]) [] (.tup [.sl 2 false ((((l.take k).map entA)++([[aS s,aI n]]))++(((l.map entA).take ((l.map entA).length)).drop k)),aI 0]) (by
  have e:entE l s n=0:=by
   unfold entE;rw [W1x (by rw [q1];decide)];rw [W1x (by omega)];rw [W1x (by rw [q3];decide)];rw [W1x (by omega)]
  have e2:entL l s n=l.take (posI l s)++⟨s,n⟩ :: l.drop (posI l s):=W1y e;have hk:k=posI l s:=by
   have hq:=Qbt l s;omega
  rw [e,e2,← hk]
  first | exact W2s ⟨W2p (W1z (AV.sl 2 false) (by simp [entA,W17,W2f,Qat])),sR,trivial⟩ | exact W2s ⟨(W2p (W1z (AV.sl 2 true) (by simp [entA,W17,W2f,Qat]))).trans (W2r _ _ _),sR,trivial⟩)) a1.1 a1.2 ha1)
theorem Qwr (l:List Ent) (s:Txt) (hl:l.length≤1000000) (hr:Name.Srt (lI l)) (hs:s.length≤1000000):Qai prog 168 [.sl 2 false (l.map entA),aS s] (.tup [.sl 2 false ((delL l s).map entA),aI (getI l s),aI (Qhv l s)]):=by
 exact Qae func168 (
 .r 3<|.r 2<|.call (Qen l s (by omega))<|
 .r 5<|.r 2<|.br 18 (!(isB l s)) (fun q1=>have q1:=notT q1;have p1:=booF q1;.r 4<|.f (.tup [.sl 2 false ((delL l s).map entA),aI (getI l s),aI (Qhv l s)]) [] (.tup [.sl 2 false (l.map entA),aI 0,aI 6]) (by
  rw [(Qzk q1).1,(Qzk q1).2,Qr7 q1];exact W2s ⟨by first | exact sR | exact W2r _ _ _,sR,sR,trivial⟩))
 <| fun q1=>have q1:=notF q1;have p1:=booT q1;.r 1<|.rowNil 9 9 128 2<|.r 1<|let L1:Lp (Nat × Value):=⟨fun a1=>⟨[(0,.sl 2 false (l.map entA)),(1,aS s),(7,aI (getI l s)),(10,aI (a1.1:Int)),(9,.rw 9 a1.2 ((lvK l s a1.1).length))],[(9,.row a1.2 128 2 ((lvK l s a1.1).map entA))]⟩,fun a1=>l.length-a1.1,fun a1=>a1.1≤l.length⟩
 .lp L1 (0,.slice none 0 0) (show 0≤l.length from W0j _) [(10,aI 0),(9,.rw 9 (.slice none 0 0) 0)] [(9,.row (.slice none 0 0) 128 2 ([]))] ⟨sR,sR,sR,sO,W2p (W1z (AV.rw 9 (.slice none 0 0)) (by simp [lvK])),trivial⟩ ⟨⟨_,rfl,W2q (by simp [lvK])⟩,trivial⟩ fun a1 ha1=>
 (fun (k:Nat) (V:Value) (hH1:k≤l.length)=>.r 3<|.lm 22 l entA<|.r 1<|.bd 23 ((k:Int)<(l.length:Int)) (fun p2=>.r 2<|.idxM l entA k (m:=(k:Int)) rfl (by omega) fun x1 hx1=>
 .r 4<|.br 32 (!(x1.name==s)) (fun q3=>have q3:=notT q3;have p3:=beqF q3;.r 3<|.idx k (m:=(k:Int)) (xs:=l.map entA) (e:=entA x1) rfl (map_some hx1)<|
 .r 2<|.app 24 V ((lvK l s k).map entA) ([[aS x1.name,aI x1.ino]]) (by have:=Zl4 l s k;simp only [W0a,W0b,W0f,W0e];omega) (by have:=Zl4 l s k;simp only [W0a,W0b,W0f,W0e];omega) fun V1=>
 .r 1<|.run 3 [rng .i64 ((k:Int)+1)] ⟨Qah,trivial⟩<|
 .bk L1 (k,V) ((k+1),V1) (show (k+1)≤l.length from (by show _≤_;omega)) (show l.length-(k+1)<l.length-k from (by omega)) [(10,aI ((k:Int)+1)),(9,.rw 9 V1 (((lvK l s k).map entA).length+([[aS x1.name,aI x1.ino]]:List (List AV)).length))] [(9,.row V1 128 2 (((lvK l s k).map entA)++([[aS x1.name,aI x1.ino]])))] ⟨sR,sR,sR,sO,W2p (W1z (AV.rw 9 V1) (by rw [Zfs hx1 (by simpa using q3)];simp)),trivial⟩ ⟨⟨_,rfl,W2q (by rw [Zfs hx1 (by simpa using q3)];simp [entA])⟩,trivial⟩)
 <| fun q3=>have q3:=notF q3;have p3:=beqT q3;.run 3 [rng .i64 ((k:Int)+1)] ⟨Qah,trivial⟩<|
 .bk L1 (k,V) ((k+1),V) (show (k+1)≤l.length from (by show _≤_;omega)) (show l.length-(k+1)<l.length-k from (by omega)) [(10,aI ((k:Int)+1)),(9,.rw 9 V ((lvK l s k).length))] [(9,.row V 128 2 ((lvK l s k).map entA))] ⟨sR,sR,sR,sO,W2p (W1z (AV.rw 9 V) (by rw [Zl3 hx1 (by simpa using q3)])),trivial⟩ ⟨⟨_,rfl,W2q (by rw [Zl3 hx1 (by simpa using q3)])⟩,trivial⟩)
 <| fun p2=>.r 5<|.frz 9 [4,5,6] [] [V=V,(lvK l s k).length=((lvK l s k).map entA).length] ⟨rfl,(by first | rfl | (simp;done) | (simp;omega)),trivial⟩<|
 .f (.tup [.sl 2 false ((delL l s).map entA),aI (getI l s),aI (Qhv l s)]) [] (.tup [.sl 2 false ((lvK l s k).map entA),aI (getI l s),aI 0]) (by
  rw [Zf3 q1]
  first | exact W2s ⟨W2p (by rw [Zft hr (by omega)]),sR,sR,trivial⟩ | exact W2s ⟨(W2p (by rw [Zft hr (by omega)])).trans (W2r _ _ _),sR,sR,trivial⟩)) a1.1 a1.2 ha1)
theorem Qwl (l:List Ent) (hl:l.length≤1000000):Qai prog 76 [.sl 2 false (l.map entA)] (.sl 1 false ((l.map Ent.name).map txA)):=by
 exact Qae func76 (
 .r 1<|.r 1<|.rowNil 3 3 9 1<|.r 1<|let L1:Lp (Nat × Value):=⟨fun a1=>⟨[(0,.sl 2 false (l.map entA)),(4,aI (a1.1:Int)),(3,.rw 3 a1.2 (((l.take a1.1).map Ent.name).length))],[(3,.row a1.2 9 1 (((l.take a1.1).map Ent.name).map txA))]⟩,fun a1=>l.length-a1.1,fun a1=>a1.1≤l.length⟩
 .lp L1 (0,.slice none 0 0) (show 0≤l.length from W0j _) [(4,aI 0),(3,.rw 3 (.slice none 0 0) 0)] [(3,.row (.slice none 0 0) 9 1 ([]))] ⟨sR,sO,W2p (W1z (AV.rw 3 (.slice none 0 0)) (by simp)),trivial⟩ ⟨⟨_,rfl,W2q (by simp)⟩,trivial⟩ fun a1 ha1=>
 (fun (k:Nat) (V:Value) (hH1:k≤l.length)=>.r 3<|.lm 7 l entA<|.r 1<|.bd 8 ((k:Int)<(l.length:Int)) (fun p1=>.r 3<|.idxM l entA k (m:=(k:Int)) rfl (by omega) fun x1 hx1=>
 .r 3<|.app 16 V (((l.take k).map Ent.name).map txA) ([[aS x1.name]]) (by simp only [W0a,W0b,W0f,W0g,W0e];omega) (by simp only [W0a,W0b,W0f,W0g,W0e];omega) fun V1=>
 .r 1<|.run 3 [rng .i64 ((k:Int)+1)] ⟨Qah,trivial⟩<|
 .bk L1 (k,V) ((k+1),V1) (show (k+1)≤l.length from (by show _≤_;omega)) (show l.length-(k+1)<l.length-k from (by omega)) [(4,aI ((k:Int)+1)),(3,.rw 3 V1 ((((l.take k).map Ent.name).map txA).length+([[aS x1.name]]:List (List AV)).length))] [(3,.row V1 9 1 ((((l.take k).map Ent.name).map txA)++([[aS x1.name]])))] ⟨sR,sO,W2p (W1z (AV.rw 3 V1) (by rw [Qam hx1];simp)),trivial⟩ ⟨⟨_,rfl,W2q (by rw [Qam hx1];simp [txA])⟩,trivial⟩)
 <| fun p1=>.r 2<|.frz 3 [2] [] [V=V,((l.take k).map Ent.name).length=(((l.take k).map Ent.name).map txA).length] ⟨rfl,(by first | rfl | (simp;done) | (simp;omega)),trivial⟩<|
 .f (.sl 1 false ((l.map Ent.name).map txA)) [] (.sl 1 false (((l.take k).map Ent.name).map txA)) (by first | exact W2p (by rw [Qat (by omega)]) | exact (W2p (by rw [Qat (by omega)])).trans (W2r _ _ _))) a1.1 a1.2 ha1)
end Go.Proofs.YtahlldgocpabjaaGreat

namespace Go.Proofs.YtahlldgocpabjaaGreat
open Go Go.RowKit Copyhold Go.Proofs.Tryz
open Copyhold.Name (Srt insE delE getE isAt)
noncomputable def Qod (f:Fsy) (i:Int):Fsy:=if (Qaa f i).links≤1 then outF f i else putF f (Qhr (Qaa f i))
theorem Qcb (f:Fsy) (d:Int) (s:Txt) (i:Int) (okf:OkF f) (hp:Qan f) (hs:s.length≤1000000):Qai prog 122 [.agg (fsyA f),aI d,aS s,aI i] (.agg (fsyA (enterF f d s i))):=by
 have hl:=hp.1;have hr:=Qaf hp;exact Qae func122 (let R:AV:=.agg (fsyA (enterF f d s i));
 .new fun b1=>.new fun b2=>.u 2 [b1]<|
 .call (Qa2 f d (by omega))<|
 .r 3<|.new fun b3=>.u 2 [b3]<|
 .u 4 [b3]<|
 .call (Qwt (Qaa f d).l s i (Qfa hp d).2 (Qfa hp d).1 hs)<|
 .r 5<|.u 3 [b3]<|
 .u 2 [b1,b3]<|
 .cs (args0:=[.agg (fsyA f),.agg [aI ((Qaa f d).ino),aI ((Qaa f d).kind),aI ((Qaa f d).links),aS ((Qaa f d).text),.sl 2 false ((entL (Qaa f d).l s i).map entA)]]) (Qd4 f (Qbr (Qaa f d) (entL (Qaa f d).l s i)) (Qcg okf hp d) (by omega) hr) sr2<|
 .u 1 [b2]<|
 .fi R [b2])
theorem Qcr (f:Fsy) (d:Int) (s:Txt) (okf:OkF f) (hp:Qan f) (hs:s.length≤1000000):Qai prog 125 [.agg (fsyA f),aI d,aS s] (.agg (fsyA (leaveF f d s))):=by
 have hl:=hp.1;have hr:=Qaf hp;exact Qae func125 (let R:AV:=.agg (fsyA (leaveF f d s));
 .new fun b1=>.new fun b2=>.u 2 [b1]<|
 .call (Qa2 f d (by omega))<|
 .r 3<|.new fun b3=>.u 2 [b3]<|
 .u 3 [b3]<|
 .call (Qwr (Qaa f d).l s (by have:=(Qfa hp d).2;omega) (Qfa hp d).1 hs)<|
 .r 7<|.u 3 [b3]<|
 .u 2 [b1,b3]<|
 .cs (args0:=[.agg (fsyA f),.agg [aI ((Qaa f d).ino),aI ((Qaa f d).kind),aI ((Qaa f d).links),aS ((Qaa f d).text),.sl 2 false ((delL (Qaa f d).l s).map entA)]]) (Qd4 f (Qbr (Qaa f d) (delL (Qaa f d).l s)) (Qcg okf hp d) (by omega) hr) sr2<|
 .u 1 [b2]<|
 .fi R [b2])
theorem Qlq (f:Fsy) (i:Int) (okf:OkF f) (hp:Qan f):Qai prog 124 [.agg (fsyA f),aI i] (.agg (fsyA (Qod f i))):=by
 have hl:=hp.1;have hr:=Qaf hp;have hlk:=Qes hp i;exact Qae func124 (
 .new fun b1=>.new fun b2=>.u 2 [b1]<|
 .call (Qa2 f i (by omega))<|
 .r 3<|.new fun b3=>.u 2 [b3]<|
 .u 3 [b3]<|
 .bd 15 (((Qaa f i).links)≤1) (fun p1=>.u 2 [b1]<|
 .call (Zeb f i (by omega) hr)<|
 .u 1 [b2]<|
 .f (.agg (fsyA (Qod f i))) [b2] (.agg [.sl 5 false ((outF f i).l.map nodA),aI ((outF f i).next)]) (by
  rw [show Qod f i=_ from W1y (by omega)];exact sR))
 <| fun p1=>.run 5 [b3=b3,rng .i64 (((Qaa f i).links)-1),b3=b3] ⟨rfl,Qah,rfl,trivial⟩<|
 .u 2 [b1,b3]<|
 .cs (args0:=[.agg (fsyA f),.agg [aI ((Qaa f i).ino),aI ((Qaa f i).kind),aI (((Qaa f i).links)-1),aS ((Qaa f i).text),.sl 2 false ((Qaa f i).l.map entA)]]) (Qd4 f (Qhr (Qaa f i)) (Qcg okf hp i) (by omega) hr) sr2<|
 .u 1 [b2]<|
 .f (.agg (fsyA (Qod f i))) [b2] (.agg [.sl 5 false ((putF f (Qhr (Qaa f i))).l.map nodA),aI ((putF f (Qhr (Qaa f i))).next)]) (by
  rw [show Qod f i=_ from W1x (by omega)];exact sR))
end Go.Proofs.YtahlldgocpabjaaGreat
