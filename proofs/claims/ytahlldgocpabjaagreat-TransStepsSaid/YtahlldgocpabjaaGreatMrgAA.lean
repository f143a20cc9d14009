import Derived.Test.YtahlldgocpabjaaGreatMrgZ
import Derived.Test.YtahlldgocpabjaaGreatMrgV
import Derived.Test.YtahlldgocpabjaaGreatMrgW
import Derived.Test.YtahlldgocpabjaaGreatMrgA
import Derived.ArgAppend
set_option maxRecDepth 100000
set_option maxHeartbeats 8000000
set_option linter.unusedVariables false
set_option linter.unusedSimpArgs false
namespace Go.Proofs.YtahlldgocpabjaaGreat
open Go Go.RowKit Copyhold Go.Proofs.Tryz
open Copyhold.Name (Srt insE delE getE isAt)
theorem Qlx {f:Fsy} {i z:Int} (hp:Qam f) (hf:midF f):hasB (Qcr f i) z=hasB (Qcj f i) z:=by
 rw [Bool.eq_iff_iff,Qn5 hp hf,Qgq]
theorem over_8 {n m:Nod} (h1:n.kind=2) (h2:¬ m.kind=2):Qcz n m=8:=by
 unfold Qcz;have a:(n.kind==2)=true:=by simpa using h1
 have b:(m.kind==2)=false:=by simpa using h2
 rw [a,b];rfl
theorem over_9 {n m:Nod} (h1:¬ n.kind=2) (h2:m.kind=2):Qcz n m=9:=by
 unfold Qcz;have a:(n.kind==2)=false:=by simpa using h1
 have b:(m.kind==2)=true:=by simpa using h2
 rw [a,b];rfl
theorem Zb0 {n m:Nod} (hm:nodP m) (h:m.kind=2↔n.kind=2) (hl:(m.l.length:Int)>0):Qcz n m=11:=by
 have hk:m.kind=2:=by
  by_cases hk:m.kind=2
  ·exact hk
  ·rw [Qew hm hk] at hl;simp at hl
 unfold Qcz Qcw;have a:(n.kind==2)=true:=by simpa using h.1 hk
 have b:(m.kind==2)=true:=by simpa using hk
 rw [a,b,decide_eq_true hl];rfl
theorem Zjh {n m:Nod} (h:m.kind=2↔n.kind=2) (hl:¬ (m.l.length:Int)>0):Qcz n m=0:=by
 unfold Qcz Qcw;rw [decide_eq_false hl];by_cases hk:n.kind=2
 ·have a:(n.kind==2)=true:=by simpa using hk
  have b:(m.kind==2)=true:=by simpa using h.2 hk
  rw [a,b];rfl
 ·have a:(n.kind==2)=false:=by simpa using hk
  have b:(m.kind==2)=false:=by simpa using fun e=>hk (h.1 e)
  rw [a,b];rfl
theorem Qmo {f:Fsy} {dir:Int} {s:Txt} {to:Int} {t:Txt} {v:Int} (h:mov1 f dir s to t=v) (hv:¬ v=0):Qa8 f dir s to t=v∧movF f dir s to t=f:=by
 have hn:¬ mov1 f dir s to t=0:=by rw [h];exact hv
 exact ⟨by unfold Qa8;rw [if_neg hn,h],if_neg hn⟩
theorem Qv9 {f:Fsy} {dir:Int} {s:Txt} {to:Int} {t:Txt} (okf:OkF f) (T:TreeP f) (h1:mov1 f dir s to t=0) (h6:¬ Qa3 f to t=0) :
  OkF (leaveF f dir s)∧Qam (leaveF f dir s)∧(dir ≠ to∧((Qaa f to).l.length:Int)≥256→Qa8 f dir s to t=12∧movF f dir s to t=f) ∧
   (¬ (dir ≠ to∧((Qaa f to).l.length:Int)≥256)→Qa8 f dir s to t=0∧movF f dir s to t=enterF (leaveF f dir s) to t (lookN f dir s).ino):=by
 have hp:=T.rows;obtain ⟨d,dt,n,j,A⟩:=Qwm hp h1;obtain ⟨e1,e2,e3⟩:=A.mB;obtain ⟨l1,l2,_⟩:=Qdl (s:=s) okf hp A.dir A.kind;have hb:isB dt.l t=false:=by
  cases hb:isB dt.l t with
  | false=>rfl
  | true=>
   obtain ⟨i2,hg⟩:∃ i,getE (lI dt.l) t=some i:=by
    rw [Qee] at hb;cases hg:getE (lI dt.l) t with
    | none=>rw [hg] at hb;cases hb
    | some i=>exact ⟨i,rfl⟩
   obtain ⟨⟨m,hm⟩,_⟩:=T.kid to i2 (Qqc A.to A.kindt hg);exact absurd (Qfg A.to A.kindt A.chkt hg hm).1 h6
 have hfd:Qaa f to=dt:=(Qfl A.to).2;have hE:Qa8 f dir s to t=mov2 f dir s to t:=by unfold Qa8;rw [if_pos h1]
 have h2:mov2 f dir s to t=Qae ((to != dir)&&decide ((dt.l.length:Int)≥256)) 12:=by unfold mov2;rw [if_pos (by rw [e1,hb]),e3]
 have hF:movF f dir s to t=if mov2 f dir s to t=0 then enterF (leaveF f dir s) to t n.ino else f:=by
  have e0:mov0 f dir s to t n (movB f to t) (Qaa f (movI f to t))=enterF (leaveF f dir s) to t n.ino:=by
   unfold mov0;rw [if_neg (by rw [e1,hb];decide)]
  unfold movF;rw [if_pos h1,if_neg (fun h=>by rw [e1,hb] at h;cases h.1),A.look,e0]
 rw [hfd,hE,hF,A.look];refine ⟨l1,l2,fun ⟨ha,hl⟩=>?_,fun h=>?_⟩
 ·have hv:mov2 f dir s to t=12:=by
   rw [h2,decide_eq_true hl,show (to != dir)=true from by simpa using fun e=>ha e.symm];rfl
  rw [hv];exact ⟨rfl,rfl⟩
 ·have hv:mov2 f dir s to t=0:=by
   rw [h2];by_cases ha:dir=to
   ·rw [show (to != dir)=false from by simpa using ha.symm];rfl
   ·rw [decide_eq_false (fun hl=>h ⟨ha,hl⟩),Bool.and_false];rfl
  rw [hv];exact ⟨rfl,rfl⟩
theorem Qwa {f:Fsy} {dir:Int} {s:Txt} {to:Int} {t:Txt} (okf:OkF f) (T:TreeP f) (h1:mov1 f dir s to t=0) (h6:Qa3 f to t=0) :
  nodP (lookN f to t)∧((lookN f to t).ino=(lookN f dir s).ino→Qa8 f dir s to t=0∧movF f dir s to t=f) ∧
  (¬ (lookN f to t).ino=(lookN f dir s).ino→Qa8 f dir s to t=Qcz (lookN f dir s) (lookN f to t)∧(¬ Qcz (lookN f dir s) (lookN f to t)=0→movF f dir s to t=f) ∧
   (Qcz (lookN f dir s) (lookN f to t)=0→movF f dir s to t=enterF (leaveF (Qbd f to t (lookN f to t)) dir s) to t (lookN f dir s).ino ∧
    OkF (leaveF f to t)∧Qam (leaveF f to t)∧Qmt (leaveF f to t) (lookN f to t).ino=Qbd f to t (lookN f to t)∧OkF (Qbd f to t (lookN f to t))∧Qam (Qbd f to t (lookN f to t)) ∧
    OkF (leaveF (Qbd f to t (lookN f to t)) dir s)∧Qam (leaveF (Qbd f to t (lookN f to t)) dir s)∧((Qaa (Qbd f to t (lookN f to t)) to).l.length:Int)<256)):=by
 have hp:=T.rows;obtain ⟨d,dt,n,j,A⟩:=Qwm hp h1;obtain ⟨e1,e2,e3⟩:=A.mB;obtain ⟨dt',i2,m,b1,b2,b3,b4,b5⟩:=(Qjj hp).1 h6;have hdt:dt'=dt:=by rw [A.to] at b1;exact (Option.some.inj b1).symm
 subst hdt;have hlm:=(Qfg b1 b2 b3 b4 b5).2;have hb:isB dt'.l t=true:=by rw [Qee,b4];rfl
 have hmi:=Qc1 b5;have hnj:=A.nino;have hI:getI dt'.l t=i2:=by rw [Qe9,b4];rfl
 have hfm:Qaa f (getI dt'.l t)=m:=by rw [hI];exact (Qfl b5).2
 have hE:Qa8 f dir s to t=mov2 f dir s to t:=by unfold Qa8;rw [if_pos h1]
 rw [hlm,A.look];refine ⟨(Qbm hp b5).1,fun he=>?_,fun he=>?_⟩
 ·have hij:movI f to t=n.ino:=by rw [e2,hI,← hmi];exact he
  refine ⟨?_,?_⟩
  ·rw [hE];unfold mov2;rw [if_neg (by rw [e1,hb];decide),if_pos (by rw [A.look];exact hij)]
  ·unfold movF;rw [if_pos h1,if_pos ⟨by rw [e1,hb],by rw [A.look];exact hij⟩]
 ·have hij:¬ movI f to t=n.ino:=by rw [e2,hI,← hmi];exact he
  have h2:mov2 f dir s to t=Qcz n m:=by
   unfold mov2;rw [if_neg (by rw [e1,hb];decide),if_neg (by rw [A.look];exact hij),A.look,e2,hfm]
  have hF:movF f dir s to t=if Qcz n m=0 then enterF (leaveF (Qbd f to t m) dir s) to t n.ino else f:=by
   have e0:mov0 f dir s to t n (movB f to t) (Qaa f (movI f to t))=enterF (leaveF (Qbd f to t m) dir s) to t n.ino:=by
    unfold mov0;rw [if_pos (by rw [e1,hb]),e2,hfm]
   unfold movF;rw [if_pos h1,if_neg (fun h=>hij (by have:=h.2;rw [A.look] at this;exact this)),h2,A.look,e0]
  refine ⟨hE.trans h2,fun h=>by rw [hF,if_neg h],fun h=>?_⟩;obtain ⟨K,k2,k3,k4⟩:=Qm1 okf T b1 b2 b4 b5 (Qmj h).1;obtain ⟨w1,w2,w3,w4,w5⟩:=Qlt (s:=t) okf hp b1 b2 (n:=m) (.inl (by rw [hmi];exact b5));obtain ⟨l1,l2,l3,l4,l5⟩:=Qdl (s:=t) okf hp b1 b2;have hH:=Zg4 okf hp h1 (fun _=>by rw [A.look,e2,hfm];exact h);rw [e1,e2,hfm,hb] at hH;obtain ⟨q1,q2,q3,q4⟩:=hH.1 rfl;refine ⟨by rw [hF,if_pos h],l1,l2,Qr7 ?_,w1,w2,q3,q4,?_⟩
  ·refine (Qfl ?_).2;rw [hmi,l5,if_neg k2];exact b5
  ·have hst:=Qcu (Qc6 (Qbm hp b1).1 b2).2;have hrow:=(Qc6 (Qbm hp b1).1 b2).2;have hto:atF (Qbd f to t m) to=some (Qbk dt' (delL dt'.l t)):=by rw [w5,if_neg (fun e=>k2 (by rw [← hmi];exact e.symm)),if_pos rfl]
   rw [(Qfl hto).2];show ((delL dt'.l t).length:Int)<256;have:=Qjt hst b4;have:=hrow.1;omega
theorem Quh (f:Fsy) (i t:Int) (okf:OkF f) (hf:midF f):Qaf prog 123 [.agg (fsyA f),aI i,aI t] (aB (hasB (Qcr f t) i)):=by
 exact Qac func123 (let R:AV:=aB (hasB (Qcr f t) i);
 .new fun b1=>.r 1<|.u 2 [b1]<|
 .call (Qlw f t okf hf)<|
 .r 1<|.call (Qjn (Qcr f t) i (by have:=Qre hf t;omega))<|
 .r 1<|.fi R [])
theorem Qye (f:Fsy) (dir:Int) (s:Txt) (to:Int) (t:Txt) (okf:OkF f) (T:TreeP f) (hp:Qam f) (hf:midF f) (hs:s.length≤1000000) (ht:t.length≤1000000):Qaf prog 74 [.agg (fsyA f),aI dir,aS s,aI to,aS t] (.tup [.agg (fsyA (movF f dir s to t)),aI (Qa8 f dir s to t)]):=by
 have hl:=hp.1;have hr:=Qad hp;exact Qac func74 (
 .new fun b1=>.new fun b2=>.r 1<|.u 3 [b1]<|
 .call (Qdv f dir s hp hs)<|
 .r 3<|.new fun b3=>.u 2 [b3]<|
 .r 2<|.br 30 ((Qa3 f dir s) != 0) (fun q1=>have p1:=bneT q1;.u 4 [b1,b2]<|
 .f (.tup [.agg (fsyA (movF f dir s to t)),aI (Qa8 f dir s to t)]) [b2] (.tup [.agg (fsyA f),aI (Qa3 f dir s)]) (by
  have hm:=Qmo (f:=f) (dir:=dir) (s:=s) (to:=to) (t:=t) (by unfold mov1;exact Qcx (bneT q1)) (bneT q1);rw [hm.1,hm.2];exact sR))
 <| fun q1=>have p1:=bneF q1;have g1:Qa3 f dir s=0:=bneF q1;.u 2 [b1]<|
 .call (Qgr f to hp)<|
 .r 3<|.new fun b4=>.u 2 [b4]<|
 .r 2<|.br 40 ((dirE f to) != 0) (fun q2=>have p2:=bneT q2;.u 4 [b1,b2]<|
 .f (.tup [.agg (fsyA (movF f dir s to t)),aI (Qa8 f dir s to t)]) [b2] (.tup [.agg (fsyA f),aI (dirE f to)]) (by
  have hm:=Qmo (f:=f) (dir:=dir) (s:=s) (to:=to) (t:=t) (by unfold mov1;rw [Qay g1];exact Qcx (bneT q2)) (bneT q2);rw [hm.1,hm.2];exact sR))
 <| fun q2=>have p2:=bneF q2;have g2:dirE f to=0:=bneF q2;.r 1<|.call (Qdw t (by omega))<|
 .r 1<|.r 2<|.br 46 ((Qah t) != 0) (fun q3=>have p3:=bneT q3;.u 4 [b1,b2]<|
 .f (.tup [.agg (fsyA (movF f dir s to t)),aI (Qa8 f dir s to t)]) [b2] (.tup [.agg (fsyA f),aI (Qah t)]) (by
  have hm:=Qmo (f:=f) (dir:=dir) (s:=s) (to:=to) (t:=t) (by unfold mov1;rw [Qay g1,Qay g2];exact Qcx (bneT q3)) (bneT q3);rw [hm.1,hm.2];exact sR))
 <| fun q3=>have p3:=bneF q3;have g3:Qah t=0:=bneF q3;.u 4 [b3]<|
 .br 52 (((lookN f dir s).kind)==2) (fun q4=>have p4:=beqT q4;have g4b:=q4;have g4:(lookN f dir s).kind=2:=beqT q4;.u 5 [b3]<|
 .br 57 (to==((lookN f dir s).ino)) (fun q5=>have p5:=beqT q5;.r 7<|.u 3 [b1,b2]<|
 .f (.tup [.agg (fsyA (movF f dir s to t)),aI (Qa8 f dir s to t)]) [b2] (.tup [.agg (fsyA f),aI 13]) (by
  have hw:Qbt f to (lookN f dir s)=true:=(by unfold Qbt;rw [g4b,q5];rfl)
  have hm:=Qmo (f:=f) (dir:=dir) (s:=s) (to:=to) (t:=t) (by unfold mov1;rw [Qay g1,Qay g2,Qay g3,hw];first | done | rfl) (by decide);rw [hm.1,hm.2];exact sR))
 <| fun q5=>have p5:=beqF q5;have g5:=q5;.u 4 [b1,b3]<|
 .call (Quh f to (lookN f dir s).ino okf hf)<|
 .r 2<|.br 64 (hasB (Qcr f (lookN f dir s).ino) to) (fun q6=>have p6:=booT q6;.u 3 [b1,b2]<|
 .f (.tup [.agg (fsyA (movF f dir s to t)),aI (Qa8 f dir s to t)]) [b2] (.tup [.agg (fsyA f),aI 13]) (by
  have hw:Qbt f to (lookN f dir s)=true:=(by unfold Qbt;rw [g4b,g5,← Qlx hp hf,q6];rfl)
  have hm:=Qmo (f:=f) (dir:=dir) (s:=s) (to:=to) (t:=t) (by unfold mov1;rw [Qay g1,Qay g2,Qay g3,hw];first | done | rfl) (by decide);rw [hm.1,hm.2];exact sR))
 <| fun q6=>have p6:=booF q6;have hw:Qbt f to (lookN f dir s)=false:=(by unfold Qbt;rw [g4b,g5,← Qlx hp hf,q6];rfl);have h1:mov1 f dir s to t=0:=(by unfold mov1;rw [Qay g1,Qay g2,Qay g3,hw];rfl);.u 1 [b1]<|
 .new fun b5=>.u 1 [b5]<|
 .u 3 [b1]<|
 .call (Qdv f to t hp ht)<|
 .r 3<|.new fun b6=>.u 2 [b6]<|
 .r 3<|.br 76 ((Qa3 f to t)==0) (fun q7=>have p7:=beqT q7;have g6:Qa3 f to t=0:=beqT q7;have hB:=Qwa okf T h1 g6;.u 6 [b6,b3]<|
 .br 82 (((lookN f to t).ino)==((lookN f dir s).ino)) (fun q8=>have p8:=beqT q8;have hi:=beqT q8;.u 3 [b1,b2]<|
 .f (.tup [.agg (fsyA (movF f dir s to t)),aI (Qa8 f dir s to t)]) [b2] (.tup [.agg (fsyA f),aI 0]) (by
  have hc:=hB.2.1 hi;rw [hc.1,hc.2];exact sR))
 <| fun q8=>have p8:=beqF q8;have hi:=beqF q8;have hB2:=hB.2.2 hi;.r 2<|.is 85 q7<|.u 4 [b3]<|
 .is 89 q4<|.u 4 [b6]<|
 .br 93 (((lookN f to t).kind) != 2) (fun q9=>have p9:=bneT q9;have g7:¬ (lookN f to t).kind=2:=bneT q9;.u 3 [b1,b2]<|
 .f (.tup [.agg (fsyA (movF f dir s to t)),aI (Qa8 f dir s to t)]) [b2] (.tup [.agg (fsyA f),aI 8]) (by
  have e:Qcz (lookN f dir s) (lookN f to t)=8:=over_8 g4 g7;rw [hB2.1,hB2.2.1 (by rw [e];decide),e];exact sR))
 <| fun q9=>have p9:=bneF q9;have g7:(lookN f to t).kind=2:=bneF q9;.u 4 [b3]<|
 .is 98 (show (((lookN f dir s).kind) != 2)=false from (by simpa [bne] using g4))<|.r 4<|.u 3 [b6]<|
 .lm 106 ((lookN f to t).l) entA<|.r 1<|.bd 107 ((((lookN f to t).l).length:Int)>0) (fun p10=>.u 3 [b1,b2]<|
 .f (.tup [.agg (fsyA (movF f dir s to t)),aI (Qa8 f dir s to t)]) [b2] (.tup [.agg (fsyA f),aI 11]) (by
  have e:Qcz (lookN f dir s) (lookN f to t)=11:=Zb0 hB.1 (by first | exact ⟨fun _=>g4,fun _=>g7⟩ | exact ⟨fun h=>absurd h g7,fun h=>absurd h g4⟩) (by omega);rw [hB2.1,hB2.2.1 (by rw [e];decide),e];exact sR))
 <| fun p10=>have ho:=Zjh (n:=lookN f dir s) (m:=lookN f to t) (by first | exact ⟨fun _=>g4,fun _=>g7⟩ | exact ⟨fun h=>absurd h g7,fun h=>absurd h g4⟩) (by omega);have gB:=hB2.2.2 ho;.ord [0,1,2,4,5,3,6,7]<|.u 5 [b1,b6]<|
 .call (Qca f to t okf hp ht)<|
 .call ((show Qaf _ _ _ (.agg (fsyA (Qbd f to t (lookN f to t)))) from gB.2.2.2.1 ▸ Qkd (leaveF f to t) (lookN f to t).ino gB.2.1 gB.2.2.1))<|
 .u 1 [b5]<|
 .u 2 [b5]<|
 .call (Qa9 (Qbd f to t (lookN f to t)) to (by have:=gB.2.2.2.2.2.1.1;omega))<|
 .r 3<|.new fun b7=>.u 2 [b7]<|
 .r 4<|.bn 125 dir to (fun p11=>.u 3 [b7]<|
 .lm 128 ((Qaa (Qbd f to t (lookN f to t)) to).l) entA<|.r 2<|.is 130 (show (decide ((((Qaa (Qbd f to t (lookN f to t)) to).l).length:Int)≥256))=false from (decide_eq_false (by have:=gB.2.2.2.2.2.2.2.2;omega)))<|.ord [0,1,2,4,5,6,7,3,8,9,10]<|.u 7 [b5,b3]<|
 .call (Qca (Qbd f to t (lookN f to t)) dir s gB.2.2.2.2.1 gB.2.2.2.2.2.1 hs)<|
 .call (Qbw (leaveF (Qbd f to t (lookN f to t)) dir s) to t (lookN f dir s).ino gB.2.2.2.2.2.2.1 gB.2.2.2.2.2.2.2.1 ht)<|
 .u 2 [b2]<|
 .f (.tup [.agg (fsyA (movF f dir s to t)),aI (Qa8 f dir s to t)]) [b2] (.tup [.agg [.sl 5 false ((enterF (leaveF (Qbd f to t (lookN f to t)) dir s) to t (lookN f dir s).ino).l.map nodA),aI ((enterF (leaveF (Qbd f to t (lookN f to t)) dir s) to t (lookN f dir s).ino).next)],aI 0]) (by
  rw [hB2.1,ho,gB.1];exact sR))
 <| fun p11=>.r 5<|.ord [0,1,2,4,5,6,7,3,8,9,10]<|.u 7 [b5,b3]<|
 .call (Qca (Qbd f to t (lookN f to t)) dir s gB.2.2.2.2.1 gB.2.2.2.2.2.1 hs)<|
 .call (Qbw (leaveF (Qbd f to t (lookN f to t)) dir s) to t (lookN f dir s).ino gB.2.2.2.2.2.2.1 gB.2.2.2.2.2.2.2.1 ht)<|
 .u 2 [b2]<|
 .f (.tup [.agg (fsyA (movF f dir s to t)),aI (Qa8 f dir s to t)]) [b2] (.tup [.agg [.sl 5 false ((enterF (leaveF (Qbd f to t (lookN f to t)) dir s) to t (lookN f dir s).ino).l.map nodA),aI ((enterF (leaveF (Qbd f to t (lookN f to t)) dir s) to t (lookN f dir s).ino).next)],aI 0]) (by
  rw [hB2.1,ho,gB.1];exact sR))
 <| fun q7=>have p7:=beqF q7;have g6:¬ Qa3 f to t=0:=beqF q7;have gC:=Qv9 okf T h1 g6;.r 6<|.r 2<|.is 85 q7<|.u 2 [b5]<|
 .call (Qa9 f to (by omega))<|
 .r 3<|.new fun b8=>.u 2 [b8]<|
 .r 4<|.br 125 (dir != to) (fun q12=>have p12:=bneT q12;.u 3 [b8]<|
 .lm 128 ((Qaa f to).l) entA<|.r 2<|.bd 130 ((((Qaa f to).l).length:Int)≥256) (fun p13=>.u 3 [b1,b2]<|
 .f (.tup [.agg (fsyA (movF f dir s to t)),aI (Qa8 f dir s to t)]) [b2] (.tup [.agg (fsyA f),aI 12]) (by
  have hc:=gC.2.2.1 ⟨by simpa using q12,by omega⟩;rw [hc.1,hc.2];exact sR))
 <| fun p13=>.ord [0,1,2,4,5,6,7,3,8,9,10]<|.u 7 [b5,b3]<|
 .call (Qca f dir s okf hp hs)<|
 .call (Qbw (leaveF f dir s) to t (lookN f dir s).ino (gC.1) (gC.2.1) ht)<|
 .u 2 [b2]<|
 .f (.tup [.agg (fsyA (movF f dir s to t)),aI (Qa8 f dir s to t)]) [b2] (.tup [.agg [.sl 5 false ((enterF (leaveF f dir s) to t (lookN f dir s).ino).l.map nodA),aI ((enterF (leaveF f dir s) to t (lookN f dir s).ino).next)],aI 0]) (by
  have hc:=gC.2.2.2 (fun h=>by have:=h.2;omega);rw [hc.1,hc.2];exact sR))
 <| fun q12=>have p12:=bneF q12;.r 5<|.ord [0,1,2,4,5,6,7,3,8,9,10]<|.u 7 [b5,b3]<|
 .call (Qca f dir s okf hp hs)<|
 .call (Qbw (leaveF f dir s) to t (lookN f dir s).ino (gC.1) (gC.2.1) ht)<|
 .u 2 [b2]<|
 .f (.tup [.agg (fsyA (movF f dir s to t)),aI (Qa8 f dir s to t)]) [b2] (.tup [.agg [.sl 5 false ((enterF (leaveF f dir s) to t (lookN f dir s).ino).l.map nodA),aI ((enterF (leaveF f dir s) to t (lookN f dir s).ino).next)],aI 0]) (by
  have hc:=gC.2.2.2 (fun h=>h.1 (by simpa using q12));rw [hc.1,hc.2];exact sR))
 <| fun q4=>have p4:=beqF q4;have g4b:=q4;have g4:¬ (lookN f dir s).kind=2:=beqF q4;have hw:Qbt f to (lookN f dir s)=false:=(by unfold Qbt;rw [q4];rfl);have h1:mov1 f dir s to t=0:=(by unfold mov1;rw [Qay g1,Qay g2,Qay g3,hw];rfl);.r 12<|.u 1 [b1]<|
 .new fun b9=>.u 1 [b9]<|
 .u 3 [b1]<|
 .call (Qdv f to t hp ht)<|
 .r 3<|.new fun b10=>.u 2 [b10]<|
 .r 3<|.br 76 ((Qa3 f to t)==0) (fun q14=>have p14:=beqT q14;have g6:Qa3 f to t=0:=beqT q14;have hB:=Qwa okf T h1 g6;.u 6 [b10,b3]<|
 .br 82 (((lookN f to t).ino)==((lookN f dir s).ino)) (fun q15=>have p15:=beqT q15;have hi:=beqT q15;.u 3 [b1,b2]<|
 .f (.tup [.agg (fsyA (movF f dir s to t)),aI (Qa8 f dir s to t)]) [b2] (.tup [.agg (fsyA f),aI 0]) (by
  have hc:=hB.2.1 hi;rw [hc.1,hc.2];exact sR))
 <| fun q15=>have p15:=beqF q15;have hi:=beqF q15;have hB2:=hB.2.2 hi;.r 2<|.is 85 q14<|.u 4 [b3]<|
 .is 89 q4<|.r 4<|.u 4 [b3]<|
 .is 98 (show (((lookN f dir s).kind) != 2)=true from (by simpa [bne] using g4))<|.u 4 [b10]<|
 .br 102 (((lookN f to t).kind)==2) (fun q16=>have p16:=beqT q16;have g7:(lookN f to t).kind=2:=beqT q16;.u 3 [b1,b2]<|
 .f (.tup [.agg (fsyA (movF f dir s to t)),aI (Qa8 f dir s to t)]) [b2] (.tup [.agg (fsyA f),aI 9]) (by
  have e:Qcz (lookN f dir s) (lookN f to t)=9:=over_9 g4 g7;rw [hB2.1,hB2.2.1 (by rw [e];decide),e];exact sR))
 <| fun q16=>have p16:=beqF q16;have g7:¬ (lookN f to t).kind=2:=beqF q16;.u 3 [b10]<|
 .lm 106 ((lookN f to t).l) entA<|.r 1<|.bd 107 ((((lookN f to t).l).length:Int)>0) (fun p17=>.u 3 [b1,b2]<|
 .f (.tup [.agg (fsyA (movF f dir s to t)),aI (Qa8 f dir s to t)]) [b2] (.tup [.agg (fsyA f),aI 11]) (by
  have e:Qcz (lookN f dir s) (lookN f to t)=11:=Zb0 hB.1 (by first | exact ⟨fun _=>g4,fun _=>g7⟩ | exact ⟨fun h=>absurd h g7,fun h=>absurd h g4⟩) (by omega);rw [hB2.1,hB2.2.1 (by rw [e];decide),e];exact sR))
 <| fun p17=>have ho:=Zjh (n:=lookN f dir s) (m:=lookN f to t) (by first | exact ⟨fun _=>g4,fun _=>g7⟩ | exact ⟨fun h=>absurd h g7,fun h=>absurd h g4⟩) (by omega);have gB:=hB2.2.2 ho;.ord [0,1,2,4,5,3,6,7]<|.u 5 [b1,b10]<|
 .call (Qca f to t okf hp ht)<|
 .call ((show Qaf _ _ _ (.agg (fsyA (Qbd f to t (lookN f to t)))) from gB.2.2.2.1 ▸ Qkd (leaveF f to t) (lookN f to t).ino gB.2.1 gB.2.2.1))<|
 .u 1 [b9]<|
 .u 2 [b9]<|
 .call (Qa9 (Qbd f to t (lookN f to t)) to (by have:=gB.2.2.2.2.2.1.1;omega))<|
 .r 3<|.new fun b11=>.u 2 [b11]<|
 .r 4<|.bn 125 dir to (fun p18=>.u 3 [b11]<|
 .lm 128 ((Qaa (Qbd f to t (lookN f to t)) to).l) entA<|.r 2<|.is 130 (show (decide ((((Qaa (Qbd f to t (lookN f to t)) to).l).length:Int)≥256))=false from (decide_eq_false (by have:=gB.2.2.2.2.2.2.2.2;omega)))<|.ord [0,1,2,4,5,6,7,3,8,9,10]<|.u 7 [b9,b3]<|
 .call (Qca (Qbd f to t (lookN f to t)) dir s gB.2.2.2.2.1 gB.2.2.2.2.2.1 hs)<|
 .call (Qbw (leaveF (Qbd f to t (lookN f to t)) dir s) to t (lookN f dir s).ino gB.2.2.2.2.2.2.1 gB.2.2.2.2.2.2.2.1 ht)<|
 .u 2 [b2]<|
 .f (.tup [.agg (fsyA (movF f dir s to t)),aI (Qa8 f dir s to t)]) [b2] (.tup [.agg [.sl 5 false ((enterF (leaveF (Qbd f to t (lookN f to t)) dir s) to t (lookN f dir s).ino).l.map nodA),aI ((enterF (leaveF (Qbd f to t (lookN f to t)) dir s) to t (lookN f dir s).ino).next)],aI 0]) (by
  rw [hB2.1,ho,gB.1];exact sR))
 <| fun p18=>.r 5<|.ord [0,1,2,4,5,6,7,3,8,9,10]<|.u 7 [b9,b3]<|
 .call (Qca (Qbd f to t (lookN f to t)) dir s gB.2.2.2.2.1 gB.2.2.2.2.2.1 hs)<|
 .call (Qbw (leaveF (Qbd f to t (lookN f to t)) dir s) to t (lookN f dir s).ino gB.2.2.2.2.2.2.1 gB.2.2.2.2.2.2.2.1 ht)<|
 .u 2 [b2]<|
 .f (.tup [.agg (fsyA (movF f dir s to t)),aI (Qa8 f dir s to t)]) [b2] (.tup [.agg [.sl 5 false ((enterF (leaveF (Qbd f to t (lookN f to t)) dir s) to t (lookN f dir s).ino).l.map nodA),aI ((enterF (leaveF (Qbd f to t (lookN f to t)) dir s) to t (lookN f dir s).ino).next)],aI 0]) (by
  rw [hB2.1,ho,gB.1];exact sR))
 <| fun q14=>have p14:=beqF q14;have g6:¬ Qa3 f to t=0:=beqF q14;have gC:=Qv9 okf T h1 g6;.r 6<|.r 2<|.is 85 q14<|.u 2 [b9]<|
 .call (Qa9 f to (by omega))<|
 .r 3<|.new fun b12=>.u 2 [b12]<|
 .r 4<|.br 125 (dir != to) (fun q19=>have p19:=bneT q19;.u 3 [b12]<|
 .lm 128 ((Qaa f to).l) entA<|.r 2<|.bd 130 ((((Qaa f to).l).length:Int)≥256) (fun p20=>.u 3 [b1,b2]<|
 .f (.tup [.agg (fsyA (movF f dir s to t)),aI (Qa8 f dir s to t)]) [b2] (.tup [.agg (fsyA f),aI 12]) (by
  have hc:=gC.2.2.1 ⟨by simpa using q19,by omega⟩;rw [hc.1,hc.2];exact sR))
 <| fun p20=>.ord [0,1,2,4,5,6,7,3,8,9,10]<|.u 7 [b9,b3]<|
 .call (Qca f dir s okf hp hs)<|
 .call (Qbw (leaveF f dir s) to t (lookN f dir s).ino (gC.1) (gC.2.1) ht)<|
 .u 2 [b2]<|
 .f (.tup [.agg (fsyA (movF f dir s to t)),aI (Qa8 f dir s to t)]) [b2] (.tup [.agg [.sl 5 false ((enterF (leaveF f dir s) to t (lookN f dir s).ino).l.map nodA),aI ((enterF (leaveF f dir s) to t (lookN f dir s).ino).next)],aI 0]) (by
  have hc:=gC.2.2.2 (fun h=>by have:=h.2;omega);rw [hc.1,hc.2];exact sR))
 <| fun q19=>have p19:=bneF q19;.r 5<|.ord [0,1,2,4,5,6,7,3,8,9,10]<|.u 7 [b9,b3]<|
 .call (Qca f dir s okf hp hs)<|
 .call (Qbw (leaveF f dir s) to t (lookN f dir s).ino (gC.1) (gC.2.1) ht)<|
 .u 2 [b2]<|
 .f (.tup [.agg (fsyA (movF f dir s to t)),aI (Qa8 f dir s to t)]) [b2] (.tup [.agg [.sl 5 false ((enterF (leaveF f dir s) to t (lookN f dir s).ino).l.map nodA),aI ((enterF (leaveF f dir s) to t (lookN f dir s).ino).next)],aI 0]) (by
  have hc:=gC.2.2.2 (fun h=>h.1 (by simpa using q19));rw [hc.1,hc.2];exact sR))
end Go.Proofs.YtahlldgocpabjaaGreat

set_option maxRecDepth 100000
namespace Go.Proofs.YtahlldgocpabjaaGreat
open Go.RowKit Copyhold
theorem Zit:Elem Tryz.prog 198 5 (.int .u8 0) 1 1:=⟨by kernel_rfl,by kernel_rfl,rfl,by decide⟩
def Qco (b:UInt8):Value:=.int .u8 (b.toNat:Int)
def Brow (w:World) (base:Nat) (v:Value) (l:List UInt8):Prop:=
 (v=.slice none 0 0∧l=[])∨∃ g cap,v=.slice (some ⟨g,0,none⟩) l.length cap∧base≤g∧g<w.heap.size∧l.length≤cap∧cap≤maxLen ∧
  (∀ j,j<cap→(w.cell? ⟨g,j,none⟩).isSome=true)∧(∀ j,j<cap→w.frozen? ⟨g,j,none⟩=false)∧∀ j x,l[j]?=some x→w.cell? ⟨g,j,none⟩=some (Qco x)
theorem Brow.shape {w:World} {base:Nat} {v:Value} {l:List UInt8} (h:Brow w base v l):∃ A c,v=.slice A l.length c:=by
 rcases h with ⟨rfl,rfl⟩ | ⟨g,cap,rfl,_⟩
 ·exact ⟨none,0,rfl⟩
 ·exact ⟨_,cap,rfl⟩
theorem Brow.alloc {w:World} {base:Nat} {v:Value} {l:List UInt8} (h:Brow w base v l) (o:Obj):Brow (w.alloc o) base v l:=by
 rcases h with h | ⟨g,cap,rfl,hb,hg,hl,hc,h1,h2,h3⟩
 ·exact .inl h
 ·refine .inr ⟨g,cap,rfl,hb,by simp;omega,hl,hc,fun j hj=>?_,fun j hj=>?_,fun j x hx=>?_⟩
  ·rw [World.cell?_alloc_lt _ _ _ hg];exact h1 j hj
  ·rw [World.frozen?_of_block (Below.heap_alloc w o g hg)];exact h2 j hj
  ·rw [World.cell?_alloc_lt _ _ _ hg];exact h3 j x hx
theorem Brow.made (w:World) (l:List UInt8) (hl:l.length≤1048576):Brow (Lib.bytesWorld w 5 ⟨l.toArray⟩) w.heap.size (.slice (some ⟨w.heap.size,0,none⟩) l.length (grownCap w l.length 0 5)) l:=by
 have hsz:(⟨l.toArray⟩:ByteArray).size=l.length:=by simp [ByteArray.size]
 have hge:=grownCap_ge w l.length 0 5;have hcs:(Lib.bytesCells w 5 ⟨l.toArray⟩).size=grownCap w l.length 0 5:=by
  simp [Lib.bytesCells,hsz];omega
 refine .inr ⟨w.heap.size,_,rfl,Nat.le_refl _,by rw [Lib.bytesWorld_size];omega,hge,grownCap_le_maxLen w _ _ _ (by unfold maxLen;omega),fun j hj=>?_,fun j hj=>?_,fun j x hx=>?_⟩
 ·simp only [World.cell?,Lib.bytesWorld_at_new];rw [← hcs] at hj;simp [hj]
 ·simp only [World.frozen?,Lib.bytesWorld_at_new];rw [← hcs] at hj;simp;omega
 ·obtain ⟨hj,rfl⟩:=List.getElem?_eq_some_iff.1 hx;exact Qzm w _ l j hj
theorem Brow.back {w:World} {base:Nat} {v:Value} {l:List UInt8} (h:Brow w base v l):(convert 198 9 v).run Tryz.prog w=.ok (.string ⟨l.toArray⟩) w:=by
 rcases h with ⟨rfl,rfl⟩ | ⟨g,cap,rfl,hb,hg,hl,hc,h1,h2,h3⟩
 ·exact run_convert_bytes_nil w 198 5 rfl rfl 0 0 9 rfl
 ·exact run_convert_bytes_back w _ _ 5 _ _ l rfl rfl rfl fun j hj=>by
   rw [Qbj,Nat.zero_add];exact h3 j _ (List.getElem?_eq_getElem hj)
theorem Brow.store {w:World} {base g cap:Nat} {l:List UInt8} (h:Brow w base (.slice (some ⟨g,0,none⟩) l.length cap) l) (k:Nat) (x:UInt8) (hk:k<l.length) :
  base≤g∧(∃ u,w.cell? ⟨g,k,none⟩=some u)∧w.frozen? ⟨g,k,none⟩=false∧Brow (w.setCell ⟨g,k,none⟩ (Qco x)) base (.slice (some ⟨g,0,none⟩) l.length cap) (l.set k x):=by
 rcases h with ⟨h,rfl⟩ | ⟨g',cap',he,hb,hg,hl,hc,h1,h2,h3⟩
 ·simp at hk
 ·simp only [Value.slice.injEq,Option.some.injEq,Addr.mk.injEq,and_true,true_and] at he;obtain ⟨rfl,rfl⟩:=he;have hc0:=h3 k l[k] (List.getElem?_eq_getElem hk);refine ⟨hb,⟨_,hc0⟩,h2 k (by omega),.inr ⟨g,cap,by rw [List.length_set],hb,by simpa using hg,by rw [List.length_set];exact hl,hc,fun j hj=>?_,fun j hj=>?_,fun j y hy=>?_⟩⟩
  ·by_cases hjk:k=j
   ·subst hjk;rw [World.cell?_setCell_same _ _ _ hc0];rfl
   ·rw [World.cell?_setCell_other _ _ _ _ (by intro e;simp at e<;>exact hjk e)];exact h1 j hj
  ·have:=h2 j hj;simpa [go_sem] using this
  ·by_cases hjk:k=j
   ·subst hjk;rw [World.cell?_setCell_same _ _ _ hc0];rw [List.getElem?_set_self hk] at hy;injection hy with hy
    subst hy;rfl
   ·rw [World.cell?_setCell_other _ _ _ _ (by intro e;simp at e<;>exact hjk e)];rw [List.getElem?_set_ne hjk] at hy;exact h3 j y hy
theorem Brow.append {w:World} {base:Nat} {v:Value} {l:List UInt8} (h:Brow w base v l) (x:UInt8) (hl:l.length≤1048576) (hbase:base≤w.heap.size) :
  ∃ v' w',(Builtin.append_ #[198,198] 198 #[v,.slice (some ⟨w.heap.size,0,none⟩) 1 1]).run Tryz.prog (w.alloc (.cells #[Qco x] 5))=.ok v' w'∧Brow w' base v' (l++[x])∧Below base w w':=by
 obtain ⟨ht,hinf,hzs,hsz⟩:=Zit;obtain ⟨i,hi,hz,hsize,hby⟩:=Qf5 hinf;have hnews:=cell_one_new w (Qco x) 5;have hbW:Below base w (w.alloc (.cells #[Qco x] 5)):=(Below.refl _ _).alloc hbase _;have h1c:∀ u∈[Qco x],u.oneCell'=true:=fun u hu=>by simp at hu;subst hu;rfl
 have hnew:∀ (W:World) (old:Nat),old<l.length+1→W.heap.size=w.heap.size+1→Below base w W→Brow (W.drew.alloc (.cells ((l.map Qco).toArray++#[Qco x]++Builtin.zeroCells (Value.int .u8 0).cells (grownCap W (l.length+1) old 5-(l.length+1))) 5)) base
   (.slice (some ⟨W.heap.size,0,none⟩) (l.length+1) (grownCap W (l.length+1) old 5)) (l++[x])∧Below base w (W.drew.alloc (.cells ((l.map Qco).toArray++#[Qco x]++Builtin.zeroCells (Value.int .u8 0).cells (grownCap W (l.length+1) old 5-(l.length+1))) 5)):=by
  intro W old ho hs hB;have hge:=grownCap_ge W (l.length+1) old 5;have hcm:=grownCap_le_maxLen W (l.length+1) old 5 (by unfold maxLen;omega);have hcell:=Zis W.drew ((l.map Qco).toArray++#[Qco x]++Builtin.zeroCells (Value.int .u8 0).cells (grownCap W (l.length+1) old 5-(l.length+1))) 5;have hcsz:((l.map Qco).toArray++#[Qco x]++Builtin.zeroCells (Value.int .u8 0).cells (grownCap W (l.length+1) old 5-(l.length+1))).size=grownCap W (l.length+1) old 5:=by
   simp [size_zeroCells];have:(Value.int .u8 0).cells.size=1:=rfl;rw [this];omega
  refine ⟨.inr ⟨W.heap.size,_,by rw [List.length_append];rfl,by rw [hs];omega,by simp,by rw [List.length_append];simpa using hge,hcm,fun j hj=>?_,fun j hj=>?_,fun j y hy=>?_⟩,?_⟩
  ·have:=hcell j;rw [show W.drew.heap.size=W.heap.size from rfl] at this;rw [this,Array.getElem?_eq_getElem (by rw [hcsz];exact hj)];rfl
  ·have:(W.drew.alloc (.cells ((l.map Qco).toArray++#[Qco x]++Builtin.zeroCells (Value.int .u8 0).cells (grownCap W (l.length+1) old 5-(l.length+1))) 5)).heap[W.heap.size]?=_:=heap_alloc_new W.drew _;simp only [World.frozen?,this];simp
  ·have:=hcell j;rw [show W.drew.heap.size=W.heap.size from rfl] at this;rw [this];have hj:=(List.getElem?_eq_some_iff.1 hy).1;rw [List.length_append] at hj;simp at hj;have e:((l.map Qco).toArray++#[Qco x])=((l++[x]).map Qco).toArray:=by simp
   rw [e,Array.getElem?_append_left (by simp;omega),List.getElem?_toArray,List.getElem?_map,hy];rfl
  ·exact (hB.drew).alloc (by show base≤W.heap.size;omega) _
 rcases h with ⟨rfl,rfl⟩ | ⟨g,cap,rfl,hb,hg,hlc,hc,h1,h2,h3⟩
 ·have hr:=run_append_nil (P:=Tryz.prog) (w.alloc (.cells #[Qco x] 5)) 198 198 5 i (.int .u8 0) ht hi hz ⟨w.heap.size,0,none⟩ 1 1 [Qco x] (by rw [hsize];rfl) hnews (by omega) (by omega) (by rw [hby];omega);have hn:=hnew (w.alloc (.cells #[Qco x] 5)) 0 (by omega) (by simp) hbW;simp only [List.map_nil,List.length_nil,Nat.zero_add] at hn;exact ⟨_,_,hr,by simpa using hn.1,by simpa using hn.2⟩
 ·by_cases hroom:l.length+1≤cap
  ·have hA:=(show Brow w base (.slice (some ⟨g,0,none⟩) l.length cap) l from .inr ⟨g,cap,rfl,hb,hg,hlc,hc,h1,h2,h3⟩).alloc (.cells #[Qco x] 5);rcases hA with ⟨he,_⟩ | ⟨g',cap',he,hb',hg',hlc',hc',k1,k2,k3⟩
   ·simp at he
   ·simp only [Value.slice.injEq,Option.some.injEq,Addr.mk.injEq,and_true,true_and] at he;obtain ⟨rfl,rfl⟩:=he;have hr:=run_append_room_cells (P:=Tryz.prog) (w.alloc (.cells #[Qco x] 5)) 198 198 5 i ht hi g 0 l.length cap ⟨w.heap.size,0,none⟩ 1 1 [Qco x] (by rw [hsize];rfl) hnews h1c hroom
     (fun j hj=>by simp at hj;subst hj;rw [hsize];simpa using k1 l.length (by omega)) (fun j hj=>by simp at hj;subst hj;rw [hsize];simpa using k2 l.length (by omega))
    rw [hsize,Nat.mul_one,Nat.zero_add] at hr;have hset:(w.alloc (.cells #[Qco x] 5)).setCells g l.length [Qco x]=(w.alloc (.cells #[Qco x] 5)).setCell ⟨g,l.length,none⟩ (Qco x):=rfl;rw [hset] at hr;obtain ⟨u,hu⟩:=Option.isSome_iff_exists.1 (k1 l.length (by omega));refine ⟨_,_,hr,.inr ⟨g,cap,by rw [List.length_append];rfl,hb,by simpa using hg',by rw [List.length_append];exact hroom,hc,fun j hj=>?_,fun j hj=>?_,fun j y hy=>?_⟩,hbW.setCell hb _⟩
    ·by_cases hjk:l.length=j
     ·subst hjk;rw [World.cell?_setCell_same _ _ _ hu];rfl
     ·rw [World.cell?_setCell_other _ _ _ _ (by intro e;simp at e<;>exact hjk e)];exact k1 j hj
    ·have:=k2 j hj;simpa [go_sem] using this
    ·by_cases hjk:l.length=j
     ·subst hjk;rw [World.cell?_setCell_same _ _ _ hu];simp at hy;rw [hy]
     ·rw [World.cell?_setCell_other _ _ _ _ (by intro e;simp at e<;>exact hjk e)];have hj:=(List.getElem?_eq_some_iff.1 hy).1;rw [List.length_append] at hj;simp at hj;rw [List.getElem?_append_left (by omega)] at hy;exact k3 j y hy
  ·have hr:=run_append_grow (P:=Tryz.prog) (w.alloc (.cells #[Qco x] 5)) 198 198 5 i (.int .u8 0) ht hi hz ⟨g,0,none⟩ l.length cap (l.map Qco) (by rw [hsize];simp)
    (fun j u hu=>by
     rw [Qbj,Nat.zero_add,World.cell?_alloc_lt _ _ _ hg];rw [List.getElem?_map] at hu;cases hlj:l[j]? with
     | none=>rw [hlj] at hu;cases hu
     | some y=>rw [hlj] at hu;injection hu with hu;rw [← hu];exact h3 j y hlj)
    ⟨w.heap.size,0,none⟩ 1 1 [Qco x] (by rw [hsize];rfl) hnews (by omega) (by omega) (growslice_fits (by omega) (by rw [hby];omega))
   have hn:=hnew (w.alloc (.cells #[Qco x] 5)) cap (by omega) (by simp) hbW;exact ⟨_,_,hr,hn.1,hn.2⟩
end Go.Proofs.YtahlldgocpabjaaGreat

set_option maxRecDepth 100000
namespace Go.Proofs.YtahlldgocpabjaaGreat
open Go.RowKit Copyhold
attribute [local go_sem] Qyt
theorem Qpr (s:List UInt8) (a m:Nat) (w:World) (hs:s.length≤1048576) (h:ofOk a m) :
  Calls Tryz.prog 116 #[.string ⟨s.toArray⟩,.int .i64 a,.int .i64 m] w fun e w'=>e=.returned (.tuple #[.string ⟨((s.drop a).take m).toArray⟩,.int .i64 0])∧Below w.heap.size w w':=by
 obtain ⟨h1,h2,h3,h4⟩:=h
 go_enter Tryz.func116,Tryz.ntmps116
 go_wp2_with fail
 go_loopw [8,9] (fun sb si wr=>∃ (k:Nat) (l:List UInt8),si=.int .i64 ((a:Int)+k)∧l=(s.drop a).take k∧l.length=k∧k≤m∧Brow wr w.heap.size sb l∧Below w.heap.size w wr) (fun _ si _=>s.length-(intOf si).toNat)
 case atStart=>exact ⟨0,[],by simp,by simp,rfl,Nat.zero_le _,.inl ⟨rfl,rfl⟩,Below.refl _ _⟩
 case round=>
  obtain ⟨k,l,rfl,hl,hlk,hk,hown,hb⟩:=hrel;have HL:=Lib.hid hl;have HLK:=Lib.hid hlk;have hll:l.length≤1048576:=by rw [hl];simp;omega
  have HO:=Lib.hid hown;obtain ⟨A,c,rfl⟩:=hown.shape;rw [hlk];clear hl hown;by_cases hlt:a+k<s.length
  ·by_cases hkm:k<m
   ·obtain ⟨v',w',hrun,hown',hb'⟩:=HO.out.append s[a+k] hll hb.size;rw [hlk] at hrun;have hnext:l++[s[a+k]]=(s.drop a).take (k+1):=by
     rw [HL.out,List.take_succ_eq_append_getElem (by simp;omega)];simp
    have HN:=Lib.hid hnext;have HO':=Lib.hid hown';have HB':=Lib.hid (hb.trans hb');have hin:(a:Int)+k<s.length:=by omega
    clear hnext hown' hb' hlk;unfold Qco at hrun
    go_wp2_with (at_builtin;refine Qds rfl _ _ _ rfl _ _ _ _ rfl rfl hrun ?_)
    go_roundw
    case rel=>exact ⟨k+1,l++[s[a+k]],by simp;omega,HN.out,by rw [List.length_append,HLK.out];rfl,by omega,HO'.out,HB'.out⟩
    case measure=>simp [intOf];omega
   ·have hfin:(s.drop a).take m=l:=by rw [HL.out,show k=m from by omega]
    have hbk:=HO.out.back;rw [hlk] at hbk;have HF:=Lib.hid hfin;clear hfin hlk
    go_wp2_with fail
    go_ret2
    exact ⟨by rw [HF.out];rfl,hb⟩
  ·have hfin:(s.drop a).take m=l:=by
    have h1:=HL.out;have h2:=HLK.out;rw [h1] at h2 ⊢;have h3:(s.drop a).length≤k:=by simp;omega
    rw [List.take_of_length_le h3,List.take_of_length_le (by omega)]
   have hbk:=HO.out.back;rw [hlk] at hbk;have HF:=Lib.hid hfin;have hd:decide ((a:Int)+k<s.length)=false:=by simp;omega
   clear hfin hlk
   go_wp2_with fail
   go_ret2
   exact ⟨by rw [HF.out];rfl,hb⟩
theorem Qnx (s:List UInt8) (a m:Int) (w:World) (ha1:-9223372036854775808≤a) (ha2:a≤9223372036854775807) (hb1:-9223372036854775808≤m) (hb2:m≤9223372036854775807) (h:¬ ofOk a m) :
  Calls Tryz.prog 116 #[.string ⟨s.toArray⟩,.int .i64 a,.int .i64 m] w fun e w'=>e=.returned (.tuple #[.string ⟨#[]⟩,.int .i64 1])∧Below w.heap.size w w':=by
 unfold ofOk at h;rcases (show a<0∨0≤a∧1099511627776<a∨0≤a∧a≤1099511627776∧m<0∨0≤a∧a≤1099511627776∧0≤m∧1099511627776-a<m from by omega) with h1 | ⟨h1,h2⟩ | ⟨h1,h2,h3⟩ | ⟨h1,h2,h3,h4⟩
 all_goals
  clear h
  go_enter Tryz.func116,Tryz.ntmps116
  go_wp2_with fail
  go_ret2
  exact ⟨rfl,Below.refl _ _⟩
theorem Qyi (s:List UInt8) (a m:Int) (w:World) (hs:s.length≤1048576) (ha1:-9223372036854775808≤a) (ha2:a≤9223372036854775807) (hb1:-9223372036854775808≤m) (hb2:m≤9223372036854775807) :
  Calls Tryz.prog 116 #[.string ⟨s.toArray⟩,.int .i64 a,.int .i64 m] w fun e w'=>e=.returned (.tuple #[.string ⟨(Qd7 s a m).1.toArray⟩,.int .i64 (Qd7 s a m).2])∧Below w.heap.size w w':=by
 by_cases h:ofOk a m
 ·have hr:Qd7 s a m=((s.drop a.toNat).take m.toNat,0):=if_pos h;rw [hr];obtain ⟨h1,h2,_⟩:=id h;obtain ⟨a,rfl⟩:=Int.eq_ofNat_of_zero_le h1;obtain ⟨m,rfl⟩:=Int.eq_ofNat_of_zero_le h2;rw [Int.toNat_natCast,Int.toNat_natCast];exact Qpr s a m w hs h
 ·have hr:Qd7 s a m=([],1):=if_neg h;rw [hr];exact Qnx s a m w ha1 ha2 hb1 hb2 h
end Go.Proofs.YtahlldgocpabjaaGreat

set_option maxRecDepth 100000
namespace Go.Proofs.YtahlldgocpabjaaGreat.dataSplit
open Go.RowKit Copyhold
theorem writeD_ok (l:List UInt8) (a:Nat) (t:List UInt8) (h:a+t.length≤4096):Qbe l a t=(if t=[] then l else putD l a t,0):=by
 have hr:Qba a t.length=0:=by
  unfold Qba;rw [if_pos (by omega),if_neg (by omega)]
 unfold Qbe;rw [if_pos hr,Int.toNat_natCast]
theorem Qsi (l:List UInt8) (n i:Nat):(Qfj l n)[i]?=if i<n then some (l.getD i 0) else none:=by
 unfold Qfj;rw [List.getElem?_append,List.length_take];by_cases h:i<n
 ·rw [if_pos h];by_cases h2:i<l.length
  ·rw [if_pos (by omega),List.getElem?_take,if_pos h];simp [List.getD,h2]
  ·rw [if_neg (by omega),List.getElem?_replicate,if_pos (by omega)];simp [List.getD,h2]
 ·rw [if_neg h,if_neg (by omega),List.getElem?_replicate,if_neg (by omega)]
theorem get_putD (l:List UInt8) (a:Nat) (t:List UInt8) (i:Nat):(putD l a t)[i]?=if i<max l.length (a+t.length) then some (if a≤i∧i<a+t.length then t.getD (i-a) 0 else l.getD i 0) else none:=by
 unfold putD;generalize hm:max l.length (a+t.length)=m;rw [List.append_assoc,List.getElem?_append,List.length_take,Qdf];by_cases h:i<a
 ·rw [if_pos (by omega),List.getElem?_take,if_pos h,Qsi,if_pos (by omega),if_pos (by omega),if_neg (by omega)]
 ·rw [if_neg (by omega),show min a m=a from by omega,List.getElem?_append];by_cases h2:i-a<t.length
  ·rw [if_pos h2,if_pos (by omega),if_pos (by omega)];simp [List.getD,h2]
  ·rw [if_neg h2,List.getElem?_drop,show a+t.length+(i-a-t.length)=i from by omega,Qsi];by_cases h3:i<m
   ·rw [if_pos h3,if_pos h3,if_neg (by omega)]
   ·rw [if_neg h3,if_neg h3]
end Go.Proofs.YtahlldgocpabjaaGreat.dataSplit
