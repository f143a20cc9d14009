import Derived.Test.YtahlldgocpabjaaGreatAl
import Derived.Test.YtahlldgocpabjaaGreatMrgT
import Derived.Test.YtahlldgocpabjaaGreatMrgQ
import Derived.Test.YtahlldgocpabjaaGreatMrgA
import Derived.ArgAppend
set_option maxRecDepth 100000
set_option maxHeartbeats 8000000
set_option linter.unusedVariables false
set_option linter.unusedSimpArgs false
namespace Go.Proofs.YtahlldgocpabjaaGreat
open Go Go.RowKit Copyhold Go.Proofs.Tryz
open Copyhold.Name (Srt insE delE getE isAt)
theorem Qne {f:Fsy} {i z:Int} (hp:Qan f) (hf:midF f):hasB (Qda f i) z=hasB (Qek f i) z:=by
 rw [Bool.eq_iff_iff,Zax hp hf,Qh6]
theorem over_8 {n m:Nod} (h1:n.kind=2) (h2:¬ m.kind=2):Qdi n m=8:=by
 unfold Qdi;have a:(n.kind==2)=true:=by simpa using h1
 have b:(m.kind==2)=false:=by simpa using h2
 rw [a,b];rfl
theorem over_9 {n m:Nod} (h1:¬ n.kind=2) (h2:m.kind=2):Qdi n m=9:=by
 unfold Qdi;have a:(n.kind==2)=false:=by simpa using h1
 have b:(m.kind==2)=true:=by simpa using h2
 rw [a,b];rfl
theorem Ze6 {n m:Nod} (hm:nodP m) (h:m.kind=2↔n.kind=2) (hl:(m.l.length:Int)>0):Qdi n m=11:=by
 have hk:m.kind=2:=by
  by_cases hk:m.kind=2
  ·exact hk
  ·rw [Qgz hm hk] at hl;simp at hl
 unfold Qdi Qdd;have a:(n.kind==2)=true:=by simpa using h.1 hk
 have b:(m.kind==2)=true:=by simpa using hk
 rw [a,b,decide_eq_true hl];rfl
theorem Zl0 {n m:Nod} (h:m.kind=2↔n.kind=2) (hl:¬ (m.l.length:Int)>0):Qdi n m=0:=by
 unfold Qdi Qdd;rw [decide_eq_false hl];by_cases hk:n.kind=2
 ·have a:(n.kind==2)=true:=by simpa using hk
  have b:(m.kind==2)=true:=by simpa using h.2 hk
  rw [a,b];rfl
 ·have a:(n.kind==2)=false:=by simpa using hk
  have b:(m.kind==2)=false:=by simpa using fun e=>hk (h.1 e)
  rw [a,b];rfl
theorem Qn7 {f:Fsy} {dir:Int} {s:Txt} {to:Int} {t:Txt} {v:Int} (h:mov1 f dir s to t=v) (hv:¬ v=0):Qbc f dir s to t=v∧movF f dir s to t=f:=by
 have hn:¬ mov1 f dir s to t=0:=by rw [h];exact hv
 exact ⟨by unfold Qbc;rw [W1x hn,h],W1x hn⟩
theorem Qyy {f:Fsy} {dir:Int} {s:Txt} {to:Int} {t:Txt} (okf:OkF f) (T:TreeP f) (h1:mov1 f dir s to t=0) (h6:¬ Qa4 f to t=0) :
  OkF (leaveF f dir s)∧Qan (leaveF f dir s)∧(dir ≠ to∧((Qaa f to).l.length:Int)≥256→Qbc f dir s to t=12∧movF f dir s to t=f) ∧
   (¬ (dir ≠ to∧((Qaa f to).l.length:Int)≥256)→Qbc f dir s to t=0∧movF f dir s to t=enterF (leaveF f dir s) to t (lookN f dir s).ino):=by
 have hp:=T.rows;obtain ⟨d,dt,n,j,A⟩:=Qze hp h1;obtain ⟨e1,e2,e3⟩:=A.mB;obtain ⟨l1,l2,_⟩:=Qd8 (s:=s) okf hp A.dir A.kind;have hb:isB dt.l t=false:=by
  cases hb:isB dt.l t with
  | false=>rfl
  | true=>
   obtain ⟨i2,hg⟩:∃ i,getE (lI dt.l) t=some i:=by
    rw [Qer] at hb;cases hg:getE (lI dt.l) t with
    | none=>rw [hg] at hb;cases hb
    | some i=>exact ⟨i,rfl⟩
   obtain ⟨⟨m,hm⟩,_⟩:=T.kid to i2 (Qr5 A.to A.kindt hg);exact absurd (Qfm A.to A.kindt A.chkt hg hm).1 h6
 have hfd:Qaa f to=dt:=(Qfr A.to).2;have hE:Qbc f dir s to t=mov2 f dir s to t:=by unfold Qbc;rw [W1y h1]
 have h2:mov2 f dir s to t=Qag ((to != dir)&&decide ((dt.l.length:Int)≥256)) 12:=by unfold mov2;rw [W1y (by rw [e1,hb]),e3]
 have hF:movF f dir s to t=if mov2 f dir s to t=0 then enterF (leaveF f dir s) to t n.ino else f:=by
  have e0:mov0 f dir s to t n (movB f to t) (Qaa f (movI f to t))=enterF (leaveF f dir s) to t n.ino:=by
   unfold mov0;rw [W1x (by rw [e1,hb];decide)]
  unfold movF;rw [W1y h1,W1x (fun h=>by rw [e1,hb] at h;cases h.1),A.look,e0]
 rw [hfd,hE,hF,A.look];refine ⟨l1,l2,fun ⟨ha,hl⟩=>?_,fun h=>?_⟩
 ·have hv:mov2 f dir s to t=12:=by
   rw [h2,decide_eq_true hl,show (to != dir)=true from by simpa using fun e=>ha e.symm];rfl
  rw [hv];exact ⟨rfl,rfl⟩
 ·have hv:mov2 f dir s to t=0:=by
   rw [h2];by_cases ha:dir=to
   ·rw [show (to != dir)=false from by simpa using ha.symm];rfl
   ·rw [decide_eq_false (fun hl=>h ⟨ha,hl⟩),Bool.and_false];rfl
  rw [hv];exact ⟨rfl,rfl⟩
theorem Qyz {f:Fsy} {dir:Int} {s:Txt} {to:Int} {t:Txt} (okf:OkF f) (T:TreeP f) (h1:mov1 f dir s to t=0) (h6:Qa4 f to t=0) :
  nodP (lookN f to t)∧((lookN f to t).ino=(lookN f dir s).ino→Qbc f dir s to t=0∧movF f dir s to t=f) ∧
  (¬ (lookN f to t).ino=(lookN f dir s).ino→Qbc f dir s to t=Qdi (lookN f dir s) (lookN f to t)∧(¬ Qdi (lookN f dir s) (lookN f to t)=0→movF f dir s to t=f) ∧
   (Qdi (lookN f dir s) (lookN f to t)=0→movF f dir s to t=enterF (leaveF (Qbm f to t (lookN f to t)) dir s) to t (lookN f dir s).ino ∧
    OkF (leaveF f to t)∧Qan (leaveF f to t)∧Qod (leaveF f to t) (lookN f to t).ino=Qbm f to t (lookN f to t)∧OkF (Qbm f to t (lookN f to t))∧Qan (Qbm f to t (lookN f to t)) ∧
    OkF (leaveF (Qbm f to t (lookN f to t)) dir s)∧Qan (leaveF (Qbm f to t (lookN f to t)) dir s)∧((Qaa (Qbm f to t (lookN f to t)) to).l.length:Int)<256)):=by
 have hp:=T.rows;obtain ⟨d,dt,n,j,A⟩:=Qze hp h1;obtain ⟨e1,e2,e3⟩:=A.mB;obtain ⟨dt',i2,m,b1,b2,b3,b4,b5⟩:=(Qi8 hp).1 h6;have hdt:dt'=dt:=by rw [A.to] at b1;exact (W0c b1).symm
 subst hdt;have hlm:=(Qfm b1 b2 b3 b4 b5).2;have hb:isB dt'.l t=true:=by rw [Qer,b4];rfl
 have hmi:=Qc7 b5;have hnj:=A.nino;have hI:getI dt'.l t=i2:=by rw [Qeb,b4];rfl
 have hfm:Qaa f (getI dt'.l t)=m:=by rw [hI];exact (Qfr b5).2
 have hE:Qbc f dir s to t=mov2 f dir s to t:=by unfold Qbc;rw [W1y h1]
 rw [hlm,A.look];refine ⟨(Qbh hp b5).1,fun he=>?_,fun he=>?_⟩
 ·have hij:movI f to t=n.ino:=by rw [e2,hI,← hmi];exact he
  refine ⟨?_,?_⟩
  ·rw [hE];unfold mov2;rw [W1x (by rw [e1,hb];decide),W1y (by rw [A.look];exact hij)]
  ·unfold movF;rw [W1y h1,W1y ⟨by rw [e1,hb],by rw [A.look];exact hij⟩]
 ·have hij:¬ movI f to t=n.ino:=by rw [e2,hI,← hmi];exact he
  have h2:mov2 f dir s to t=Qdi n m:=by
   unfold mov2;rw [W1x (by rw [e1,hb];decide),W1x (by rw [A.look];exact hij),A.look,e2,hfm]
  have hF:movF f dir s to t=if Qdi n m=0 then enterF (leaveF (Qbm f to t m) dir s) to t n.ino else f:=by
   have e0:mov0 f dir s to t n (movB f to t) (Qaa f (movI f to t))=enterF (leaveF (Qbm f to t m) dir s) to t n.ino:=by
    unfold mov0;rw [W1y (by rw [e1,hb]),e2,hfm]
   unfold movF;rw [W1y h1,W1x (fun h=>hij (by have:=h.2;rw [A.look] at this;exact this)),h2,A.look,e0]
  refine ⟨hE.trans h2,fun h=>by rw [hF,W1x h],fun h=>?_⟩;obtain ⟨K,k2,k3,k4⟩:=Qoj okf T b1 b2 b4 b5 (Qnz h).1;obtain ⟨w1,w2,w3,w4,w5⟩:=Qld (s:=t) okf hp b1 b2 (n:=m) (.inl (by rw [hmi];exact b5));obtain ⟨l1,l2,l3,l4,l5⟩:=Qd8 (s:=t) okf hp b1 b2;have hH:=Zjx okf hp h1 (fun _=>by rw [A.look,e2,hfm];exact h);rw [e1,e2,hfm,hb] at hH;obtain ⟨q1,q2,q3,q4⟩:=hH.1 rfl;refine ⟨by rw [hF,W1y h],l1,l2,Quj ?_,w1,w2,q3,q4,?_⟩
  ·refine (Qfr ?_).2;rw [hmi,l5,W1x k2];exact b5
  ·have hst:=Qdc (Qdp (Qbh hp b1).1 b2).2;have hrow:=(Qdp (Qbh hp b1).1 b2).2;have hto:atF (Qbm f to t m) to=some (Qbr dt' (delL dt'.l t)):=by rw [w5,W1x (fun e=>k2 (by rw [← hmi];exact e.symm)),W1y rfl]
   rw [(Qfr hto).2];show ((delL dt'.l t).length:Int)<256;have:=Qk5 hst b4;have:=hrow.1;omega
theorem Qwy (f:Fsy) (i t:Int) (okf:OkF f) (hf:midF f):Qai prog 123 [.agg (fsyA f),aI i,aI t] (aB (hasB (Qda f t) i)):=by
 exact Qae func123 (let R:AV:=aB (hasB (Qda f t) i);
 .new fun b1=>.r 1<|.u 2 [b1]<|
 .call (Qnd f t okf hf)<|
 .r 1<|.call (Qkz (Qda f t) i (by have:=Qtf hf t;omega))<|
 .r 1<|.fi R [])
theorem Zbk (f:Fsy) (dir:Int) (s:Txt) (to:Int) (t:Txt) (okf:OkF f) (T:TreeP f) (hp:Qan f) (hf:midF f) (hs:s.length≤1000000) (ht:t.length≤1000000):Qai prog 74 [.agg (fsyA f),aI dir,aS s,aI to,aS t] (.tup [.agg (fsyA (movF f dir s to t)),aI (Qbc f dir s to t)]):=by
 have hl:=hp.1;have hr:=Qaf hp;exact Qae func74 (
 .new fun b1=>.new fun b2=>.r 1<|.u 3 [b1]<|
 .call (Qeo f dir s hp hs)<|
 .r 3<|.new fun b3=>.u 2 [b3]<|
 .r 2<|.br 30 ((Qa4 f dir s) != 0) (fun q1=>have p1:=bneT q1;.u 4 [b1,b2]<|
 .f (.tup [.agg (fsyA (movF f dir s to t)),aI (Qbc f dir s to t)]) [b2] (.tup [.agg (fsyA f),aI (Qa4 f dir s)]) (by
  have hm:=Qn7 (f:=f) (dir:=dir) (s:=s) (to:=to) (t:=t) (by unfold mov1;exact Qde (bneT q1)) (bneT q1);rw [hm.1,hm.2];exact sR))
 <| fun q1=>have p1:=bneF q1;have g1:Qa4 f dir s=0:=bneF q1;.u 2 [b1]<|
 .call (Qh7 f to hp)<|
 .r 3<|.new fun b4=>.u 2 [b4]<|
 .r 2<|.br 40 ((dirE f to) != 0) (fun q2=>have p2:=bneT q2;.u 4 [b1,b2]<|
 .f (.tup [.agg (fsyA (movF f dir s to t)),aI (Qbc f dir s to t)]) [b2] (.tup [.agg (fsyA f),aI (dirE f to)]) (by
  have hm:=Qn7 (f:=f) (dir:=dir) (s:=s) (to:=to) (t:=t) (by unfold mov1;rw [Qaz g1];exact Qde (bneT q2)) (bneT q2);rw [hm.1,hm.2];exact sR))
 <| fun q2=>have p2:=bneF q2;have g2:dirE f to=0:=bneF q2;.r 1<|.call (Qep t (by omega))<|
 .r 1<|.r 2<|.br 46 ((Qak t) != 0) (fun q3=>have p3:=bneT q3;.u 4 [b1,b2]<|
 .f (.tup [.agg (fsyA (movF f dir s to t)),aI (Qbc f dir s to t)]) [b2] (.tup [.agg (fsyA f),aI (Qak t)]) (by
  have hm:=Qn7 (f:=f) (dir:=dir) (s:=s) (to:=to) (t:=t) (by unfold mov1;rw [Qaz g1,Qaz g2];exact Qde (bneT q3)) (bneT q3);rw [hm.1,hm.2];exact sR))
 <| fun q3=>have p3:=bneF q3;have g3:Qak t=0:=bneF q3;.u 4 [b3]<|
 .br 52 (((lookN f dir s).kind)==2) (fun q4=>have p4:=beqT q4;have g4b:=q4;have g4:(lookN f dir s).kind=2:=beqT q4;.u 5 [b3]<|
 .br 57 (to==((lookN f dir s).ino)) (fun q5=>have p5:=beqT q5;.r 7<|.u 3 [b1,b2]<|
 .f (.tup [.agg (fsyA (movF f dir s to t)),aI (Qbc f dir s to t)]) [b2] (.tup [.agg (fsyA f),aI 13]) (by
  have hw:Qb6 f to (lookN f dir s)=true:=(by unfold Qb6;rw [g4b,q5];rfl)
  have hm:=Qn7 (f:=f) (dir:=dir) (s:=s) (to:=to) (t:=t) (by unfold mov1;rw [Qaz g1,Qaz g2,Qaz g3,hw];first | done | rfl) (by decide);rw [hm.1,hm.2];exact sR))
 <| fun q5=>have p5:=beqF q5;have g5:=q5;.u 4 [b1,b3]<|
 .call (Qwy f to (lookN f dir s).ino okf hf)<|
 .r 2<|.br 64 (hasB (Qda f (lookN f dir s).ino) to) (fun q6=>have p6:=booT q6;.u 3 [b1,b2]<|
 .f (.tup [.agg (fsyA (movF f dir s to t)),aI (Qbc f dir s to t)]) [b2] (.tup [.agg (fsyA f),aI 13]) (by
  have hw:Qb6 f to (lookN f dir s)=true:=(by unfold Qb6;rw [g4b,g5,← Qne hp hf,q6];rfl)
  have hm:=Qn7 (f:=f) (dir:=dir) (s:=s) (to:=to) (t:=t) (by unfold mov1;rw [Qaz g1,Qaz g2,Qaz g3,hw];first | done | rfl) (by decide);rw [hm.1,hm.2];exact sR))
 <| fun q6=>have p6:=booF q6;have hw:Qb6 f to (lookN f dir s)=false:=(by unfold Qb6;rw [g4b,g5,← Qne hp hf,q6];rfl);have h1:mov1 f dir s to t=0:=(by unfold mov1;rw [Qaz g1,Qaz g2,Qaz g3,hw];rfl);.u 1 [b1]<|
 .new fun b5=>.u 1 [b5]<|
 .u 3 [b1]<|
 .call (Qeo f to t hp ht)<|
 .r 3<|.new fun b6=>.u 2 [b6]<|
 .r 3<|.br 76 ((Qa4 f to t)==0) (fun q7=>have p7:=beqT q7;have g6:Qa4 f to t=0:=beqT q7;have hB:=Qyz okf T h1 g6;.u 6 [b6,b3]<|
 .br 82 (((lookN f to t).ino)==((lookN f dir s).ino)) (fun q8=>have p8:=beqT q8;have hi:=beqT q8;.u 3 [b1,b2]<|
 .f (.tup [.agg (fsyA (movF f dir s to t)),aI (Qbc f dir s to t)]) [b2] (.tup [.agg (fsyA f),aI 0]) (by
  have hc:=hB.2.1 hi;rw [hc.1,hc.2];exact sR))
 <| fun q8=>have p8:=beqF q8;have hi:=beqF q8;have hB2:=hB.2.2 hi;.r 2<|.is 85 q7<|.u 4 [b3]<|
 .is 89 q4<|.u 4 [b6]<|
 .br 93 (((lookN f to t).kind) != 2) (fun q9=>have p9:=bneT q9;have g7:¬ (lookN f to t).kind=2:=bneT q9;.u 3 [b1,b2]<|
 .f (.tup [.agg (fsyA (movF f dir s to t)),aI (Qbc f dir s to t)]) [b2] (.tup [.agg (fsyA f),aI 8]) (by
  have e:Qdi (lookN f dir s) (lookN f to t)=8:=over_8 g4 g7;rw [hB2.1,hB2.2.1 (by rw [e];decide),e];exact sR))
 <| fun q9=>have p9:=bneF q9;have g7:(lookN f to t).kind=2:=bneF q9;.u 4 [b3]<|
 .is 98 (show (((lookN f dir s).kind) != 2)=false from (by simpa [bne] using g4))<|.r 4<|.u 3 [b6]<|
 .lm 106 ((lookN f to t).l) entA<|.r 1<|.bd 107 ((((lookN f to t).l).length:Int)>0) (fun p10=>.u 3 [b1,b2]<|
 .f (.tup [.agg (fsyA (movF f dir s to t)),aI (Qbc f dir s to t)]) [b2] (.tup [.agg (fsyA f),aI 11]) (by
  have e:Qdi (lookN f dir s) (lookN f to t)=11:=Ze6 hB.1 (by first | exact ⟨fun _=>g4,fun _=>g7⟩ | exact ⟨fun h=>absurd h g7,fun h=>absurd h g4⟩) (by omega);rw [hB2.1,hB2.2.1 (by rw [e];decide),e];exact sR))
 <| fun p10=>have ho:=Zl0 (n:=lookN f dir s) (m:=lookN f to t) (by first | exact ⟨fun _=>g4,fun _=>g7⟩ | exact ⟨fun h=>absurd h g7,fun h=>absurd h g4⟩) (by omega);have gB:=hB2.2.2 ho;.ord [0,1,2,4,5,3,6,7]<|.u 5 [b1,b6]<|
 .call (Qcr f to t okf hp ht)<|
 .call ((show Qai _ _ _ (.agg (fsyA (Qbm f to t (lookN f to t)))) from gB.2.2.2.1 ▸ Qlq (leaveF f to t) (lookN f to t).ino gB.2.1 gB.2.2.1))<|
 .u 1 [b5]<|
 .u 2 [b5]<|
 .call (Qa2 (Qbm f to t (lookN f to t)) to (by have:=gB.2.2.2.2.2.1.1;omega))<|
 .r 3<|.new fun b7=>.u 2 [b7]<|
 .r 4<|.bn 125 dir to (fun p11=>.u 3 [b7]<|
 .lm 128 ((Qaa (Qbm f to t (lookN f to t)) to).l) entA<|.r 2<|.is 130 (show (decide ((((Qaa (Qbm f to t (lookN f to t)) to).l).length:Int)≥256))=false from (decide_eq_false (by have:=gB.2.2.2.2.2.2.2.2;omega)))<|.ord [0,1,2,4,5,6,7,3,8,9,10]<|.u 7 [b5,b3]<|
 .call (Qcr (Qbm f to t (lookN f to t)) dir s gB.2.2.2.2.1 gB.2.2.2.2.2.1 hs)<|
 .call (Qcb (leaveF (Qbm f to t (lookN f to t)) dir s) to t (lookN f dir s).ino gB.2.2.2.2.2.2.1 gB.2.2.2.2.2.2.2.1 ht)<|
 .u 2 [b2]<|
 .f (.tup [.agg (fsyA (movF f dir s to t)),aI (Qbc f dir s to t)]) [b2] (.tup [.agg [.sl 5 false ((enterF (leaveF (Qbm f to t (lookN f to t)) dir s) to t (lookN f dir s).ino).l.map nodA),aI ((enterF (leaveF (Qbm f to t (lookN f to t)) dir s) to t (lookN f dir s).ino).next)],aI 0]) (by
  rw [hB2.1,ho,gB.1];exact sR))
 <| fun p11=>.r 5<|.ord [0,1,2,4,5,6,7,3,8,9,10]<|.u 7 [b5,b3]<|
 .call (Qcr (Qbm f to t (lookN f to t)) dir s gB.2.2.2.2.1 gB.2.2.2.2.2.1 hs)<|
 .call (Qcb (leaveF (Qbm f to t (lookN f to t)) dir s) to t (lookN f dir s).ino gB.2.2.2.2.2.2.1 gB.2.2.2.2.2.2.2.1 ht)<|
 .u 2 [b2]<|
 .f (.tup [.agg (fsyA (movF f dir s to t)),aI (Qbc f dir s to t)]) [b2] (.tup [.agg [.sl 5 false ((enterF (leaveF (Qbm f to t (lookN f to t)) dir s) to t (lookN f dir s).ino).l.map nodA),aI ((enterF (leaveF (Qbm f to t (lookN f to t)) dir s) to t (lookN f dir s).ino).next)],aI 0]) (by
  rw [hB2.1,ho,gB.1];exact sR))
 <| fun q7=>have p7:=beqF q7;have g6:¬ Qa4 f to t=0:=beqF q7;have gC:=Qyy okf T h1 g6;.r 6<|.r 2<|.is 85 q7<|.u 2 [b5]<|
 .call (Qa2 f to (by omega))<|
 .r 3<|.new fun b8=>.u 2 [b8]<|
 .r 4<|.br 125 (dir != to) (fun q12=>have p12:=bneT q12;.u 3 [b8]<|
 .lm 128 ((Qaa f to).l) entA<|.r 2<|.bd 130 ((((Qaa f to).l).length:Int)≥256) (fun p13=>.u 3 [b1,b2]<|
 .f (.tup [.agg (fsyA (movF f dir s to t)),aI (Qbc f dir s to t)]) [b2] (.tup [.agg (fsyA f),aI 12]) (by
  have hc:=gC.2.2.1 ⟨by simpa using q12,by omega⟩;rw [hc.1,hc.2];exact sR))
 <| fun p13=>.ord [0,1,2,4,5,6,7,3,8,9,10]<|.u 7 [b5,b3]<|
 .call (Qcr f dir s okf hp hs)<|
 .call (Qcb (leaveF f dir s) to t (lookN f dir s).ino (gC.1) (gC.2.1) ht)<|
 .u 2 [b2]<|
 .f (.tup [.agg (fsyA (movF f dir s to t)),aI (Qbc f dir s to t)]) [b2] (.tup [.agg [.sl 5 false ((enterF (leaveF f dir s) to t (lookN f dir s).ino).l.map nodA),aI ((enterF (leaveF f dir s) to t (lookN f dir s).ino).next)],aI 0]) (by
  have hc:=gC.2.2.2 (fun h=>by have:=h.2;omega);rw [hc.1,hc.2];exact sR))
 <| fun q12=>have p12:=bneF q12;.r 5<|.ord [0,1,2,4,5,6,7,3,8,9,10]<|.u 7 [b5,b3]<|
 .call (Qcr f dir s okf hp hs)<|
 .call (Qcb (leaveF f dir s) to t (lookN f dir s).ino (gC.1) (gC.2.1) ht)<|
 .u 2 [b2]<|
 .f (.tup [.agg (fsyA (movF f dir s to t)),aI (Qbc f dir s to t)]) [b2] (.tup [.agg [.sl 5 false ((enterF (leaveF f dir s) to t (lookN f dir s).ino).l.map nodA),aI ((enterF (leaveF f dir s) to t (lookN f dir s).ino).next)],aI 0]) (by
  have hc:=gC.2.2.2 (fun h=>h.1 (by simpa using q12));rw [hc.1,hc.2];exact sR))
 <| fun q4=>have p4:=beqF q4;have g4b:=q4;have g4:¬ (lookN f dir s).kind=2:=beqF q4;have hw:Qb6 f to (lookN f dir s)=false:=(by unfold Qb6;rw [q4];rfl);have h1:mov1 f dir s to t=0:=(by unfold mov1;rw [Qaz g1,Qaz g2,Qaz g3,hw];rfl);.r 12<|.u 1 [b1]<|
 .new fun b9=>.u 1 [b9]<|
 .u 3 [b1]<|
 .call (Qeo f to t hp ht)<|
 .r 3<|.new fun b10=>.u 2 [b10]<|
 .r 3<|.br 76 ((Qa4 f to t)==0) (fun q14=>have p14:=beqT q14;have g6:Qa4 f to t=0:=beqT q14;have hB:=Qyz okf T h1 g6;.u 6 [b10,b3]<|
 .br 82 (((lookN f to t).ino)==((lookN f dir s).ino)) (fun q15=>have p15:=beqT q15;have hi:=beqT q15;.u 3 [b1,b2]<|
 .f (.tup [.agg (fsyA (movF f dir s to t)),aI (Qbc f dir s to t)]) [b2] (.tup [.agg (fsyA f),aI 0]) (by
  have hc:=hB.2.1 hi;rw [hc.1,hc.2];exact sR))
 <| fun q15=>have p15:=beqF q15;have hi:=beqF q15;have hB2:=hB.2.2 hi;.r 2<|.is 85 q14<|.u 4 [b3]<|
 .is 89 q4<|.r 4<|.u 4 [b3]<|
 .is 98 (show (((lookN f dir s).kind) != 2)=true from (by simpa [bne] using g4))<|.u 4 [b10]<|
 .br 102 (((lookN f to t).kind)==2) (fun q16=>have p16:=beqT q16;have g7:(lookN f to t).kind=2:=beqT q16;.u 3 [b1,b2]<|
 .f (.tup [.agg (fsyA (movF f dir s to t)),aI (Qbc f dir s to t)]) [b2] (.tup [.agg (fsyA f),aI 9]) (by
  have e:Qdi (lookN f dir s) (lookN f to t)=9:=over_9 g4 g7;rw [hB2.1,hB2.2.1 (by rw [e];decide),e];exact sR))
 <| fun q16=>have p16:=beqF q16;have g7:¬ (lookN f to t).kind=2:=beqF q16;.u 3 [b10]<|
 .lm 106 ((lookN f to t).l) entA<|.r 1<|.bd 107 ((((lookN f to t).l).length:Int)>0) (fun p17=>.u 3 [b1,b2]<|
 .f (.tup [.agg (fsyA (movF f dir s to t)),aI (Qbc f dir s to t)]) [b2] (.tup [.agg (fsyA f),aI 11]) (by
  have e:Qdi (lookN f dir s) (lookN f to t)=11:=Ze6 hB.1 (by first | exact ⟨fun _=>g4,fun _=>g7⟩ | exact ⟨fun h=>absurd h g7,fun h=>absurd h g4⟩) (by omega);rw [hB2.1,hB2.2.1 (by rw [e];decide),e];exact sR))
 <| fun p17=>have ho:=Zl0 (n:=lookN f dir s) (m:=lookN f to t) (by first | exact ⟨fun _=>g4,fun _=>g7⟩ | exact ⟨fun h=>absurd h g7,fun h=>absurd h g4⟩) (by omega);have gB:=hB2.2.2 ho;.ord [0,1,2,4,5,3,6,7]<|.u 5 [b1,b10]<|
 .call (Qcr f to t okf hp ht)<|
 .call ((show Qai _ _ _ (.agg (fsyA (Qbm f to t (lookN f to t)))) from gB.2.2.2.1 ▸ Qlq (leaveF f to t) (lookN f to t).ino gB.2.1 gB.2.2.1))<|
 .u 1 [b9]<|
 .u 2 [b9]<|
 .call (Qa2 (Qbm f to t (lookN f to t)) to (by have:=gB.2.2.2.2.2.1.1;omega))<|
 .r 3<|.new fun b11=>.u 2 [b11]<|
 .r 4<|.bn 125 dir to (fun p18=>.u 3 [b11]<|
 .lm 128 ((Qaa (Qbm f to t (lookN f to t)) to).l) entA<|.r 2<|.is 130 (show (decide ((((Qaa (Qbm f to t (lookN f to t)) to).l).length:Int)≥256))=false from (decide_eq_false (by have:=gB.2.2.2.2.2.2.2.2;omega)))<|.ord [0,1,2,4,5,6,7,3,8,9,10]<|.u 7 [b9,b3]<|
 .call (Qcr (Qbm f to t (lookN f to t)) dir s gB.2.2.2.2.1 gB.2.2.2.2.2.1 hs)<|
 .call (Qcb (leaveF (Qbm f to t (lookN f to t)) dir s) to t (lookN f dir s).ino gB.2.2.2.2.2.2.1 gB.2.2.2.2.2.2.2.1 ht)<|
 .u 2 [b2]<|
 .f (.tup [.agg (fsyA (movF f dir s to t)),aI (Qbc f dir s to t)]) [b2] (.tup [.agg [.sl 5 false ((enterF (leaveF (Qbm f to t (lookN f to t)) dir s) to t (lookN f dir s).ino).l.map nodA),aI ((enterF (leaveF (Qbm f to t (lookN f to t)) dir s) to t (lookN f dir s).ino).next)],aI 0]) (by
  rw [hB2.1,ho,gB.1];exact sR))
 <| fun p18=>.r 5<|.ord [0,1,2,4,5,6,7,3,8,9,10]<|.u 7 [b9,b3]<|
 .call (Qcr (Qbm f to t (lookN f to t)) dir s gB.2.2.2.2.1 gB.2.2.2.2.2.1 hs)<|
 .call (Qcb (leaveF (Qbm f to t (lookN f to t)) dir s) to t (lookN f dir s).ino gB.2.2.2.2.2.2.1 gB.2.2.2.2.2.2.2.1 ht)<|
 .u 2 [b2]<|
 .f (.tup [.agg (fsyA (movF f dir s to t)),aI (Qbc f dir s to t)]) [b2] (.tup [.agg [.sl 5 false ((enterF (leaveF (Qbm f to t (lookN f to t)) dir s) to t (lookN f dir s).ino).l.map nodA),aI ((enterF (leaveF (Qbm f to t (lookN f to t)) dir s) to t (lookN f dir s).ino).next)],aI 0]) (by
  rw [hB2.1,ho,gB.1];exact sR))
 <| fun q14=>have p14:=beqF q14;have g6:¬ Qa4 f to t=0:=beqF q14;have gC:=Qyy okf T h1 g6;.r 6<|.r 2<|.is 85 q14<|.u 2 [b9]<|
 .call (Qa2 f to (by omega))<|
 .r 3<|.new fun b12=>.u 2 [b12]<|
 .r 4<|.br 125 (dir != to) (fun q19=>have p19:=bneT q19;.u 3 [b12]<|
 .lm 128 ((Qaa f to).l) entA<|.r 2<|.bd 130 ((((Qaa f to).l).length:Int)≥256) (fun p20=>.u 3 [b1,b2]<|
 .f (.tup [.agg (fsyA (movF f dir s to t)),aI (Qbc f dir s to t)]) [b2] (.tup [.agg (fsyA f),aI 12]) (by
  have hc:=gC.2.2.1 ⟨by simpa using q19,by omega⟩;rw [hc.1,hc.2];exact sR))
 <| fun p20=>.ord [0,1,2,4,5,6,7,3,8,9,10]<|.u 7 [b9,b3]<|
 .call (Qcr f dir s okf hp hs)<|
 .call (Qcb (leaveF f dir s) to t (lookN f dir s).ino (gC.1) (gC.2.1) ht)<|
 .u 2 [b2]<|
 .f (.tup [.agg (fsyA (movF f dir s to t)),aI (Qbc f dir s to t)]) [b2] (.tup [.agg [.sl 5 false ((enterF (leaveF f dir s) to t (lookN f dir s).ino).l.map nodA),aI ((enterF (leaveF f dir s) to t (lookN f dir s).ino).next)],aI 0]) (by
  have hc:=gC.2.2.2 (fun h=>by have:=h.2;omega);rw [hc.1,hc.2];exact sR))
 <| fun q19=>have p19:=bneF q19;.r 5<|.ord [0,1,2,4,5,6,7,3,8,9,10]<|.u 7 [b9,b3]<|
 .call (Qcr f dir s okf hp hs)<|
 .call (Qcb (leaveF f dir s) to t (lookN f dir s).ino (gC.1) (gC.2.1) ht)<|
 .u 2 [b2]<|
 .f (.tup [.agg (fsyA (movF f dir s to t)),aI (Qbc f dir s to t)]) [b2] (.tup [.agg [.sl 5 false ((enterF (leaveF f dir s) to t (lookN f dir s).ino).l.map nodA),aI ((enterF (leaveF f dir s) to t (lookN f dir s).ino).next)],aI 0]) (by
  have hc:=gC.2.2.2 (fun h=>h.1 (by simpa using q19));rw [hc.1,hc.2];exact sR))
end Go.Proofs.YtahlldgocpabjaaGreat

set_option maxRecDepth 100000
namespace Go.Proofs.YtahlldgocpabjaaGreat
open Go.RowKit Copyhold
theorem Zlf:Elem Tryz.prog 198 5 (.int .u8 0) 1 1:=⟨by kernel_rfl,by kernel_rfl,rfl,by decide⟩
def Qc9 (b:UInt8):Value:=.int .u8 (b.toNat:Int)
def Brow (w:World) (base:Nat) (v:Value) (l:List UInt8):Prop:=
 (v=.slice none 0 0∧l=[])∨∃ g cap,v=.slice (some ⟨g,0,none⟩) l.length cap∧base≤g∧g<w.heap.size∧l.length≤cap∧cap≤maxLen ∧
  (∀ j,j<cap→(w.cell? ⟨g,j,none⟩).isSome=true)∧(∀ j,j<cap→w.frozen? ⟨g,j,none⟩=false)∧∀ j x,l[j]?=some x→w.cell? ⟨g,j,none⟩=some (Qc9 x)
theorem Brow.shape {w:World} {base:Nat} {v:Value} {l:List UInt8} (h:Brow w base v l):∃ A c,v=.slice A l.length c:=by
 rcases h with ⟨rfl,rfl⟩ | ⟨g,cap,rfl,_⟩
 ·exact ⟨none,0,rfl⟩
 ·exact ⟨_,cap,rfl⟩
theorem Brow.alloc {w:World} {base:Nat} {v:Value} {l:List UInt8} (h:Brow w base v l) (o:Obj):Brow (w.alloc o) base v l:=by
 rcases h with h | ⟨g,cap,rfl,hb,hg,hl,hc,h1,h2,h3⟩
 ·exact .inl h
 ·refine .inr ⟨g,cap,rfl,hb,by simp;omega,hl,hc,fun j hj=>?_,fun j hj=>?_,fun j x hx=>?_⟩
  ·rw [World.cell?_alloc_lt _ _ _ hg];exact h1 j hj
  ·rw [World.frozen?_of_block (Below.heap_alloc w o g hg)];exact h2 j hj
  ·rw [World.cell?_alloc_lt _ _ _ hg];exact h3 j x hx
theorem Brow.made (w:World) (l:List UInt8) (hl:l.length≤1048576):Brow (Lib.bytesWorld w 5 ⟨l.toArray⟩) w.heap.size (.slice (some ⟨w.heap.size,0,none⟩) l.length (grownCap w l.length 0 5)) l:=by
 have hsz:(⟨l.toArray⟩:ByteArray).size=l.length:=by simp [ByteArray.size]
 have hge:=grownCap_ge w l.length 0 5;have hcs:(Lib.bytesCells w 5 ⟨l.toArray⟩).size=grownCap w l.length 0 5:=by
  simp [Lib.bytesCells,hsz];omega
 refine .inr ⟨w.heap.size,_,rfl,W0m _,by rw [Lib.bytesWorld_size];omega,hge,grownCap_le_maxLen w _ _ _ (by unfold maxLen;omega),fun j hj=>?_,fun j hj=>?_,fun j x hx=>?_⟩
 ·simp only [World.cell?,Lib.bytesWorld_at_new];rw [← hcs] at hj;simp [hj]
 ·simp only [World.frozen?,Lib.bytesWorld_at_new];rw [← hcs] at hj;simp;omega
 ·obtain ⟨hj,rfl⟩:=W0i.1 hx;exact Zcu w _ l j hj
theorem Brow.back {w:World} {base:Nat} {v:Value} {l:List UInt8} (h:Brow w base v l):(convert 198 9 v).run Tryz.prog w=.ok (.string ⟨l.toArray⟩) w:=by
 rcases h with ⟨rfl,rfl⟩ | ⟨g,cap,rfl,hb,hg,hl,hc,h1,h2,h3⟩
 ·exact run_convert_bytes_nil w 198 5 rfl rfl 0 0 9 rfl
 ·exact run_convert_bytes_back w _ _ 5 _ _ l rfl rfl rfl fun j hj=>by
   rw [Qbv,Nat.zero_add];exact h3 j _ (W0d hj)
theorem Brow.store {w:World} {base g cap:Nat} {l:List UInt8} (h:Brow w base (.slice (some ⟨g,0,none⟩) l.length cap) l) (k:Nat) (x:UInt8) (hk:k<l.length) :
  base≤g∧(∃ u,w.cell? ⟨g,k,none⟩=some u)∧w.frozen? ⟨g,k,none⟩=false∧Brow (w.setCell ⟨g,k,none⟩ (Qc9 x)) base (.slice (some ⟨g,0,none⟩) l.length cap) (l.set k x):=by
 rcases h with ⟨h,rfl⟩ | ⟨g',cap',he,hb,hg,hl,hc,h1,h2,h3⟩
 ·simp at hk
 ·simp only [Value.slice.injEq,W0k,Addr.mk.injEq,and_true,true_and] at he;obtain ⟨rfl,rfl⟩:=he;have hc0:=h3 k l[k] (W0d hk);refine ⟨hb,⟨_,hc0⟩,h2 k (by omega),.inr ⟨g,cap,by rw [List.length_set],hb,by simpa using hg,by rw [List.length_set];exact hl,hc,fun j hj=>?_,fun j hj=>?_,fun j y hy=>?_⟩⟩
  ·by_cases hjk:k=j
   ·subst hjk;rw [World.cell?_setCell_same _ _ _ hc0];rfl
   ·rw [World.cell?_setCell_other _ _ _ _ (by intro e;simp at e<;>exact hjk e)];exact h1 j hj
  ·have:=h2 j hj;simpa [go_sem] using this
  ·by_cases hjk:k=j
   ·subst hjk;rw [World.cell?_setCell_same _ _ _ hc0];rw [List.getElem?_set_self hk] at hy;injection hy with hy
    subst hy;rfl
   ·rw [World.cell?_setCell_other _ _ _ _ (by intro e;simp at e<;>exact hjk e)];rw [List.getElem?_set_ne hjk] at hy;exact h3 j y hy
theorem Brow.append {w:World} {base:Nat} {v:Value} {l:List UInt8} (h:Brow w base v l) (x:UInt8) (hl:l.length≤1048576) (hbase:base≤w.heap.size) :
  ∃ v' w',(Builtin.append_ #[198,198] 198 #[v,.slice (some ⟨w.heap.size,0,none⟩) 1 1]).run Tryz.prog (w.alloc (.cells #[Qc9 x] 5))=.ok v' w'∧Brow w' base v' (l++[x])∧Below base w w':=by
 obtain ⟨ht,hinf,hzs,hsz⟩:=Zlf;obtain ⟨i,hi,hz,hsize,hby⟩:=Qhg hinf;have hnews:=cell_one_new w (Qc9 x) 5;have hbW:Below base w (w.alloc (.cells #[Qc9 x] 5)):=(Below.refl _ _).alloc hbase _;have h1c:∀ u∈[Qc9 x],u.oneCell'=true:=fun u hu=>by simp at hu;subst hu;rfl
 have hnew:∀ (W:World) (old:Nat),old<l.length+1→W.heap.size=w.heap.size+1→Below base w W→Brow (W.drew.alloc (.cells ((l.map Qc9).toArray++#[Qc9 x]++Builtin.zeroCells (Value.int .u8 0).cells (grownCap W (l.length+1) old 5-(l.length+1))) 5)) base
   (.slice (some ⟨W.heap.size,0,none⟩) (l.length+1) (grownCap W (l.length+1) old 5)) (l++[x])∧Below base w (W.drew.alloc (.cells ((l.map Qc9).toArray++#[Qc9 x]++Builtin.zeroCells (Value.int .u8 0).cells (grownCap W (l.length+1) old 5-(l.length+1))) 5)):=by
  intro W old ho hs hB;have hge:=grownCap_ge W (l.length+1) old 5;have hcm:=grownCap_le_maxLen W (l.length+1) old 5 (by unfold maxLen;omega);have hcell:=Zle W.drew ((l.map Qc9).toArray++#[Qc9 x]++Builtin.zeroCells (Value.int .u8 0).cells (grownCap W (l.length+1) old 5-(l.length+1))) 5;have hcsz:((l.map Qc9).toArray++#[Qc9 x]++Builtin.zeroCells (Value.int .u8 0).cells (grownCap W (l.length+1) old 5-(l.length+1))).size=grownCap W (l.length+1) old 5:=by
   simp [size_zeroCells];have:(Value.int .u8 0).cells.size=1:=rfl;rw [this];omega
  refine ⟨.inr ⟨W.heap.size,_,by rw [W0e];rfl,by rw [hs];omega,by simp,by rw [W0e];simpa using hge,hcm,fun j hj=>?_,fun j hj=>?_,fun j y hy=>?_⟩,?_⟩
  ·have:=hcell j;rw [show W.drew.heap.size=W.heap.size from rfl] at this;rw [this,W1r (by rw [hcsz];exact hj)];rfl
  ·have:(W.drew.alloc (.cells ((l.map Qc9).toArray++#[Qc9 x]++Builtin.zeroCells (Value.int .u8 0).cells (grownCap W (l.length+1) old 5-(l.length+1))) 5)).heap[W.heap.size]?=_:=heap_alloc_new W.drew _;simp only [World.frozen?,this];simp
  ·have:=hcell j;rw [show W.drew.heap.size=W.heap.size from rfl] at this;rw [this];have hj:=(W0i.1 hy).1;rw [W0e] at hj;simp at hj;have e:((l.map Qc9).toArray++#[Qc9 x])=((l++[x]).map Qc9).toArray:=by simp
   rw [e,W2c (by simp;omega),List.getElem?_toArray,W0v,hy];rfl
  ·exact (hB.drew).alloc (by show base≤W.heap.size;omega) _
 rcases h with ⟨rfl,rfl⟩ | ⟨g,cap,rfl,hb,hg,hlc,hc,h1,h2,h3⟩
 ·have hr:=run_append_nil (P:=Tryz.prog) (w.alloc (.cells #[Qc9 x] 5)) 198 198 5 i (.int .u8 0) ht hi hz ⟨w.heap.size,0,none⟩ 1 1 [Qc9 x] (by rw [hsize];rfl) hnews (by omega) (by omega) (by rw [hby];omega);have hn:=hnew (w.alloc (.cells #[Qc9 x] 5)) 0 (by omega) (by simp) hbW;simp only [List.map_nil,W0f,Nat.zero_add] at hn;exact ⟨_,_,hr,by simpa using hn.1,by simpa using hn.2⟩
 ·by_cases hroom:l.length+1≤cap
  ·have hA:=(show Brow w base (.slice (some ⟨g,0,none⟩) l.length cap) l from .inr ⟨g,cap,rfl,hb,hg,hlc,hc,h1,h2,h3⟩).alloc (.cells #[Qc9 x] 5);rcases hA with ⟨he,_⟩ | ⟨g',cap',he,hb',hg',hlc',hc',k1,k2,k3⟩
   ·simp at he
   ·simp only [Value.slice.injEq,W0k,Addr.mk.injEq,and_true,true_and] at he;obtain ⟨rfl,rfl⟩:=he;have hr:=run_append_room_cells (P:=Tryz.prog) (w.alloc (.cells #[Qc9 x] 5)) 198 198 5 i ht hi g 0 l.length cap ⟨w.heap.size,0,none⟩ 1 1 [Qc9 x] (by rw [hsize];rfl) hnews h1c hroom
     (fun j hj=>by simp at hj;subst hj;rw [hsize];simpa using k1 l.length (by omega)) (fun j hj=>by simp at hj;subst hj;rw [hsize];simpa using k2 l.length (by omega))
    rw [hsize,Nat.mul_one,Nat.zero_add] at hr;have hset:(w.alloc (.cells #[Qc9 x] 5)).setCells g l.length [Qc9 x]=(w.alloc (.cells #[Qc9 x] 5)).setCell ⟨g,l.length,none⟩ (Qc9 x):=rfl;rw [hset] at hr;obtain ⟨u,hu⟩:=Option.isSome_iff_exists.1 (k1 l.length (by omega));refine ⟨_,_,hr,.inr ⟨g,cap,by rw [W0e];rfl,hb,by simpa using hg',by rw [W0e];exact hroom,hc,fun j hj=>?_,fun j hj=>?_,fun j y hy=>?_⟩,hbW.setCell hb _⟩
    ·by_cases hjk:l.length=j
     ·subst hjk;rw [World.cell?_setCell_same _ _ _ hu];rfl
     ·rw [World.cell?_setCell_other _ _ _ _ (by intro e;simp at e<;>exact hjk e)];exact k1 j hj
    ·have:=k2 j hj;simpa [go_sem] using this
    ·by_cases hjk:l.length=j
     ·subst hjk;rw [World.cell?_setCell_same _ _ _ hu];simp at hy;rw [hy]
     ·rw [World.cell?_setCell_other _ _ _ _ (by intro e;simp at e<;>exact hjk e)];have hj:=(W0i.1 hy).1;rw [W0e] at hj;simp at hj;rw [W0o (by omega)] at hy;exact k3 j y hy
  ·have hr:=run_append_grow (P:=Tryz.prog) (w.alloc (.cells #[Qc9 x] 5)) 198 198 5 i (.int .u8 0) ht hi hz ⟨g,0,none⟩ l.length cap (l.map Qc9) (by rw [hsize];simp)
    (fun j u hu=>by
     rw [Qbv,Nat.zero_add,World.cell?_alloc_lt _ _ _ hg];rw [W0v] at hu;cases hlj:l[j]? with
     | none=>rw [hlj] at hu;cases hu
     | some y=>rw [hlj] at hu;injection hu with hu;rw [← hu];exact h3 j y hlj)
    ⟨w.heap.size,0,none⟩ 1 1 [Qc9 x] (by rw [hsize];rfl) hnews (by omega) (by omega) (growslice_fits (by omega) (by rw [hby];omega))
   have hn:=hnew (w.alloc (.cells #[Qc9 x] 5)) cap (by omega) (by simp) hbW;exact ⟨_,_,hr,hn.1,hn.2⟩
end Go.Proofs.YtahlldgocpabjaaGreat

set_option maxRecDepth 100000
namespace Go.Proofs.YtahlldgocpabjaaGreat
open Go.RowKit Copyhold
attribute [local go_sem] Zb0
theorem Qrb (s:List UInt8) (a m:Nat) (w:World) (hs:s.length≤1048576) (h:ofOk a m) :
  Calls Tryz.prog 116 #[.string ⟨s.toArray⟩,.int .i64 a,.int .i64 m] w fun e w'=>e=.returned (.tuple #[.string ⟨((s.drop a).take m).toArray⟩,.int .i64 0])∧Below w.heap.size w w':=by
 obtain ⟨h1,h2,h3,h4⟩:=h
 go_enter Tryz.func116,Tryz.ntmps116
 go_wp2_with fail
 go_loopw [8,9] (fun sb si wr=>∃ (k:Nat) (l:List UInt8),si=.int .i64 ((a:Int)+k)∧l=(s.drop a).take k∧l.length=k∧k≤m∧Brow wr w.heap.size sb l∧Below w.heap.size w wr) (fun _ si _=>s.length-(intOf si).toNat)
 case atStart=>exact ⟨0,[],by simp,by simp,rfl,W0j _,.inl ⟨rfl,rfl⟩,Below.refl _ _⟩
 case round=>
  obtain ⟨k,l,rfl,hl,hlk,hk,hown,hb⟩:=hrel;have HL:=Lib.hid hl;have HLK:=Lib.hid hlk;have hll:l.length≤1048576:=by rw [hl];simp;omega
  have HO:=Lib.hid hown;obtain ⟨A,c,rfl⟩:=hown.shape;rw [hlk];clear hl hown;by_cases hlt:a+k<s.length
  ·by_cases hkm:k<m
   ·obtain ⟨v',w',hrun,hown',hb'⟩:=HO.out.append s[a+k] hll hb.size;rw [hlk] at hrun;have hnext:l++[s[a+k]]=(s.drop a).take (k+1):=by
     rw [HL.out,W15 (by simp;omega)];simp
    have HN:=Lib.hid hnext;have HO':=Lib.hid hown';have HB':=Lib.hid (hb.trans hb');have hin:(a:Int)+k<s.length:=by omega
    clear hnext hown' hb' hlk;unfold Qc9 at hrun
    go_wp2_with (at_builtin;refine Qel rfl _ _ _ rfl _ _ _ _ rfl rfl hrun ?_)
    go_roundw
    case rel=>exact ⟨k+1,l++[s[a+k]],by simp;omega,HN.out,by rw [W0e,HLK.out];rfl,by omega,HO'.out,HB'.out⟩
    case measure=>simp [intOf];omega
   ·have hfin:(s.drop a).take m=l:=by rw [HL.out,show k=m from by omega]
    have hbk:=HO.out.back;rw [hlk] at hbk;have HF:=Lib.hid hfin;clear hfin hlk
    go_wp2_with fail
    go_ret2
    exact ⟨by rw [HF.out];rfl,hb⟩
  ·have hfin:(s.drop a).take m=l:=by
    have h1:=HL.out;have h2:=HLK.out;rw [h1] at h2 ⊢;have h3:(s.drop a).length≤k:=by simp;omega
    rw [W1b h3,W1b (by omega)]
   have hbk:=HO.out.back;rw [hlk] at hbk;have HF:=Lib.hid hfin;have hd:decide ((a:Int)+k<s.length)=false:=by simp;omega
   clear hfin hlk
   go_wp2_with fail
   go_ret2
   exact ⟨by rw [HF.out];rfl,hb⟩
theorem Qph (s:List UInt8) (a m:Int) (w:World) (ha1:-9223372036854775808≤a) (ha2:a≤9223372036854775807) (hb1:-9223372036854775808≤m) (hb2:m≤9223372036854775807) (h:¬ ofOk a m) :
  Calls Tryz.prog 116 #[.string ⟨s.toArray⟩,.int .i64 a,.int .i64 m] w fun e w'=>e=.returned (.tuple #[.string ⟨#[]⟩,.int .i64 1])∧Below w.heap.size w w':=by
 unfold ofOk at h;rcases (show a<0∨0≤a∧1099511627776<a∨0≤a∧a≤1099511627776∧m<0∨0≤a∧a≤1099511627776∧0≤m∧1099511627776-a<m from by omega) with h1 | ⟨h1,h2⟩ | ⟨h1,h2,h3⟩ | ⟨h1,h2,h3,h4⟩
 all_goals
  clear h
  go_enter Tryz.func116,Tryz.ntmps116
  go_wp2_with fail
  go_ret2
  exact ⟨rfl,Below.refl _ _⟩
theorem Zbn (s:List UInt8) (a m:Int) (w:World) (hs:s.length≤1048576) (ha1:-9223372036854775808≤a) (ha2:a≤9223372036854775807) (hb1:-9223372036854775808≤m) (hb2:m≤9223372036854775807) :
  Calls Tryz.prog 116 #[.string ⟨s.toArray⟩,.int .i64 a,.int .i64 m] w fun e w'=>e=.returned (.tuple #[.string ⟨(Qez s a m).1.toArray⟩,.int .i64 (Qez s a m).2])∧Below w.heap.size w w':=by
 by_cases h:ofOk a m
 ·have hr:Qez s a m=((s.drop a.toNat).take m.toNat,0):=W1y h;rw [hr];obtain ⟨h1,h2,_⟩:=id h;obtain ⟨a,rfl⟩:=W19 h1;obtain ⟨m,rfl⟩:=W19 h2;rw [W2m,W2m];exact Qrb s a m w hs h
 ·have hr:Qez s a m=([],1):=W1x h;rw [hr];exact Qph s a m w ha1 ha2 hb1 hb2 h
end Go.Proofs.YtahlldgocpabjaaGreat

set_option maxRecDepth 100000
namespace Go.Proofs.YtahlldgocpabjaaGreat.dataSplit
open Go.RowKit Copyhold
theorem writeD_ok (l:List UInt8) (a:Nat) (t:List UInt8) (h:a+t.length≤4096):Qbk l a t=(if t=[] then l else putD l a t,0):=by
 have hr:Qbf a t.length=0:=by
  unfold Qbf;rw [W1y (by omega),W1x (by omega)]
 unfold Qbk;rw [W1y hr,W2m]
theorem Quu (l:List UInt8) (n i:Nat):(Qga l n)[i]?=if i<n then some (l.getD i 0) else none:=by
 unfold Qga;rw [W1q,W0g];by_cases h:i<n
 ·rw [W1y h];by_cases h2:i<l.length
  ·rw [W1y (by omega),W1c,W1y h];simp [List.getD,h2]
  ·rw [W1x (by omega),List.getElem?_replicate,W1y (by omega)];simp [List.getD,h2]
 ·rw [W1x h,W1x (by omega),List.getElem?_replicate,W1x (by omega)]
theorem get_putD (l:List UInt8) (a:Nat) (t:List UInt8) (i:Nat):(putD l a t)[i]?=if i<max l.length (a+t.length) then some (if a≤i∧i<a+t.length then t.getD (i-a) 0 else l.getD i 0) else none:=by
 unfold putD;generalize hm:max l.length (a+t.length)=m;rw [W1v,W1q,W0g,Qdz];by_cases h:i<a
 ·rw [W1y (by omega),W1c,W1y h,Quu,W1y (by omega),W1y (by omega),W1x (by omega)]
 ·rw [W1x (by omega),show min a m=a from by omega,W1q];by_cases h2:i-a<t.length
  ·rw [W1y h2,W1y (by omega),W1y (by omega)];simp [List.getD,h2]
  ·rw [W1x h2,W08,show a+t.length+(i-a-t.length)=i from by omega,Quu];by_cases h3:i<m
   ·rw [W1y h3,W1y h3,W1x (by omega)]
   ·rw [W1x h3,W1x h3]
end Go.Proofs.YtahlldgocpabjaaGreat.dataSplit

set_option maxRecDepth 100000
namespace Go.Proofs.YtahlldgocpabjaaGreat
open Go.RowKit Copyhold
attribute [local go_sem] Zb0
theorem Zc2 (l:List UInt8) (n j:Nat) (h:n≤l.length+j):(l++List.replicate j 0).take n=Qga l n:=by
 unfold Qga;rw [List.take_append,List.take_replicate,show min (n-l.length) j=n-l.length from by omega]
theorem Qt0 (s:List UInt8) (n:Nat) (w:World) (hs:s.length≤1048576) (hn:n≤4096) :
  Calls Tryz.prog 117 #[.string ⟨s.toArray⟩,.int .i64 n] w fun e w'=>e=.returned (.tuple #[.string ⟨(Qga s n).toArray⟩,.int .i64 0])∧Below w.heap.size w w':=by
 have h0:(0:Int)≤(n:Int):=by omega
 go_enter Tryz.func117,Tryz.ntmps117
 go_wp2_with fail
 go_loopw [0] (fun so wr=>∃ (l:List UInt8) (j:Nat),so=.string ⟨l.toArray⟩∧l=s++List.replicate j 0∧l.length≤2097152∧Below w.heap.size w wr∧(j=0∨s.length+j≤n)) (fun so _=>n-(match so with | .string b=>b.size | _=>0))
 case atStart=>exact ⟨s,0,rfl,by simp,by omega,Below.refl _ _,.inl rfl⟩
 case round=>
  obtain ⟨l,j,rfl,hl,hll,hb,hj⟩:=hrel;have HL:=Lib.hid hl;have hlen:l.length=s.length+j:=by rw [hl];simp
  have HLEN:=Lib.hid hlen;clear hl hlen;by_cases hlt:l.length<n
  ·have hnext:l++[0]=s++List.replicate (j+1) 0:=by rw [HL.out,W1v,List.replicate_succ']
   have HN:=Lib.hid hnext;clear hnext
   go_wp2_with fail
   go_roundw
   case rel=>exact ⟨l++[0],j+1,rfl,HN.out,by rw [W0e];simp;omega,hb,.inr (by have:=HLEN.out;omega)⟩
   case measure=>simp [ByteArray.size];omega
  ·have hfin:l.take n=Qga s n:=by rw [HL.out];exact Zc2 s n j (by have:=HLEN.out;omega)
   have HF:=Lib.hid hfin;have hle:(n:Int)≤(l.length:Int):=by omega
   clear hfin
   go_wp2_with fail
   go_ret2
   exact ⟨by rw [← HF.out];rfl,hb⟩
theorem Zeh (s:List UInt8) (n:Int) (w:World) (hs:s.length≤1048576) (h1:-9223372036854775808≤n) (h2:n≤9223372036854775807) :
  Calls Tryz.prog 117 #[.string ⟨s.toArray⟩,.int .i64 n] w fun e w'=>e=.returned (.tuple #[.string ⟨(cutD s n).1.toArray⟩,.int .i64 (cutD s n).2])∧Below w.heap.size w w':=by
 rcases (show n<0∨0≤n∧1099511627776<n∨0≤n∧n≤1099511627776∧4096<n∨0≤n∧n≤4096 from by omega) with h | ⟨h,h'⟩ | ⟨h,h',h''⟩ | ⟨h,h'⟩
 ·have hr:Qbf 0 n=1:=by unfold Qbf;rw [W1x (by omega)]
  have hc:cutD s n=(s,1):=by unfold cutD;rw [hr];rfl
  rw [hc];clear hr hc
  go_enter Tryz.func117,Tryz.ntmps117
  go_wp2_with fail
  go_ret2
  exact ⟨rfl,Below.refl _ _⟩
 ·have hr:Qbf 0 n=1:=by unfold Qbf;rw [W1x (by omega)]
  have hc:cutD s n=(s,1):=by unfold cutD;rw [hr];rfl
  rw [hc];clear hr hc
  go_enter Tryz.func117,Tryz.ntmps117
  go_wp2_with fail
  go_ret2
  exact ⟨rfl,Below.refl _ _⟩
 ·have hr:Qbf 0 n=5:=by unfold Qbf;rw [W1y (by omega),W1y (by omega)]
  have hc:cutD s n=(s,5):=by unfold cutD;rw [hr];rfl
  rw [hc];clear hr hc
  go_enter Tryz.func117,Tryz.ntmps117
  go_wp2_with fail
  go_ret2
  exact ⟨rfl,Below.refl _ _⟩
 ·obtain ⟨n,rfl⟩:=W19 h;have hr:Qbf 0 (n:Int)=0:=by unfold Qbf;rw [W1y (by omega),W1x (by omega)]
  have hc:cutD s n=(Qga s n,0):=by unfold cutD;rw [W1y hr,W2m]
  rw [hc];exact Qt0 s n w hs (by omega)
end Go.Proofs.YtahlldgocpabjaaGreat

set_option maxRecDepth 100000
namespace Go.Proofs.YtahlldgocpabjaaGreat
open Go.RowKit Copyhold
attribute [local go_sem] Zb0
def Qh8 (L:List UInt8) (a:Nat) (t:List UInt8) (i:Nat):List UInt8:=L.take a++t.take i++L.drop (a+i)
theorem Qnw (L:List UInt8) (a:Nat) (t:List UInt8) (i:Nat) (ha:a≤L.length) (hi:i≤t.length):(Qh8 L a t i).length=max L.length (a+i):=by
 unfold Qh8;simp;omega
theorem Zev (L:List UInt8) (a:Nat) (t:List UInt8) (i:Nat) (ha:a≤L.length) (hi:i<t.length) (h:a+i<(Qh8 L a t i).length):(Qh8 L a t i).set (a+i) t[i]=Qh8 L a t (i+1):=by
 rw [Qnw L a t i ha (by omega)] at h;have hA:(L.take a++t.take i).length=a+i:=by simp;omega
 unfold Qh8;rw [List.set_append_right _ _ (by omega),hA,Nat.sub_self,List.drop_eq_getElem_cons (by omega),List.set_cons_zero,W15 hi,Nat.add_assoc,W1v,W1v,W1v,List.singleton_append]
theorem Zex (L:List UInt8) (a:Nat) (t:List UInt8) (i:Nat) (ha:a≤L.length) (hi:i<t.length) (h:¬ a+i<(Qh8 L a t i).length):Qh8 L a t i++[t[i]]=Qh8 L a t (i+1):=by
 rw [Qnw L a t i ha (by omega)] at h;unfold Qh8;rw [List.drop_eq_nil_of_le (by omega),List.drop_eq_nil_of_le (by omega),W15 hi];simp
theorem Zew (s:List UInt8) (a j:Nat) (t:List UInt8) (h:a≤s.length+j) (h':j=0∨s.length+j≤a):Qh8 (s++List.replicate j 0) a t t.length=putD s a t:=by
 have hL:∀ i,(s++List.replicate j (0:UInt8))[i]?=if i<s.length+j then some (s.getD i 0) else none:=by
  intro i;rw [W1q];by_cases h1:i<s.length
  ·rw [W1y h1,W1y (by omega)];simp [List.getD,h1]
  ·rw [W1x h1,List.getElem?_replicate];by_cases h2:i<s.length+j
   ·rw [W1y (by omega),W1y h2];simp [List.getD,h1]
   ·rw [W1x (by omega),W1x h2]
 apply List.ext_getElem?;intro i;rw [dataSplit.get_putD];unfold Qh8;rw [W1v,W1q,W0g,W0e,W00,show min a (s.length+j)=a from by omega];by_cases hi:i<a
 ·rw [W1y hi,W1c,W1y hi,hL,W1y (by omega),W1y (by omega),W1x (by omega)]
 ·rw [W1x hi,W1q,W0g,Nat.min_self];by_cases h2:i-a<t.length
  ·rw [W1y h2,W1y (by omega),W1y (by omega),W13];simp [List.getD,h2]
  ·rw [W1x h2,W08,show a+t.length+(i-a-t.length)=i from by omega,hL];by_cases h3:i<s.length+j
   ·rw [W1y h3,W1y (by omega),W1x (by omega)]
   ·rw [W1x h3,W1x (by omega)]
theorem Qpg (s:List UInt8) (a:Nat) (t:List UInt8) (w:World) (hs:s.length≤524288) (ht:t ≠ []) (h:a+t.length≤4096) :
  Calls Tryz.prog 118 #[.string ⟨s.toArray⟩,.int .i64 a,.string ⟨t.toArray⟩] w fun e w'=>e=.returned (.tuple #[.string ⟨(putD s a t).toArray⟩,.int .i64 0])∧Below w.heap.size w w':=by
 have hte:t.isEmpty=false:=by simpa using ht
 have htl:0<t.length:=List.length_pos_iff.2 ht;have hcv:=Lib.run_convert_string_bytes (P:=Tryz.prog) w 9 198 5 ⟨s.toArray⟩ Tryz.underlying9 Tryz.underlying198 Tryz.underlying5;have hsz:(⟨s.toArray⟩:ByteArray).size=s.length:=by simp [ByteArray.size]
 rw [hsz] at hcv;have HO:=Lib.hid (Brow.made w s (by omega));have HB:=Lib.hid (Qx7 w 5 ⟨s.toArray⟩);generalize Lib.bytesWorld w 5 ⟨s.toArray⟩=W0 at *;generalize grownCap w s.length 0 5=cap at *;clear ht hsz
 go_enter Tryz.func118,Tryz.ntmps118
 go_wp2_with fail
 go_loopw [8] (fun sb wr=>∃ (l:List UInt8) (j c:Nat) (A:Option Addr),sb=.slice A l.length c∧l=s++List.replicate j 0∧(j=0∨s.length+j≤a)∧Brow wr w.heap.size sb l∧Below w.heap.size w wr) (fun sb _=>a-(match sb with | .slice _ n _=>n | _=>0))
 case atStart=>exact ⟨s,0,cap,some ⟨w.heap.size,0,none⟩,rfl,by simp,.inl rfl,HO.out,HB.out⟩
 case round=>
  obtain ⟨l,j,c,A,rfl,hl,hj,hown,hb⟩:=hrel;have hlen:l.length=s.length+j:=by rw [hl];simp
  have hll:l.length≤1048576:=by omega
  have HL:=Lib.hid hl;have HLEN:=Lib.hid hlen;have HOWN:=Lib.hid hown;clear hl hlen hown;by_cases hlt:l.length<a
  ·obtain ⟨v',w',hrun,hown',hb'⟩:=HOWN.out.append 0 hll hb.size;have hnext:l++[0]=s++List.replicate (j+1) 0:=by rw [HL.out,W1v,List.replicate_succ']
   obtain ⟨A',c',rfl⟩:=hown'.shape;rw [W0e,List.length_singleton] at hrun hown';have HN:=Lib.hid hnext;have HO':=Lib.hid hown';have HB':=Lib.hid (hb.trans hb');clear hnext hown' hb';have hrun:Sem.run Tryz.prog (Builtin.append_ #[198,198] 198 #[.slice A l.length c,.slice (some ⟨wr.heap.size,0,none⟩) 1 1]) (wr.alloc (.cells #[.int .u8 0] 5))=.ok (.slice A' (l.length+1) c') w':=hrun
   go_wp2_with (at_builtin;refine Qel rfl _ _ _ rfl _ _ _ _ rfl rfl hrun ?_)
   go_roundw
   case rel=>exact ⟨l++[0],j+1,c',A',by rw [W0e];rfl,HN.out,.inr (by have:=HLEN.out;omega),HO'.out,HB'.out⟩
   case measure=>simp;omega
  ·have hal:a≤l.length:=by omega
   have hend:Qh8 l a t t.length=putD s a t:=by rw [HL.out];exact Zew s a j t (by have:=HLEN.out;omega) hj
   have HEND:=Lib.hid hend;clear hend
   go_wp2_with fail
   go_loopw [8,9] (fun sb si wr=>∃ (i c:Nat) (L:List UInt8) (A:Option Addr),si=.int .i64 i∧sb=.slice A L.length c∧L=Qh8 l a t i∧i≤t.length∧Brow wr w.heap.size sb L∧Below w.heap.size w wr) (fun _ si _=>t.length-(intOf si).toNat)
   case atStart=>exact ⟨0,c,l,A,rfl,rfl,by simp [Qh8],W0j _,HOWN.out,hb⟩
   case round=>
    obtain ⟨i,c2,L,A2,rfl,rfl,hL,hi,hown2,hb2⟩:=hrel;have hLl:L.length=max l.length (a+i):=by rw [hL];exact Qnw l a t i hal hi
    have hl2:l.length≤528384:=by have:=HLEN.out;omega
    have hLb:L.length≤1048576:=by omega
    have HL2:=Lib.hid hL;have HLL:=Lib.hid hLl;have HO2:=Lib.hid hown2;clear hL hLl hown2;by_cases hit:i<t.length
    ·have hx:∃ x,x=t[i]:=⟨_,rfl⟩
     obtain ⟨x,hx⟩:=hx;have hii:(i:Int)<(t.length:Int):=by omega
     by_cases hin:a+i<L.length
     ·have hnext:L.set (a+i) x=Qh8 l a t (i+1):=by rw [HL2.out,hx];exact Zev l a t i hal hit (by rw [← HL2.out];exact hin)
      have hsh:∃ g,A2=some ⟨g,0,none⟩:=by
       rcases HO2.out with ⟨he,hh⟩ | ⟨g,cap',he,_⟩
       ·rw [hh] at hin;simp at hin
       ·simp only [Value.slice.injEq] at he;exact ⟨g,he.1⟩
      obtain ⟨g,rfl⟩:=hsh;obtain ⟨hbg,⟨u,hcu⟩,hfu,hst⟩:=HO2.out.store (a+i) x hin;have HN:=Lib.hid hnext;have HST:=Lib.hid hst;have HB3:=Lib.hid (hb2.setCell (p:=⟨g,a+i,none⟩) hbg (Qc9 x));have hain:(a:Int)+i<(L.length:Int):=by omega
      subst hx;clear hnext hst
      go_wp2_with fail
      go_roundw
      case rel=>exact ⟨i+1,c2,L.set (a+i) t[i],_,by go_num,by rw [List.length_set],HN.out,by omega,HST.out,HB3.out⟩
      case measure=>simp [intOf];omega
     ·obtain ⟨v',w',hrun,hown',hb'⟩:=HO2.out.append x hLb hb2.size;have hnext:L++[x]=Qh8 l a t (i+1):=by rw [HL2.out,hx];exact Zex l a t i hal hit (by rw [← HL2.out];exact hin)
      obtain ⟨A',c',rfl⟩:=hown'.shape;rw [W0e,List.length_singleton] at hrun hown';have HN:=Lib.hid hnext;have HO':=Lib.hid hown';have HB':=Lib.hid (hb2.trans hb');have hain:¬ (a:Int)+i<(L.length:Int):=by omega
      clear hnext hown' hb';rw [hx] at hrun;unfold Qc9 at hrun
      go_wp2_with (at_builtin;refine Qel rfl _ _ _ rfl _ _ _ _ rfl rfl hrun ?_)
      go_roundw
      case rel=>exact ⟨i+1,c',L++[x],A',by go_num,by rw [W0e];rfl,HN.out,by omega,HO'.out,HB'.out⟩
      case measure=>simp [intOf];omega
    ·have hfin:L=putD s a t:=by rw [HL2.out,show i=t.length from by omega,HEND.out]
     have hbk:=HO2.out.back;have HF:=Lib.hid hfin;clear hfin
     go_wp2_with fail
     go_ret2
     exact ⟨by rw [← HF.out];rfl,hb2⟩
theorem Qwv (s:List UInt8) (a:Int) (t:List UInt8) (w:World) (hs:s.length≤524288) (ht:t.length≤524288) (h1:-9223372036854775808≤a) (h2:a≤9223372036854775807) :
  Calls Tryz.prog 118 #[.string ⟨s.toArray⟩,.int .i64 a,.string ⟨t.toArray⟩] w fun e w'=>e=.returned (.tuple #[.string ⟨(Qbk s a t).1.toArray⟩,.int .i64 (Qbk s a t).2])∧Below w.heap.size w w':=by
 rcases (show a<0∨0≤a∧1099511627776-(t.length:Int)<a∨0≤a∧a≤1099511627776-(t.length:Int)∧4096<a+t.length∨0≤a∧a+t.length≤4096 from by omega) with h | ⟨h,h'⟩ | ⟨h,h',h''⟩ | ⟨h,h'⟩
 ·have hr:Qbf a t.length=1:=by unfold Qbf;rw [W1x (by omega)]
  have hc:Qbk s a t=(s,1):=by unfold Qbk;rw [hr];rfl
  rw [hc];clear hr hc
  go_enter Tryz.func118,Tryz.ntmps118
  go_wp2_with fail
  go_ret2
  exact ⟨rfl,Below.refl _ _⟩
 ·have hr:Qbf a t.length=1:=by unfold Qbf;rw [W1x (by omega)]
  have hc:Qbk s a t=(s,1):=by unfold Qbk;rw [hr];rfl
  rw [hc];clear hr hc
  go_enter Tryz.func118,Tryz.ntmps118
  go_wp2_with fail
  go_ret2
  exact ⟨rfl,Below.refl _ _⟩
 ·have hr:Qbf a t.length=5:=by unfold Qbf;rw [W1y (by omega),W1y (by omega)]
  have hc:Qbk s a t=(s,5):=by unfold Qbk;rw [hr];rfl
  rw [hc];clear hr hc
  go_enter Tryz.func118,Tryz.ntmps118
  go_wp2_with fail
  go_ret2
  exact ⟨rfl,Below.refl _ _⟩
 ·obtain ⟨a,rfl⟩:=W19 h;rw [dataSplit.writeD_ok s a t (by omega)];by_cases h0:t=[]
  ·subst h0;rw [W1y rfl];simp only;have hlen:(a:Int)≤4096:=by simpa using h'
   clear h'
   go_enter Tryz.func118,Tryz.ntmps118
   go_wp2_with fail
   go_ret2
   exact ⟨rfl,Below.refl _ _⟩
  ·rw [W1x h0];exact Qpg s a t w hs h0 (by omega)
end Go.Proofs.YtahlldgocpabjaaGreat
