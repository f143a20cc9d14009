import Derived.Test.YtahlldgocpabjaaGreatAl
import Derived.Test.YtahlldgocpabjaaGreatMrgO
set_option maxRecDepth 100000
set_option maxHeartbeats 8000000
set_option linter.unusedVariables false
set_option linter.unusedSimpArgs false
namespace Go.Proofs.YtahlldgocpabjaaGreat
open Go Go.RowKit Copyhold Go.Proofs.Tryz
open Copyhold.Name (Srt insE delE getE isAt)
noncomputable def mov0 (f:Fsy) (dir:Int) (s:Txt) (to:Int) (t:Txt) (n:Nod) (th:Bool) (m:Nod):Fsy:=enterF (leaveF (if th=true then Qbm f to t m else f) dir s) to t n.ino
noncomputable def mov1 (f:Fsy) (dir:Int) (s:Txt) (to:Int) (t:Txt):Int:=Qax [Qa4 f dir s,dirE f to,Qak t,Qag (Qb6 f to (lookN f dir s)) 13]
def movI (f:Fsy) (to:Int) (t:Txt):Int:=getI (dirN f to).l t
def movB (f:Fsy) (to:Int) (t:Txt):Bool:=isB (dirN f to).l t
noncomputable def mov2 (f:Fsy) (dir:Int) (s:Txt) (to:Int) (t:Txt):Int:=if movB f to t=false then Qag ((to != dir)&&decide (((dirN f to).l.length:Int)≥256)) 12 else if movI f to t=(lookN f dir s).ino then 0 else Qdi (lookN f dir s) (Qaa f (movI f to t))
noncomputable def Qbc (f:Fsy) (dir:Int) (s:Txt) (to:Int) (t:Txt):Int:=if mov1 f dir s to t=0 then mov2 f dir s to t else mov1 f dir s to t
noncomputable def movF (f:Fsy) (dir:Int) (s:Txt) (to:Int) (t:Txt):Fsy:=if mov1 f dir s to t=0 then (if movB f to t=true∧movI f to t=(lookN f dir s).ino then f else if mov2 f dir s to t=0 then mov0 f dir s to t (lookN f dir s) (movB f to t) (Qaa f (movI f to t)) else f) else f
def MovH (f:Fsy) (dir:Int) (s:Txt) (to:Int) (t:Txt) (th:Bool) (m:Nod):Prop:=
 (th=true→OkF (Qbm f to t m)∧Qan (Qbm f to t m)∧OkF (leaveF (Qbm f to t m) dir s)∧Qan (leaveF (Qbm f to t m) dir s))∧(th=false→OkF (leaveF f dir s)∧Qan (leaveF f dir s))
structure MovP (f:Fsy) (a:Int) (s:Txt) (b:Int) (t:Txt) (d dt n:Nod) (j:Int):Prop where
 dir:atF f a=some d
 kind:d.kind=2
 chk:Qak s=0
 ent:getE (lI d.l) s=some j
 node:atF f j=some n
 look:lookN f a s=n
 to:atF f b=some dt
 kindt:dt.kind=2
 chkt:Qak t=0
 apart:Qb6 f b n=false
theorem Zmg {a b c d:Int}:Qax [a,b,c,d]=if a=0 then (if b=0 then (if c=0 then d else c) else b) else a:=by
 unfold Qax;by_cases h:a=0<;>by_cases h2:b=0<;>by_cases h3:c=0<;>by_cases h4:d=0<;>simp [h,h2,h3,h4]
theorem Qze {f:Fsy} {dir:Int} {s:Txt} {to:Int} {t:Txt} (hp:Qan f) (h:mov1 f dir s to t=0):∃ d dt n j,MovP f dir s to t d dt n j:=by
 unfold mov1 at h;rw [Zmg] at h
 split at h
 ·rename_i h1
  split at h
  ·rename_i h2
   split at h
   ·rename_i h3;obtain ⟨d,j,n,a1,a2,a3,a4,a5⟩:=(Qi8 hp).1 h1;obtain ⟨dt,b1,b2,_⟩:=Qvr h2;have hn:=(Qfm a1 a2 a3 a4 a5).2;rw [Qv4 (by decide),hn] at h;exact ⟨d,dt,n,j,a1,a2,a3,a4,a5,hn,b1,b2,h3,h⟩
   ·exact absurd h (by assumption)
  ·exact absurd h (by assumption)
 ·exact absurd h (by assumption)
theorem MovP.nino {f:Fsy} {dir:Int} {s:Txt} {to:Int} {t:Txt} {d dt n:Nod} {j:Int} (A:MovP f dir s to t d dt n j):n.ino=j:=Qc7 A.node
theorem MovP.mB {f:Fsy} {dir:Int} {s:Txt} {to:Int} {t:Txt} {d dt n:Nod} {j:Int} (A:MovP f dir s to t d dt n j):movB f to t=isB dt.l t∧movI f to t=getI dt.l t∧dirN f to=dt:=by
 have e:=(Qoz A.to A.kindt).2;unfold movB movI;rw [e];exact ⟨rfl,rfl,rfl⟩
theorem Qnz {n m:Nod} (h:Qdi n m=0):Qdd m=false∧(m.kind=2↔n.kind=2):=by
 unfold Qdi at h;rw [Qjr] at h
 split at h
 ·rename_i h1
  split at h
  ·rename_i h2;rw [Qv4 (by decide)] at h h1 h2;refine ⟨h,?_⟩;by_cases hn:n.kind=2<;>by_cases hm:m.kind=2<;>simp_all
  ·exact absurd h (by assumption)
 ·exact absurd h (by assumption)
theorem Qor {m:Nod} (h:Qdd m=false) (hk:m.kind=2):m.l=[]:=by
 unfold Qdd at h;simp only [hk,beq_self_eq_true,Bool.true_and,decide_eq_false_iff_not] at h;exact W0l (by omega)
theorem Que {f:Fsy} {dir:Int} {s:Txt} {to:Int} {t:Txt} {d dt n:Nod} {j:Int} (hp:Qan f) (A:MovP f dir s to t d dt n j) (hb:isB dt.l t=true) (ho:Qdi n (Qaa f (getI dt.l t))=0) :
  (atF f (Qaa f (getI dt.l t)).ino=some (Qaa f (getI dt.l t))∨Qaa f (getI dt.l t)=nod0)∧¬ (Qaa f (getI dt.l t)).ino=dir∧¬ (Qaa f (getI dt.l t)).ino=to:=by
 obtain ⟨h1,h2⟩:=Qnz ho;have hx:atF f (Qaa f (getI dt.l t)).ino=some (Qaa f (getI dt.l t))∨Qaa f (getI dt.l t)=nod0:=by
  by_cases hf:Qav f (getI dt.l t)=true
  ·left;have:=Qgb hf;rw [Qc7 this];exact this
  ·right;exact (Qvq (Qil (by simpa using hf))).2
 refine ⟨hx,fun e=>?_,fun e=>?_⟩
 ·rcases hx with hx | hx
  ·rw [e,A.dir] at hx;have hd:=W0c hx;rw [← hd] at h1;have:=Qor h1 A.kind;have g:=A.ent;rw [this] at g;cases g
  ·have:=(Qbh hp A.dir).1.1;have h3:=(Qbh hp A.dir).2.2;rw [hx] at e;have:nod0.ino=0:=rfl;omega
 ·rcases hx with hx | hx
  ·rw [e,A.to] at hx;have hd:=W0c hx;rw [← hd] at h1;have:=Qor h1 A.kindt;rw [this] at hb;cases hb
  ·have:=(Qbh hp A.to).1.1;have h3:=(Qbh hp A.to).2.2;rw [hx] at e;have:nod0.ino=0:=rfl;omega
theorem Zjx {f:Fsy} {dir:Int} {s:Txt} {to:Int} {t:Txt} (okf:OkF f) (hp:Qan f) (h1:mov1 f dir s to t=0) (h2:movB f to t=true→Qdi (lookN f dir s) (Qaa f (movI f to t))=0):MovH f dir s to t (movB f to t) (Qaa f (movI f to t)):=by
 obtain ⟨d,dt,n,j,A⟩:=Qze hp h1;obtain ⟨e1,e2,e3⟩:=A.mB;refine ⟨fun hb=>?_,fun _=>?_⟩
 ·have ho:=h2 hb;rw [e1] at hb;rw [A.look,e2] at ho;rw [e2];obtain ⟨hx,hd,ht⟩:=Que hp A hb ho;obtain ⟨w1,w2,w3,w4,w5⟩:=Qld (s:=t) okf hp A.to A.kindt hx;have hdir:∃ d',atF (Qbm f to t (Qaa f (getI dt.l t))) dir=some d'∧d'.kind=2:=by
   rw [w5,W1x (fun e=>hd e.symm)]
   split
   ·exact ⟨_,rfl,A.kindt⟩
   ·exact ⟨d,A.dir,A.kind⟩
  obtain ⟨d',g1,g2⟩:=hdir;obtain ⟨l1,l2,_⟩:=Qd8 (s:=s) w1 w2 g1 g2;exact ⟨w1,w2,l1,l2⟩
 ·obtain ⟨l1,l2,_⟩:=Qd8 (s:=s) okf hp A.dir A.kind;exact ⟨l1,l2⟩
theorem Zb4 (f:Fsy) (dir:Int) (s:Txt) (to:Int) (t:Txt) (n:Nod) (th:Bool) (m:Nod) (okf:OkF f) (hp:Qan f) (hs:s.length≤1000000) (ht:t.length≤1000000) (hn:I64 n.ino) (hm:I64 m.ino∧m.ino<9223372036854775807) (hk:0≤m.links∧m.links≤1000) (H:MovH f dir s to t th m):Qai prog 189 [.dptr (fsyA f),.dptr [aB th],.dptr [aI to],.dptr [aS t],.dptr (nodA m),.dptr [aI dir],.dptr [aS s],.dptr (nodA n)] (.agg (fsyA (mov0 f dir s to t n th m))):=by
 exact Qae func189 (
 .new fun b1=>.r 1<|.new fun b2=>.u 1 [b2]<|
 .r 1<|.br 11 (th) (fun q1=>have p1:=booT q1;.u 4 [b2]<|
 .call (Qvp f to t m okf hp ht hm hk)<|
 .u 1 [b2]<|
 .ord [0,1,2,4,5,6,7,3,8,9]<|.u 7 [b2]<|
 .call (Qjz (Qbm f to t m) dir s (H.1 q1).1 (H.1 q1).2.1 hs)<|
 .call (Qhl (leaveF (Qbm f to t m) dir s) to t n.ino (H.1 q1).2.2.1 (H.1 q1).2.2.2 ht hn)<|
 .u 1 [b1]<|
 .f (.agg (fsyA (mov0 f dir s to t n th m))) [b1] (.agg [.sl 5 false ((enterF (leaveF (Qbm f to t m) dir s) to t n.ino).l.map nodA),aI ((enterF (leaveF (Qbm f to t m) dir s) to t n.ino).next)]) (by
  have e:mov0 f dir s to t n th m=enterF (leaveF (Qbm f to t m) dir s) to t n.ino:=by unfold mov0;rw [W1y q1]
  rw [e];exact sR))
 <| fun q1=>have p1:=booF q1;.ord [0,1,2,4,5,6,7,3,8,9]<|.u 7 [b2]<|
 .call (Qjz f dir s okf hp hs)<|
 .call (Qhl (leaveF f dir s) to t n.ino (H.2 q1).1 (H.2 q1).2 ht hn)<|
 .u 1 [b1]<|
 .f (.agg (fsyA (mov0 f dir s to t n th m))) [b1] (.agg [.sl 5 false ((enterF (leaveF f dir s) to t n.ino).l.map nodA),aI ((enterF (leaveF f dir s) to t n.ino).next)]) (by
  have e:mov0 f dir s to t n th m=enterF (leaveF f dir s) to t n.ino:=by unfold mov0;rw [W1x (by rw [q1];decide)]
  rw [e];exact sR))
theorem Qh0 (e:Int) (f:Fsy) (dir:Int) (s:Txt) (to:Int) (t:Txt) (n:Nod) (th:Bool) (m:Nod) (okf:OkF f) (hp:Qan f) (hs:s.length≤1000000) (ht:t.length≤1000000) (hn:I64 n.ino) (hm:I64 m.ino∧m.ino<9223372036854775807) (hk:0≤m.links∧m.links≤1000) (H:e=0→MovH f dir s to t th m):Qai prog 184 [.agg (fsyA f),aI e,.clo 189 [.dptr (fsyA f),.dptr [aB th],.dptr [aI to],.dptr [aS t],.dptr (nodA m),.dptr [aI dir],.dptr [aS s],.dptr (nodA n)]] (.tup [.agg (fsyA (if e=0 then mov0 f dir s to t n th m else f)),aI e]):=by
 exact Qae func184 (
 .new fun b1=>.new fun b2=>.r 1<|.r 2<|.br 9 (e != 0) (fun q1=>have p1:=bneT q1;.u 4 [b1,b2]<|
 .f (.tup [.agg (fsyA (if e=0 then mov0 f dir s to t n th m else f)),aI e]) [b2] (.tup [.agg (fsyA f),aI e]) (by
  rw [W1x (show ¬ e=0 from by omega)];exact sR))
 <| fun q1=>have p1:=bneF q1;.r 1<|.call (Zb4 f dir s to t n th m okf hp hs ht hn hm hk (H (by simpa using q1)))<|
 .u 2 [b2]<|
 .f (.tup [.agg (fsyA (if e=0 then mov0 f dir s to t n th m else f)),aI e]) [b2] (.tup [.agg [.sl 5 false ((mov0 f dir s to t n th m).l.map nodA),aI ((mov0 f dir s to t n th m).next)],aI 0]) (by
  rw [W1y (show e=0 from by omega),show e=0 from by omega];exact sR))
end Go.Proofs.YtahlldgocpabjaaGreat

namespace Go.Proofs.YtahlldgocpabjaaGreat
open Go Go.RowKit Copyhold Go.Proofs.Tryz
theorem Zfn (f:Fsy) (dir:Int) (s:Txt) (to:Int) (t:Txt) (okf:OkF f) (hp:Qan f) (hs:s.length≤1000000) (ht:t.length≤1000000):Qai prog 145 [.agg (fsyA f),aI dir,aS s,aI to,aS t] (.tup [.agg (fsyA (movF f dir s to t)),aI (Qbc f dir s to t)]):=by
 have hl:=hp.1;have hr:=Qaf hp;exact Qae func145 (
 .new fun b1=>.new fun b2=>.new fun b3=>.new fun b4=>.new fun b5=>.new fun b6=>.r 1<|.u 3 [b1,b2,b3]<|
 .call (Qkw f dir s hp hs)<|
 .r 3<|.new fun b7=>.u 2 [b7]<|
 .u 2 [b1,b4]<|
 .call (Qjg f to hp)<|
 .r 3<|.new fun b8=>.u 2 [b8]<|
 .ord [0,1,2,4,5,6,3,7,8,9,10,11]<|.u 6 [b5,b1,b4,b7]<|
 .call (Qff t (by omega))<|
 .call (Qv1 f to (lookN f dir s) okf (by omega) hr)<|
 .call (Qbw (Qb6 f to (lookN f dir s)) 13)<|
 .r 1<|.cs (args0:=[.sl 1 true ([[aI (Qa4 f dir s)],[aI (dirE f to)],[aI (Qak t)],[aI (Qag (Qb6 f to (lookN f dir s)) 13)]])]) (Qcu [(Qa4 f dir s),(dirE f to),(Qak t),(Qag (Qb6 f to (lookN f dir s)) 13)] (by simp)) ⟨Zcg (Qa4 f dir s) (dirE f to) (Qak t) (Qag (Qb6 f to (lookN f dir s)) 13),trivial⟩<|
 .r 1<|.r 2<|.br 45 ((Qax [(Qa4 f dir s),(dirE f to),(Qak t),(Qag (Qb6 f to (lookN f dir s)) 13)]) != 0) (fun q1=>have p1:=bneT q1;.u 4 [b1,b6]<|
 .f (.tup [.agg (fsyA (movF f dir s to t)),aI (Qbc f dir s to t)]) [b6] (.tup [.agg (fsyA f),aI (Qax [(Qa4 f dir s),(dirE f to),(Qak t),(Qag (Qb6 f to (lookN f dir s)) 13)])]) (by
  have h1:¬ mov1 f dir s to t=0:=(bneT q1)
  have e1:Qbc f dir s to t=mov1 f dir s to t:=W1x h1;have e2:movF f dir s to t=f:=W1x h1;rw [e1,e2];exact sR))
 <| fun q1=>have p1:=bneF q1;.u 3 [b8,b5]<|
 .call (Qgs ((dirN f to).l) t (by have:=(Qdo hp to).2;omega) (Qdo hp to).1)<|
 .r 3<|.new fun b9=>.u 2 [b9]<|
 .u 2 [b1]<|
 .call (Qcp f (getI ((dirN f to).l) t) (by omega) hr)<|
 .r 3<|.new fun b10=>.u 2 [b10]<|
 .u 3 [b9]<|
 .br 64 (!(isB ((dirN f to).l) t)) (fun q2=>have q2:=notT q2;have p2:=booF q2;.u 4 [b4,b2]<|
 .br 70 (to != dir) (fun q3=>have p3:=bneT q3;.u 3 [b8]<|
 .lm 73 ((dirN f to).l) entA<|.r 2<|.call (Qbw (decide ((((dirN f to).l).length:Int)≥256)) 12)<|
 .r 1<|.frz 5 [5,6,7,8,9,10,11,12,13,17,18,45,64,70] [6,7,8,9,10,12,17,18] [b1=b1] rt1<|
 .frz 17 [5,6,7,8,9,10,11,12,13,17,18,45,64,70] [6,7,8,9,10,12,18] [b9=b9] rt1<|
 .frz 8 [5,6,7,8,9,10,11,12,13,17,18,45,64,70] [6,7,9,10,12,18] [b4=b4] rt1<|
 .frz 9 [5,6,7,8,9,10,11,12,13,17,18,45,64,70] [6,7,10,12,18] [b5=b5] rt1<|
 .frz 18 [5,6,7,8,9,10,11,12,13,17,18,45,64,70] [6,7,10,12] [b10=b10] rt1<|
 .frz 6 [5,6,7,8,9,10,11,12,13,17,18,45,64,70] [7,10,12] [b2=b2] rt1<|
 .frz 7 [5,6,7,8,9,10,11,12,13,17,18,45,64,70] [10,12] [b3=b3] rt1<|
 .frz 12 [5,6,7,8,9,10,11,12,13,17,18,45,64,70] [10] [b7=b7] rt1<|
 .r 3<|.cs (args0:=[.agg (fsyA f),aI (Qag (decide ((((dirN f to).l).length:Int)≥256)) 12),.clo 189 [.dptr (fsyA f),.dptr [aB (isB ((dirN f to).l) t)],.dptr [aI to],.dptr [aS t],.dptr [aI ((Qaa f (getI ((dirN f to).l) t)).ino),aI ((Qaa f (getI ((dirN f to).l) t)).kind),aI ((Qaa f (getI ((dirN f to).l) t)).links),aS ((Qaa f (getI ((dirN f to).l) t)).text),.sl 2 false ((Qaa f (getI ((dirN f to).l) t)).l.map entA)],.dptr [aI dir],.dptr [aS s],.dptr [aI ((lookN f dir s).ino),aI ((lookN f dir s).kind),aI ((lookN f dir s).links),aS ((lookN f dir s).text),.sl 2 false ((lookN f dir s).l.map entA)]]]) (Qh0 (Qag (decide ((((dirN f to).l).length:Int)≥256)) 12) f dir s to t (lookN f dir s) (isB ((dirN f to).l) t) (Qaa f (getI (dirN f to).l t)) okf hp hs ht (Qe2 okf hp).1.1 (Qcg okf hp _) (by have:=Qes hp (getI (dirN f to).l t);omega) (fun he=>Zjx okf hp (show mov1 f dir s to t=0 from bneF q1) (fun hb=>absurd hb (by show ¬ isB (dirN f to).l t=true;rw [q2];decide)))) sr3<|
 .u 4 [b6]<|
 .f (.tup [.agg (fsyA (movF f dir s to t)),aI (Qbc f dir s to t)]) [b6] (.tup [.agg [.sl 5 false ((if Qag (decide ((((dirN f to).l).length:Int)≥256)) 12=0 then mov0 f dir s to t (lookN f dir s) (isB ((dirN f to).l) t) (Qaa f (getI (dirN f to).l t)) else f).l.map nodA),aI ((if Qag (decide ((((dirN f to).l).length:Int)≥256)) 12=0 then mov0 f dir s to t (lookN f dir s) (isB ((dirN f to).l) t) (Qaa f (getI (dirN f to).l t)) else f).next)],aI (Qag (decide ((((dirN f to).l).length:Int)≥256)) 12)]) (by
  have h1:mov1 f dir s to t=0:=(bneF q1)
  have e1:Qbc f dir s to t=mov2 f dir s to t:=W1y h1;rw [e1];have hb:movB f to t=false:=q2;have e3:mov2 f dir s to t=Qag (decide ((((dirN f to).l).length:Int)≥256)) 12:=by unfold mov2;rw [W1y hb];simp only [q3];rfl
  have e2:movF f dir s to t=if mov2 f dir s to t=0 then mov0 f dir s to t (lookN f dir s) (movB f to t) (Qaa f (movI f to t)) else f:=by unfold movF;rw [W1y h1,W1x (fun h=>by rw [hb] at h;cases h.1)]
  rw [e2,e3];exact sR))
 <| fun q3=>have p3:=bneF q3;.r 5<|.call (Qbw false 12)<|
 .r 1<|.frz 5 [5,6,7,8,9,10,11,12,13,17,18,45,64,70,75] [6,7,8,9,10,12,17,18] [b1=b1] rt1<|
 .frz 17 [5,6,7,8,9,10,11,12,13,17,18,45,64,70,75] [6,7,8,9,10,12,18] [b9=b9] rt1<|
 .frz 8 [5,6,7,8,9,10,11,12,13,17,18,45,64,70,75] [6,7,9,10,12,18] [b4=b4] rt1<|
 .frz 9 [5,6,7,8,9,10,11,12,13,17,18,45,64,70,75] [6,7,10,12,18] [b5=b5] rt1<|
 .frz 18 [5,6,7,8,9,10,11,12,13,17,18,45,64,70,75] [6,7,10,12] [b10=b10] rt1<|
 .frz 6 [5,6,7,8,9,10,11,12,13,17,18,45,64,70,75] [7,10,12] [b2=b2] rt1<|
 .frz 7 [5,6,7,8,9,10,11,12,13,17,18,45,64,70,75] [10,12] [b3=b3] rt1<|
 .frz 12 [5,6,7,8,9,10,11,12,13,17,18,45,64,70,75] [10] [b7=b7] rt1<|
 .r 3<|.cs (args0:=[.agg (fsyA f),aI (Qag false 12),.clo 189 [.dptr (fsyA f),.dptr [aB (isB ((dirN f to).l) t)],.dptr [aI to],.dptr [aS t],.dptr [aI ((Qaa f (getI ((dirN f to).l) t)).ino),aI ((Qaa f (getI ((dirN f to).l) t)).kind),aI ((Qaa f (getI ((dirN f to).l) t)).links),aS ((Qaa f (getI ((dirN f to).l) t)).text),.sl 2 false ((Qaa f (getI ((dirN f to).l) t)).l.map entA)],.dptr [aI dir],.dptr [aS s],.dptr [aI ((lookN f dir s).ino),aI ((lookN f dir s).kind),aI ((lookN f dir s).links),aS ((lookN f dir s).text),.sl 2 false ((lookN f dir s).l.map entA)]]]) (Qh0 (Qag false 12) f dir s to t (lookN f dir s) (isB ((dirN f to).l) t) (Qaa f (getI (dirN f to).l t)) okf hp hs ht (Qe2 okf hp).1.1 (Qcg okf hp _) (by have:=Qes hp (getI (dirN f to).l t);omega) (fun he=>Zjx okf hp (show mov1 f dir s to t=0 from bneF q1) (fun hb=>absurd hb (by show ¬ isB (dirN f to).l t=true;rw [q2];decide)))) sr3<|
 .u 4 [b6]<|
 .f (.tup [.agg (fsyA (movF f dir s to t)),aI (Qbc f dir s to t)]) [b6] (.tup [.agg [.sl 5 false ((if Qag false 12=0 then mov0 f dir s to t (lookN f dir s) (isB ((dirN f to).l) t) (Qaa f (getI (dirN f to).l t)) else f).l.map nodA),aI ((if Qag false 12=0 then mov0 f dir s to t (lookN f dir s) (isB ((dirN f to).l) t) (Qaa f (getI (dirN f to).l t)) else f).next)],aI (Qag false 12)]) (by
  have h1:mov1 f dir s to t=0:=(bneF q1)
  have e1:Qbc f dir s to t=mov2 f dir s to t:=W1y h1;rw [e1];have hb:movB f to t=false:=q2;have e3:mov2 f dir s to t=Qag false 12:=by unfold mov2;rw [W1y hb];simp only [q3];rfl
  have e2:movF f dir s to t=if mov2 f dir s to t=0 then mov0 f dir s to t (lookN f dir s) (movB f to t) (Qaa f (movI f to t)) else f:=by unfold movF;rw [W1y h1,W1x (fun h=>by rw [hb] at h;cases h.1)]
  rw [e2,e3];exact sR))
 <| fun q2=>have q2:=notF q2;have p2:=booT q2;.u 5 [b7]<|
 .br 77 ((getI ((dirN f to).l) t)==((lookN f dir s).ino)) (fun q4=>have p4:=beqT q4;.u 3 [b1,b6]<|
 .f (.tup [.agg (fsyA (movF f dir s to t)),aI (Qbc f dir s to t)]) [b6] (.tup [.agg (fsyA f),aI 0]) (by
  have h1:mov1 f dir s to t=0:=(bneF q1)
  have e1:Qbc f dir s to t=mov2 f dir s to t:=W1y h1;rw [e1];have hb:movB f to t=true:=q2;have hi:movI f to t=(lookN f dir s).ino:=(beqT q4)
  have e3:mov2 f dir s to t=0:=by unfold mov2;rw [W1x (by rw [hb];decide),W1y hi]
  have e2:movF f dir s to t=f:=by unfold movF;rw [W1y h1,W1y ⟨hb,hi⟩]
  rw [e2,e3];exact sR))
 <| fun q4=>have p4:=beqF q4;.u 2 [b7,b10]<|
 .call (Ze5 (lookN f dir s) (Qaa f (getI (dirN f to).l t)) (Qed okf _).2.2.2.2.1)<|
 .r 1<|.frz 5 [5,6,7,8,9,10,11,12,13,17,18,45,64,77] [6,7,8,9,10,12,17,18] [b1=b1] rt1<|
 .frz 17 [5,6,7,8,9,10,11,12,13,17,18,45,64,77] [6,7,8,9,10,12,18] [b9=b9] rt1<|
 .frz 8 [5,6,7,8,9,10,11,12,13,17,18,45,64,77] [6,7,9,10,12,18] [b4=b4] rt1<|
 .frz 9 [5,6,7,8,9,10,11,12,13,17,18,45,64,77] [6,7,10,12,18] [b5=b5] rt1<|
 .frz 18 [5,6,7,8,9,10,11,12,13,17,18,45,64,77] [6,7,10,12] [b10=b10] rt1<|
 .frz 6 [5,6,7,8,9,10,11,12,13,17,18,45,64,77] [7,10,12] [b2=b2] rt1<|
 .frz 7 [5,6,7,8,9,10,11,12,13,17,18,45,64,77] [10,12] [b3=b3] rt1<|
 .frz 12 [5,6,7,8,9,10,11,12,13,17,18,45,64,77] [10] [b7=b7] rt1<|
 .r 3<|.cs (args0:=[.agg (fsyA f),aI (Qdi (lookN f dir s) (Qaa f (getI (dirN f to).l t))),.clo 189 [.dptr (fsyA f),.dptr [aB (isB ((dirN f to).l) t)],.dptr [aI to],.dptr [aS t],.dptr [aI ((Qaa f (getI ((dirN f to).l) t)).ino),aI ((Qaa f (getI ((dirN f to).l) t)).kind),aI ((Qaa f (getI ((dirN f to).l) t)).links),aS ((Qaa f (getI ((dirN f to).l) t)).text),.sl 2 false ((Qaa f (getI ((dirN f to).l) t)).l.map entA)],.dptr [aI dir],.dptr [aS s],.dptr [aI ((lookN f dir s).ino),aI ((lookN f dir s).kind),aI ((lookN f dir s).links),aS ((lookN f dir s).text),.sl 2 false ((lookN f dir s).l.map entA)]]]) (Qh0 (Qdi (lookN f dir s) (Qaa f (getI (dirN f to).l t))) f dir s to t (lookN f dir s) (isB ((dirN f to).l) t) (Qaa f (getI (dirN f to).l t)) okf hp hs ht (Qe2 okf hp).1.1 (Qcg okf hp _) (by have:=Qes hp (getI (dirN f to).l t);omega) (fun he=>Zjx okf hp (show mov1 f dir s to t=0 from bneF q1) (fun hb=>he))) sr3<|
 .u 4 [b6]<|
 .f (.tup [.agg (fsyA (movF f dir s to t)),aI (Qbc f dir s to t)]) [b6] (.tup [.agg [.sl 5 false ((if Qdi (lookN f dir s) (Qaa f (getI (dirN f to).l t))=0 then mov0 f dir s to t (lookN f dir s) (isB ((dirN f to).l) t) (Qaa f (getI (dirN f to).l t)) else f).l.map nodA),aI ((if Qdi (lookN f dir s) (Qaa f (getI (dirN f to).l t))=0 then mov0 f dir s to t (lookN f dir s) (isB ((dirN f to).l) t) (Qaa f (getI (dirN f to).l t)) else f).next)],aI (Qdi (lookN f dir s) (Qaa f (getI (dirN f to).l t)))]) (by
  have h1:mov1 f dir s to t=0:=(bneF q1)
  have e1:Qbc f dir s to t=mov2 f dir s to t:=W1y h1;rw [e1];have hb:movB f to t=true:=q2;have hi:¬ movI f to t=(lookN f dir s).ino:=(beqF q4)
  have e3:mov2 f dir s to t=Qdi (lookN f dir s) (Qaa f (movI f to t)):=by unfold mov2;rw [W1x (by rw [hb];decide),W1x hi]
  have e2:movF f dir s to t=if mov2 f dir s to t=0 then mov0 f dir s to t (lookN f dir s) (movB f to t) (Qaa f (movI f to t)) else f:=by unfold movF;rw [W1y h1,W1x (fun h=>hi h.2)]
  rw [e2,e3];exact sR))
end Go.Proofs.YtahlldgocpabjaaGreat

namespace Go.Proofs.YtahlldgocpabjaaGreat
open Go Go.RowKit Copyhold Go.Proofs.Tryz
open Copyhold.Name (Srt insE delE getE isAt)
def KO (K:Nod→Nat):Option Nod→Nat
 | some n=>K n
 | none=>0
theorem Qfi (K:Nod→Nat) (i:Int):∀ {l:List Nod},Qb1 l→(l.map K).sum=((l.filter fun n=>!isNo i n).map K).sum+KO K (l.find? (isNo i))
 | [],_=>rfl
 | x :: r,h=>by
  obtain ⟨h1,h2⟩:=W1l.1 h;rw [W1f,W2l];cases hx:isNo i x with
  | true=>
   have hr:r.filter (fun n=>!isNo i n)=r:=List.filter_eq_self.2 fun y hy=>by
    have g:x.ino<y.ino:=h1 y hy;have e:x.ino=i:=by simpa [isNo] using hx
    simp [isNo];omega
   simp only [W0x,Bool.false_eq_true,if_false,hr,W1u,List.sum_cons,KO];omega
  | false=>
   have:=Qfi K i h2;simp only [W0t,if_true,W1u,List.sum_cons];omega
theorem Qzg {f:Fsy} (hr:Qb1 f.l) {x:Nod}:x∈f.l↔atF f x.ino=some x:=⟨Zc0 hr,Qdk⟩
theorem Qrt {f g:Fsy} {i:Int} (hf:Qb1 f.l) (hg:Qb1 g.l) (h:∀ j,¬ j=i→atF g j=atF f j) (z:Int):nam g z+KO (namK z) (atF f i)=nam f z+KO (namK z) (atF g i):=by
 have e:(g.l.filter fun n=>!isNo i n)=f.l.filter fun n=>!isNo i n:=Qmz (List.Pairwise.filter _ hg) (List.Pairwise.filter _ hf) fun x=>by
  rw [W1m,W1m];by_cases hx:x.ino=i
  ·simp [isNo,hx]
  ·rw [Qzg hf,Qzg hg,h _ hx]
 unfold nam;rw [Qfi (namK z) i hf,Qfi (namK z) i hg,e];unfold atF;omega
theorem Qf9 {f g:Fsy} {i:Int} (h:atF g i=atF f i):Qa9 g i=Qa9 f i:=by
 unfold Qa9;rw [at_N,at_N,h]
theorem Qog {f:Fsy} {i:Int} (h:atF f i=none):Qa9 f i=[]:=by
 unfold Qa9;rw [(Qvq h).2];rfl
theorem Qfd {f:Fsy} {i:Int} {n:Nod} (h:atF f i=some n) (hk:¬ n.kind=2∨n.l=[]):Qa9 f i=[]:=by
 unfold Qa9;rw [(Qfr h).2];rcases hk with hk | hk
 ·rw [W1x hk]
 ·rw [hk];simp
theorem Qkq {f:Fsy} {i z:Int} (h0:Qa9 f i=[]):KO (namK z) (atF f i)=0:=by
 cases hc:atF f i with
 | none=>rfl
 | some m=>
  show namK z m=0;refine Nat.eq_zero_of_not_pos fun hp=>?_;obtain ⟨q1,e,q2,q3⟩:=Qkp.1 hp;have:=Qid hc q1 q2 q3;rw [h0] at this;cases this
theorem Qzd {f g:Fsy} {i k:Int} (hr:Qb1 f.l) (hgr:Qb1 g.l) (hne:¬ i=k) (h:∀ j,¬ j=i→¬ j=k→atF g j=atF f j) (z:Int):nam g z+KO (namK z) (atF f i)+KO (namK z) (atF f k)=nam f z+KO (namK z) (atF g i)+KO (namK z) (atF g k):=by
 have e1:nam f z=((f.l.filter fun n=>!isNo i n).map (namK z)).sum+KO (namK z) (atF f i):=Qfi (namK z) i hr;have e2:nam g z=((g.l.filter fun n=>!isNo i n).map (namK z)).sum+KO (namK z) (atF g i):=Qfi (namK z) i hgr;have fa:∀ (h:Fsy) (j:Int),atF ⟨h.l.filter fun n=>!isNo i n,h.next⟩ j=if j=i then none else atF h j:=fun h j=>by
  unfold atF;show List.find? _ (List.filter _ h.l)=_;rw [List.find?_filter];by_cases hj:j=i
  ·rw [W1y hj,W11];intro x _;simp [isNo,hj]
  ·rw [W1x hj];congr 1;funext x;by_cases hx:x.ino=j
   ·simp [isNo,hx,hj]
   ·simp [isNo,hx]
 have hone:=Qrt (f:=⟨f.l.filter fun n=>!isNo i n,f.next⟩) (g:=⟨g.l.filter fun n=>!isNo i n,g.next⟩) (i:=k) (List.Pairwise.filter _ hr) (List.Pairwise.filter _ hgr) (fun j hj=>by
  rw [fa f,fa g]
  split
  ·rfl
  ·rename_i hji;exact h j hji hj) z
 rw [fa f,fa g,W1x (fun e=>hne e.symm),W1x (fun e=>hne e.symm)] at hone;have n1:nam ⟨f.l.filter fun n=>!isNo i n,f.next⟩ z=((f.l.filter fun n=>!isNo i n).map (namK z)).sum:=rfl;have n2:nam ⟨g.l.filter fun n=>!isNo i n,g.next⟩ z=((g.l.filter fun n=>!isNo i n).map (namK z)).sum:=rfl;omega
theorem Qgl {f g:Fsy} (h:∀ i z,z∈Qa9 f i→z∈Qa9 g i) {a b:Int} (hr:Reach f a b):Reach g a b:=by
 induction hr with
 | one hz=>exact .one (h _ _ hz)
 | more hy _ ih=>exact .more (h _ _ hy) ih
theorem Qz4 {l:List Ent} {s:Txt} {n:Int} (he:entE l s n=0):entL l s n=l.take (posI l s)++⟨s,n⟩ :: l.drop (posI l s):=by unfold entL;rw [W1y he]
theorem Qxs {l:List Ent} {s:Txt} {n z:Int} (he:entE l s n=0):z∈(entL l s n).map Ent.ino↔z=n∨z∈l.map Ent.ino:=by
 rw [Qz4 he];have e:z∈l.map Ent.ino↔z∈((l.take (posI l s)).map Ent.ino)∨z∈((l.drop (posI l s)).map Ent.ino):=by
  rw [← W05,← W1t,W1h]
 rw [e,W1t,W05,W1u,W0y];show _∨z=n∨_↔_;constructor
 ·rintro (h | h | h)
  ·exact .inr (.inl h)
  ·exact .inl h
  ·exact .inr (.inr h)
 ·rintro (h | h | h)
  ·exact .inr (.inl h)
  ·exact .inl h
  ·exact .inr (.inr h)
theorem Qxt {l:List Ent} {s:Txt} {n z:Int} (he:entE l s n=0):(entL l s n).countP (isE z)=l.countP (isE z)+if z=n then 1 else 0:=by
 rw [Qz4 he];have e:l.countP (isE z)=(l.take (posI l s)).countP (isE z)+(l.drop (posI l s)).countP (isE z):=by
  rw [← List.countP_append,W1h]
 rw [e,List.countP_append,List.countP_cons];by_cases h:z=n
 ·have:isE z ⟨s,n⟩=true:=by unfold isE;simp [h]
  rw [this,W1y h];simp;omega
 ·have:isE z ⟨s,n⟩=false:=by unfold isE;simp;exact fun e=>h e.symm
  rw [this,W1x h];simp
theorem Zmn {l:List Ent} {s:Txt} {j:Int} (h:Srt (lI l)) (hg:getE (lI l) s=some j):∃ x,l[posI l s]?=some x∧x.ino=j∧delL l s=l.take (posI l s)++l.drop (posI l s+1):=by
 have hb:isB l s=true:=by rw [Qer,hg];rfl
 have hlt:=Qri h hb;refine ⟨l[posI l s],W0d hlt,?_,by unfold delL;rw [W1y hb]⟩;have:=Zgp h hb (W0d hlt);rw [← this,Qeb,hg];rfl
theorem Qyn {l:List Ent} {p:Nat} {x:Ent} (h:l[p]?=some x):l=l.take p++x :: l.drop (p+1):=by
 obtain ⟨hp,rfl⟩:=W0i.1 h;rw [← List.drop_eq_getElem_cons hp,W1h]
theorem Zhf {l:List Ent} {s:Txt} {j z:Int} (h:Srt (lI l)) (hg:getE (lI l) s=some j) (hz:z∈l.map Ent.ino):z=j∨z∈(delL l s).map Ent.ino:=by
 obtain ⟨x,hx,hj,e⟩:=Zmn h hg;rw [Qyn hx,W1t,W05,W1u,W0y] at hz;rw [e,W1t,W05];rcases hz with hz | hz | hz
 ·exact .inr (.inl hz)
 ·exact .inl (hz.trans hj)
 ·exact .inr (.inr hz)
theorem Zhh {l:List Ent} {s:Txt} {j z:Int} (h:Srt (lI l)) (hg:getE (lI l) s=some j):(delL l s).countP (isE z)+(if z=j then 1 else 0)=l.countP (isE z):=by
 obtain ⟨x,hx,hj,e⟩:=Zmn h hg;have e2:l.countP (isE z)=(l.take (posI l s)).countP (isE z)+(x :: l.drop (posI l s+1)).countP (isE z):=by
  rw [← List.countP_append,← Qyn hx]
 rw [e2,e,List.countP_append,List.countP_cons];by_cases hz:z=j
 ·have:isE z x=true:=by unfold isE;simp [hz,hj]
  rw [this,W1y hz];simp;omega
 ·have:isE z x=false:=by unfold isE;simp;exact fun e=>hz (by rw [← e,hj])
  rw [this,W1x hz];simp
theorem Qxx {l:List Ent} {s:Txt} {z:Int} (hz:z∈(delL l s).map Ent.ino):z∈l.map Ent.ino:=by
 obtain ⟨e,he,h⟩:=W1j.1 hz;exact W1j.2 ⟨e,Qsh e he,h⟩
theorem Qr5 {f:Fsy} {i j:Int} {d:Nod} {s:Txt} (hd:atF f i=some d) (hk:d.kind=2) (hg:getE (lI d.l) s=some j):j∈Qa9 f i:=by
 rw [Qce hd hk];unfold getE at hg;cases hf:(lI d.l).find? (fun y=>y.1==s) with
 | none=>rw [hf] at hg;cases hg
 | some y=>
  rw [hf] at hg;have hm:=W1o hf;unfold lI at hm;obtain ⟨e,he,hy⟩:=W1j.1 hm;refine W1j.2 ⟨e,he,?_⟩;rw [← hy] at hg;exact W0c hg
theorem TreeP.put {f:Fsy} {i:Int} {n m:Nod} (T:TreeP f) (hn:atF f i=some n) (hi:m.ino=i) (hk:m.kind=n.kind) (hl:m.links=n.links) (he:m.l=n.l) (hm:nodP m):TreeP (putF f m):=by
 obtain ⟨p1,p2,p3,p4⟩:=Qkh T.rows hn hi hm;have hr:=Qaf T.rows;have hkk:∀ x,Qa9 (putF f m) x=Qa9 f x:=fun x=>by
  by_cases hx:x=i
  ·subst hx;have a:atF (putF f m) x=some m:=by rw [p4,W1y rfl]
   unfold Qa9;rw [(Qfr a).2,(Qfr hn).2,hk,he]
  ·exact Qf9 (by rw [p4,W1x hx])
 have hna:∀ z,nam (putF f m) z=nam f z:=fun z=>by
  have:=Qrt (i:=i) hr (Qaf p1) (fun j hj=>by rw [p4,W1x hj]) z;rw [p4,W1y rfl,hn] at this;simp only [KO,namK,cntE,hk,he] at this;omega
 have hat:∀ x y,atF (putF f m) x=some y→∃ y',atF f x=some y'∧y.kind=y'.kind∧y.links=y'.links:=fun x y hy=>by
  rw [p4] at hy
  split at hy
  ·rename_i hx;obtain rfl:=W0c hy;exact ⟨n,hx ▸ hn,hk,hl⟩
  ·exact ⟨y,hy,rfl,rfl⟩
 have hto:∀ x y,atF f x=some y→∃ y',atF (putF f m) x=some y'∧y'.kind=y.kind∧y'.links=y.links:=fun x y hy=>by
  rw [p4]
  split
  ·rename_i hx;subst hx;rw [hn] at hy;obtain rfl:=W0c hy;exact ⟨m,rfl,hk,hl⟩
  ·exact ⟨y,hy,rfl,rfl⟩
 refine ⟨p1,?_,fun x y hy=>?_,fun x z hz=>?_,fun x y hy hx=>?_,fun x y hy hk2 hx=>?_⟩
 ·obtain ⟨r,r1,r2,r3⟩:=T.root;obtain ⟨y,y1,y2,y3⟩:=hto 1 r r1;exact ⟨y,y1,y2.trans r2,y3.trans r3⟩
 ·obtain ⟨y',a,b,c⟩:=hat x y hy;rw [c,hna];exact T.cnt x y' a
 ·rw [hkk] at hz;obtain ⟨⟨y,hy⟩,h1⟩:=T.kid x z hz;obtain ⟨y',a,_⟩:=hto z y hy;exact ⟨⟨y',a⟩,h1⟩
 ·obtain ⟨y',a,b,c⟩:=hat x y hy;rw [c];exact T.pos x y' a hx
 ·obtain ⟨y',a,b,c⟩:=hat x y hy;obtain ⟨g1,g2⟩:=T.dir x y' a (b ▸ hk2) hx;exact ⟨c.trans g1,Qgl (fun i z hz=>by rw [hkk];exact hz) g2⟩
theorem TreeP.grow {f g:Fsy} {dir i:Int} {d X:Nod} {l:List Ent} (T:TreeP f) (hg:Qan g) (hd:atF f dir=some d) (hk:d.kind=2) (hne:¬ i=dir) (hat:∀ j,atF g j=if j=i then some X else if j=dir then some (Qbr d l) else atF f j)
  (hcnt:∀ z,l.countP (isE z)=d.l.countP (isE z)+if z=i then 1 else 0) (hmem:∀ z,z∈l.map Ent.ino↔z=i∨z∈d.l.map Ent.ino) (h0:Qa9 f i=[]) (hX:¬ X.kind=2∨X.l=[]) (hXl:X.links=(nam f i:Int)+1)
  (hX2:X.kind=2→nam f i=0) (h1:¬ i=1):TreeP g:=by
 have hr:=Qaf T.rows;have hgr:=Qaf hg;have ai:atF g i=some X:=by rw [hat,W1y rfl]
 have ad:atF g dir=some (Qbr d l):=by rw [hat,W1x (fun e=>hne e.symm),W1y rfl]
 have ao:∀ j,¬ j=i→¬ j=dir→atF g j=atF f j:=fun j h2 h3=>by rw [hat,W1x h2,W1x h3]
 have kd:∀ z,z∈Qa9 g dir↔z=i∨z∈Qa9 f dir:=fun z=>by
  rw [Qce ad hk,Qce hd hk];exact hmem z
 have ki:Qa9 g i=[]:=Qfd ai hX;have kg:∀ x z,z∈Qa9 g x→z∈Qa9 f x∨(x=dir∧z=i):=fun x z hz=>by
  by_cases hx:x=dir
  ·subst hx;rcases (kd z).1 hz with h | h
   ·exact .inr ⟨rfl,h⟩
   ·exact .inl h
  ·by_cases hx2:x=i
   ·subst hx2;rw [ki] at hz;cases hz
   ·rw [Qf9 (ao x hx2 hx)] at hz;exact .inl hz
 have kf:∀ x z,z∈Qa9 f x→z∈Qa9 g x:=fun x z hz=>by
  by_cases hx:x=dir
  ·subst hx;exact (kd z).2 (.inr hz)
  ·by_cases hx2:x=i
   ·subst hx2;rw [h0] at hz;cases hz
   ·rw [Qf9 (ao x hx2 hx)];exact hz
 have hna:∀ z,nam g z=nam f z+if z=i then 1 else 0:=fun z=>by
  have hz0:KO (namK z) (atF f i)=0:=Qkq h0;have hzX:KO (namK z) (atF g i)=0:=Qkq ki;have hone:=Qzd hr hgr hne ao z;rw [hz0,hzX,hd,ad] at hone;have c1:KO (namK z) (some d)=d.l.countP (isE z):=W1y hk;have c2:KO (namK z) (some (Qbr d l))=l.countP (isE z):=W1y hk;rw [c1,c2,hcnt] at hone;omega
 have hdir1:¬ dir=1→Reach f 1 dir:=fun h=>T.reach hd h;refine ⟨hg,?_,fun x y hy=>?_,fun x z hz=>?_,fun x y hy hx=>?_,fun x y hy hk2 hx=>?_⟩
 ·obtain ⟨r,r1,r2,r3⟩:=T.root;by_cases hx:(1:Int)=dir
  ·rw [← hx] at hd ad;rw [hd] at r1;obtain rfl:=W0c r1;exact ⟨_,ad,r2,r3⟩
  ·exact ⟨r,(ao 1 (fun e=>h1 e.symm) hx).trans r1,r2,r3⟩
 ·rw [hna];by_cases hx:x=i
  ·subst hx;rw [ai] at hy;obtain rfl:=W0c hy;rw [W1y rfl,hXl];omega
  ·rw [W1x hx];by_cases hx2:x=dir
   ·subst hx2;rw [ad] at hy;obtain rfl:=W0c hy;exact T.cnt x d hd
   ·rw [ao x hx hx2] at hy;exact T.cnt x y hy
 ·have hex:∀ w,(∃ n,atF f w=some n)→∃ n,atF g w=some n:=fun w ⟨n,hn⟩=>by
   by_cases hw:w=i
   ·subst hw;exact ⟨_,ai⟩
   ·by_cases hw2:w=dir
    ·subst hw2;exact ⟨_,ad⟩
    ·exact ⟨n,(ao w hw hw2).trans hn⟩
  rcases kg x z hz with h | ⟨_,h⟩
  ·exact ⟨hex z (T.kid x z h).1,(T.kid x z h).2⟩
  ·subst h;exact ⟨⟨_,ai⟩,h1⟩
 ·by_cases hx3:x=i
  ·subst hx3;rw [ai] at hy;obtain rfl:=W0c hy;omega
  ·by_cases hx2:x=dir
   ·subst hx2;rw [ad] at hy;obtain rfl:=W0c hy;exact T.pos x d hd hx
   ·rw [ao x hx3 hx2] at hy;exact T.pos x y hy hx
 ·by_cases hx3:x=i
  ·subst hx3;rw [ai] at hy;obtain rfl:=W0c hy;have:=hX2 hk2;refine ⟨by omega,?_⟩;have hkid:x∈Qa9 g dir:=(kd x).2 (.inl rfl);by_cases hdd:dir=1
   ·rw [hdd] at hkid;exact .one hkid
   ·exact (Qgl kf (hdir1 hdd)).snoc hkid
  ·by_cases hx2:x=dir
   ·subst hx2;rw [ad] at hy;obtain rfl:=W0c hy;obtain ⟨g1,g2⟩:=T.dir x d hd hk hx;exact ⟨g1,Qgl kf g2⟩
   ·rw [ao x hx3 hx2] at hy;obtain ⟨g1,g2⟩:=T.dir x y hy hk2 hx;exact ⟨g1,Qgl kf g2⟩
theorem TreeP.shrink {f g:Fsy} {dir i:Int} {d n:Nod} {l:List Ent} (T:TreeP f) (hg:Qan g) (hd:atF f dir=some d) (hk:d.kind=2) (hne:¬ i=dir) (hn:atF f i=some n) (hat:∀ j,atF g j=if j=i then (if n.links-1<1 then none else some (Qhr n)) else if j=dir then some (Qbr d l) else atF f j)
  (hcnt:∀ z,l.countP (isE z)+(if z=i then 1 else 0)=d.l.countP (isE z)) (hm1:∀ z,z∈l.map Ent.ino→z∈d.l.map Ent.ino) (hm2:∀ z,z∈d.l.map Ent.ino→z=i∨z∈l.map Ent.ino) (h0:Qa9 f i=[]) (h1:¬ i=1):TreeP g:=by
 have hr:=Qaf T.rows;have hgr:=Qaf hg;have ad:atF g dir=some (Qbr d l):=by rw [hat,W1x (fun e=>hne e.symm),W1y rfl]
 have ao:∀ j,¬ j=i→¬ j=dir→atF g j=atF f j:=fun j h2 h3=>by rw [hat,W1x h2,W1x h3]
 have ki:Qa9 g i=[]:=by
  have h2:=hat i;rw [W1y rfl] at h2
  split at h2
  ·exact Qog h2
  ·refine Qfd h2 ?_;by_cases hk2:n.kind=2
   ·right;rw [Qce hn hk2] at h0;show n.l=[]
    exact List.map_eq_nil_iff.1 h0
   ·exact .inl hk2
 have kd:∀ z,z∈Qa9 g dir→z∈Qa9 f dir:=fun z hz=>by
  rw [Qce ad hk] at hz;rw [Qce hd hk];exact hm1 z hz
 have kg:∀ x z,z∈Qa9 g x→z∈Qa9 f x:=fun x z hz=>by
  by_cases hx:x=dir
  ·subst hx;exact kd z hz
  ·by_cases hx2:x=i
   ·subst hx2;rw [ki] at hz;cases hz
   ·rw [Qf9 (ao x hx2 hx)] at hz;exact hz
 have kf:∀ x z,z∈Qa9 f x→z=i∨z∈Qa9 g x:=fun x z hz=>by
  by_cases hx:x=dir
  ·subst hx;rw [Qce hd hk] at hz;rw [Qce ad hk];exact hm2 z hz
  ·by_cases hx2:x=i
   ·subst hx2;rw [h0] at hz;cases hz
   ·rw [Qf9 (ao x hx2 hx)];exact .inr hz
 have hna:∀ z,nam g z+(if z=i then 1 else 0)=nam f z:=fun z=>by
  have hz0:KO (namK z) (atF f i)=0:=Qkq h0;have hzX:KO (namK z) (atF g i)=0:=Qkq ki;have hone:=Qzd hr hgr hne ao z;rw [hz0,hzX,hd,ad] at hone;have c1:KO (namK z) (some d)=d.l.countP (isE z):=W1y hk;have c2:KO (namK z) (some (Qbr d l))=l.countP (isE z):=W1y hk;rw [c1,c2,← hcnt] at hone;omega
 have hrch:∀ {a b:Int},Reach f a b→¬ b=i→Reach g a b:=fun {a b} hab=>by
  induction hab with
  | one hz=>exact fun hb=>.one ((kf _ _ hz).resolve_left hb)
  | @more p y z hy hyz ih=>
   refine fun hb=>.more ((kf _ _ hy).resolve_left fun e=>?_) (ih hb);obtain ⟨w,hw⟩:=Qhb hyz;rw [e,h0] at hw;cases hw
 have ai:∀ {y},atF g i=some y→y=Qhr n∧¬ n.links-1<1:=fun {y} hy=>by
  have h2:=hat i;rw [W1y rfl,hy] at h2
  split at h2
  ·cases h2
  ·rename_i hl;exact ⟨W0c h2,hl⟩
 refine ⟨hg,?_,fun x y hy=>?_,fun x z hz=>?_,fun x y hy hx=>?_,fun x y hy hk2 hx=>?_⟩
 ·obtain ⟨r,r1,r2,r3⟩:=T.root;by_cases hx:(1:Int)=dir
  ·rw [← hx] at hd ad;rw [hd] at r1;obtain rfl:=W0c r1;exact ⟨_,ad,r2,r3⟩
  ·exact ⟨r,(ao 1 (fun e=>h1 e.symm) hx).trans r1,r2,r3⟩
 ·have hq:=hna x;by_cases hx:x=i
  ·subst hx;obtain ⟨rfl,hl⟩:=ai hy;rw [W1y rfl] at hq;have:=T.cnt x n hn;show n.links-1=_;omega
  ·rw [W1x hx] at hq;by_cases hx2:x=dir
   ·subst hx2;rw [ad] at hy;obtain rfl:=W0c hy;have:d.links=_:=T.cnt x d hd;show d.links=_;omega
   ·rw [ao x hx hx2] at hy;have:=T.cnt x y hy;omega
 ·have hzf:=T.kid x z (kg x z hz);refine ⟨?_,hzf.2⟩;by_cases hzi:z=i
  ·subst hzi;have hp:=(Qlu hgr).2 ⟨x,hz⟩;have hq:=hna z;rw [W1y rfl] at hq;have:=T.cnt z n hn;exact ⟨Qhr n,by rw [hat,W1y rfl,W1x (by omega)]⟩
  ·by_cases hz2:z=dir
   ·subst hz2;exact ⟨_,ad⟩
   ·obtain ⟨w,hw⟩:=hzf.1;exact ⟨w,(ao z hzi hz2).trans hw⟩
 ·by_cases hx3:x=i
  ·subst hx3;obtain ⟨rfl,hl⟩:=ai hy;show 1≤n.links-1;omega
  ·by_cases hx2:x=dir
   ·subst hx2;rw [ad] at hy;obtain rfl:=W0c hy;exact T.pos x d hd hx
   ·rw [ao x hx3 hx2] at hy;exact T.pos x y hy hx
 ·by_cases hx3:x=i
  ·subst hx3;obtain ⟨rfl,hl⟩:=ai hy;have:=(T.dir x n hn hk2 hx).1;omega
  ·by_cases hx2:x=dir
   ·subst hx2;rw [ad] at hy;obtain rfl:=W0c hy;obtain ⟨g1,g2⟩:=T.dir x d hd hk hx;exact ⟨g1,hrch g2 hx3⟩
   ·rw [ao x hx3 hx2] at hy;obtain ⟨g1,g2⟩:=T.dir x y hy hk2 hx;exact ⟨g1,hrch g2 hx3⟩
theorem TreeP.hop {f f1 g:Fsy} {a b j:Int} {d e n:Nod} {l1 l2:List Ent} (T:TreeP f) (h1:Qan f1) (hg:Qan g) (hd:atF f a=some d) (hk:d.kind=2) (he:atF f1 b=some e) (hke:e.kind=2) (hn:atF f j=some n)
  (at1:∀ x,atF f1 x=if x=a then some (Qbr d l1) else atF f x) (at2:∀ x,atF g x=if x=b then some (Qbr e l2) else atF f1 x)
  (c1:∀ z,l1.countP (isE z)+(if z=j then 1 else 0)=d.l.countP (isE z)) (c2:∀ z,l2.countP (isE z)=e.l.countP (isE z)+if z=j then 1 else 0)
  (m1:∀ z,z∈l1.map Ent.ino→z∈d.l.map Ent.ino) (m2:∀ z,z∈d.l.map Ent.ino→z=j∨z∈l1.map Ent.ino) (m3:∀ z,z∈l2.map Ent.ino↔z=j∨z∈e.l.map Ent.ino)
  (hja:j∈Qa9 f a) (hbj:¬ b=j) (hjb:¬ Reach f j b):TreeP g:=by
 have hr:=Qaf T.rows;have hr1:=Qaf h1;have hgr:=Qaf hg;have a1:atF f1 a=some (Qbr d l1):=by rw [at1,W1y rfl]
 have a2:atF g b=some (Qbr e l2):=by rw [at2,W1y rfl]
 have k1:∀ x z,z∈Qa9 f1 x→z∈Qa9 f x:=fun x z hz=>by
  by_cases hx:x=a
  ·subst hx;rw [Qce a1 hk] at hz;rw [Qce hd hk];exact m1 z hz
  ·rw [Qf9 (f:=f) (g:=f1) (by rw [at1,W1x hx])] at hz;exact hz
 have k2:∀ x z,z∈Qa9 f x→z∈Qa9 f1 x∨(x=a∧z=j):=fun x z hz=>by
  by_cases hx:x=a
  ·subst hx;rw [Qce hd hk] at hz;rw [Qce a1 hk];rcases m2 z hz with h | h
   ·exact .inr ⟨rfl,h⟩
   ·exact .inl h
  ·rw [Qf9 (f:=f) (g:=f1) (by rw [at1,W1x hx])];exact .inl hz
 have k3:∀ x z,z∈Qa9 g x→z∈Qa9 f1 x∨(x=b∧z=j):=fun x z hz=>by
  by_cases hx:x=b
  ·subst hx;rw [Qce a2 hke] at hz;rw [Qce he hke];rcases (m3 z).1 hz with h | h
   ·exact .inr ⟨rfl,h⟩
   ·exact .inl h
  ·rw [Qf9 (f:=f1) (g:=g) (by rw [at2,W1x hx])] at hz;exact .inl hz
 have k4:∀ x z,z∈Qa9 f1 x→z∈Qa9 g x:=fun x z hz=>by
  by_cases hx:x=b
  ·subst hx;rw [Qce he hke] at hz;rw [Qce a2 hke];exact (m3 z).2 (.inr hz)
  ·rw [Qf9 (f:=f1) (g:=g) (by rw [at2,W1x hx])];exact hz
 have kj:j∈Qa9 g b:=by rw [Qce a2 hke];exact (m3 j).2 (.inl rfl)
 have kfg:∀ x z,z∈Qa9 f x→z∈Qa9 g x∨(x=a∧z=j):=fun x z hz=>(k2 x z hz).imp (k4 x z) id;have hna:∀ z,nam g z=nam f z:=fun z=>by
  have q1:=Qrt (i:=a) hr hr1 (fun j hj=>by rw [at1,W1x hj]) z;have q2:=Qrt (i:=b) hr1 hgr (fun j hj=>by rw [at2,W1x hj]) z;rw [hd,a1] at q1;rw [he,a2] at q2;have e1:KO (namK z) (some d)=d.l.countP (isE z):=W1y hk;have e2:KO (namK z) (some (Qbr d l1))=l1.countP (isE z):=W1y hk;have e3:KO (namK z) (some e)=e.l.countP (isE z):=W1y hke;have e4:KO (namK z) (some (Qbr e l2))=l2.countP (isE z):=W1y hke;rw [e1,e2] at q1;rw [e3,e4] at q2;have:=c1 z;have:=c2 z;omega
 have hto1:∀ x y,atF f x=some y→∃ y',atF f1 x=some y'∧y'.kind=y.kind∧y'.links=y.links:=fun x y hy=>by
  rw [at1]
  split
  ·rename_i hx;subst hx;rw [hd] at hy;obtain rfl:=W0c hy;exact ⟨_,rfl,rfl,rfl⟩
  ·exact ⟨y,hy,rfl,rfl⟩
 have hto2:∀ x y,atF f1 x=some y→∃ y',atF g x=some y'∧y'.kind=y.kind∧y'.links=y.links:=fun x y hy=>by
  rw [at2]
  split
  ·rename_i hx;subst hx;rw [he] at hy;obtain rfl:=W0c hy;exact ⟨_,rfl,rfl,rfl⟩
  ·exact ⟨y,hy,rfl,rfl⟩
 have hto:∀ x y,atF f x=some y→∃ y',atF g x=some y'∧y'.kind=y.kind∧y'.links=y.links:=fun x y hy=>by
  obtain ⟨y1,b1,b2,b3⟩:=hto1 x y hy;obtain ⟨y2,d1,d2,d3⟩:=hto2 x y1 b1;exact ⟨y2,d1,d2.trans b2,d3.trans b3⟩
 have hof:∀ x y,atF g x=some y→∃ y',atF f x=some y'∧y.kind=y'.kind∧y.links=y'.links:=fun x y hy=>by
  cases hc:atF f x with
  | some y'=>
   obtain ⟨y2,d1,d2,d3⟩:=hto x y' hc;rw [d1] at hy;obtain rfl:=W0c hy;exact ⟨y',rfl,d2,d3⟩
  | none=>
   have hxa:¬ x=a:=fun h=>by rw [h,hd] at hc;cases hc
   have hf1:atF f1 x=none:=by rw [at1,W1x hxa];exact hc
   have hxb:¬ x=b:=fun h=>by rw [h,he] at hf1;cases hf1
   rw [at2,W1x hxb,hf1] at hy;cases hy
 have lem:∀ {p q:Int},Reach f p q→Reach g p q∨((p=a∨Reach f p a)∧(q=j∨Reach f j q)):=fun {p q} hpq=>by
  induction hpq with
  | one hz=>
   rcases kfg _ _ hz with h | ⟨h,h2⟩
   ·exact .inl (.one h)
   ·exact .inr ⟨.inl h,.inl h2⟩
  | @more i y z hy hyz ih=>
   rcases ih with ih | ⟨ih,ih2⟩
   ·rcases kfg _ _ hy with h | ⟨h,h2⟩
    ·exact .inl (.more h ih)
    ·exact .inr ⟨.inl h,.inr (h2 ▸ hyz)⟩
   ·refine .inr ⟨.inr ?_,ih2⟩;rcases ih with rfl | ih
    ·exact .one hy
    ·exact .more hy ih
 obtain ⟨e',he1,he2,he3⟩:∃ e',atF f b=some e'∧e'.kind=2∧True:=by
  obtain ⟨y,hy,hyk,_⟩:=hof b _ a2;exact ⟨y,hy,hyk.symm.trans hke,trivial⟩
 have hjr:¬ b=1→Reach g 1 b:=fun hb1=>by
  rcases lem (T.reach he1 hb1) with h | ⟨_,h | h⟩
  ·exact h
  ·exact absurd h hbj
  ·exact absurd h hjb
 have h1j:Reach g 1 j:=by
  by_cases hb1:b=1
  ·rw [hb1] at kj;exact .one kj
  ·exact (hjr hb1).snoc kj
 refine ⟨hg,?_,fun x y hy=>?_,fun x z hz=>?_,fun x y hy hx=>?_,fun x y hy hk2 hx=>?_⟩
 ·obtain ⟨r,r1,r2,r3⟩:=T.root;obtain ⟨y,y1,y2,y3⟩:=hto 1 r r1;exact ⟨y,y1,y2.trans r2,y3.trans r3⟩
 ·obtain ⟨y',p1,p2,p3⟩:=hof x y hy;rw [p3,hna];exact T.cnt x y' p1
 ·have hh:∀ w,(∃ n,atF f w=some n)→∃ n,atF g w=some n:=fun w ⟨n,hn⟩=>by
   obtain ⟨y,y1,_⟩:=hto w n hn;exact ⟨y,y1⟩
  rcases k3 x z hz with h | ⟨_,h⟩
  ·have:=T.kid x z (k1 x z h);exact ⟨hh z this.1,this.2⟩
  ·rw [h];have:=T.kid a j hja;exact ⟨hh j this.1,this.2⟩
 ·obtain ⟨y',p1,p2,p3⟩:=hof x y hy;rw [p3];exact T.pos x y' p1 hx
 ·obtain ⟨y',p1,p2,p3⟩:=hof x y hy;obtain ⟨g1,g2⟩:=T.dir x y' p1 (p2 ▸ hk2) hx;refine ⟨p3.trans g1,?_⟩;rcases lem g2 with h | ⟨_,h | h⟩
  ·exact h
  ·rw [h];exact h1j
  ·rcases lem h with h2 | ⟨h2,_⟩
   ·exact h1j.trans h2
   ·rcases h2 with rfl | h2
    ·exact absurd (.one hja) T.acyc
    ·exact absurd (h2.snoc hja) T.acyc
end Go.Proofs.YtahlldgocpabjaaGreat
