import Derived.Test.YtahlldgocpabjaaGreatAl
import Derived.Test.YtahlldgocpabjaaGreatMrgN
set_option maxRecDepth 100000
set_option maxHeartbeats 8000000
set_option linter.unusedVariables false
set_option linter.unusedSimpArgs false
namespace Go.Proofs.YtahlldgocpabjaaGreat
open Go Go.RowKit Copyhold Go.Proofs.Tryz
noncomputable def Qbd (f:Fsy) (d:Int) (s:Txt):Int:=Qax [Qa4 f d s,Qag (Qdd (lookN f d s)) 11]
noncomputable def Qdm (f:Fsy) (d:Int) (s:Txt):Fsy:=if Qbd f d s=0 then Qbm f d s (lookN f d s) else f
theorem Qe2 {f:Fsy} {d:Int} {s:Txt} (okf:OkF f) (hp:Qan f):OkN (lookN f d s)∧(lookN f d s).ino<9223372036854775807∧0≤(lookN f d s).links∧(lookN f d s).links≤1000∧(lookN f d s).l.length≤8796093022207:=by
 unfold lookN
 split
 ·have hb:=Qcg okf hp (Qd3 f d s);have hk:=Qed okf (Qd3 f d s);refine ⟨hk,hb.2,?_,?_,hk.2.2.2.2.1⟩
  ·by_cases h:Qav f (Qd3 f d s)=true
   ·exact ((Qbx.1 hp).2.2.1 _ (Qf3 h)).1.2.1
   ·rw [(Qvq (Qil (by simpa using h))).2];decide
  ·by_cases h:Qav f (Qd3 f d s)=true
   ·have:=((Qbx.1 hp).2.2.1 _ (Qf3 h)).1.2.2.1;omega
   ·rw [(Qvq (Qil (by simpa using h))).2];decide
 ·exact ⟨Qlr,by decide,by decide,by decide,by decide⟩
theorem Za1 (f:Fsy) (dir:Int) (s:Txt) (n:Nod) (okf:OkF f) (hp:Qan f) (hs:s.length≤1000000) (hn:I64 n.ino∧n.ino<9223372036854775807) (hk:0≤n.links∧n.links≤1000):Qai prog 219 [.dptr (fsyA f),.dptr [aI dir],.dptr [aS s],.dptr (nodA n)] (.agg (fsyA (Qbm f dir s n))):=by
 exact Qae func219 (let R:AV:=.agg (fsyA (Qbm f dir s n));
 .new fun b1=>.r 4<|.call (Qvp f dir s n okf hp hs hn hk)<|
 .u 1 [b1]<|
 .fi R [b1])
theorem Qte (e:Int) (f:Fsy) (dir:Int) (s:Txt) (n:Nod) (okf:OkF f) (hp:Qan f) (hs:s.length≤1000000) (hn:I64 n.ino∧n.ino<9223372036854775807) (hk:0≤n.links∧n.links≤1000):Qai prog 184 [.agg (fsyA f),aI e,.clo 219 [.dptr (fsyA f),.dptr [aI dir],.dptr [aS s],.dptr (nodA n)]] (.tup [.agg (fsyA (if e=0 then Qbm f dir s n else f)),aI e]):=by
 exact Qae func184 (
 .new fun b1=>.new fun b2=>.r 1<|.r 2<|.bn 9 e 0 (fun p1=>.u 4 [b1,b2]<|
 .f (.tup [.agg (fsyA (if e=0 then Qbm f dir s n else f)),aI e]) [b2] (.tup [.agg (fsyA f),aI e]) (by
  rw [W1x (show ¬ e=0 from by omega)];exact sR))
 <| fun p1=>.r 1<|.call (Za1 f dir s n okf hp hs hn hk)<|
 .u 2 [b2]<|
 .f (.tup [.agg (fsyA (if e=0 then Qbm f dir s n else f)),aI e]) [b2] (.tup [.agg [.sl 5 false ((Qbm f dir s n).l.map nodA),aI ((Qbm f dir s n).next)],aI 0]) (by
  rw [W1y (show e=0 from by omega),show e=0 from by omega];exact sR))
theorem Zde (f:Fsy) (dir:Int) (s:Txt) (okf:OkF f) (hp:Qan f) (hs:s.length≤1000000):Qai prog 180 [.agg (fsyA f),aI dir,aS s] (.tup [.agg (fsyA (Qdm f dir s)),aI (Qbd f dir s)]):=by
 have hl:=hp.1;have hr:=Qaf hp;exact Qae func180 (let R:AV:=.tup [.agg (fsyA (Qdm f dir s)),aI (Qbd f dir s)];
 .new fun b1=>.new fun b2=>.new fun b3=>.new fun b4=>.r 1<|.u 3 [b1,b2,b3]<|
 .call (Qkw f dir s hp hs)<|
 .r 3<|.new fun b5=>.u 2 [b5]<|
 .u 2 [b5]<|
 .call (Qoq (lookN f dir s) (Qe2 okf hp).2.2.2.2)<|
 .call (Qbw (Qdd (lookN f dir s)) 11)<|
 .r 1<|.cs (args0:=[.sl 1 true ([[aI (Qa4 f dir s)],[aI (Qag (Qdd (lookN f dir s)) 11)]])]) (Qcu [(Qa4 f dir s),(Qag (Qdd (lookN f dir s)) 11)] (by simp)) ⟨Qqj (Qa4 f dir s) (Qag (Qdd (lookN f dir s)) 11),trivial⟩<|
 .r 1<|.frz 3 [3,4,5,6,7,8,9] [4,5,6,8] [b1=b1] rt1<|
 .frz 4 [3,4,5,6,7,8,9] [5,6,8] [b2=b2] rt1<|
 .frz 5 [3,4,5,6,7,8,9] [6,8] [b3=b3] rt1<|
 .frz 8 [3,4,5,6,7,8,9] [6] [b5=b5] rt1<|
 .r 3<|.cs (args0:=[.agg (fsyA f),aI (Qax [(Qa4 f dir s),(Qag (Qdd (lookN f dir s)) 11)]),.clo 219 [.dptr (fsyA f),.dptr [aI dir],.dptr [aS s],.dptr [aI ((lookN f dir s).ino),aI ((lookN f dir s).kind),aI ((lookN f dir s).links),aS ((lookN f dir s).text),.sl 2 false ((lookN f dir s).l.map entA)]]]) (Qte (Qax [(Qa4 f dir s),(Qag (Qdd (lookN f dir s)) 11)]) f dir s (lookN f dir s) okf hp hs ⟨(Qe2 okf hp).1.1,(Qe2 okf hp).2.1⟩ ⟨(Qe2 okf hp).2.2.1,(Qe2 okf hp).2.2.2.1⟩) sr3<|
 .u 4 [b4]<|
 .fi R [b4])
theorem Qqi {t:Bool} (a b c d e g:Int):Sub (.sl 1 t [[aI a],[aI b],[aI c],[aI d],[aI e],[aI g]]) (.sl 1 false ([a,b,c,d,e,g].map intA)):=W2r _ _ _
theorem Zcg {t:Bool} (a b c d:Int):Sub (.sl 1 t [[aI a],[aI b],[aI c],[aI d]]) (.sl 1 false ([a,b,c,d].map intA)):=W2r _ _ _
noncomputable def Qjn (n:Nod):Nod:=⟨n.ino,n.kind,n.links+1,n.text,n.l⟩
noncomputable def Qea (f:Fsy) (d:Int) (s:Txt) (i:Int) (n:Nod):Fsy:=putF (enterF f d s i) (Qjn n)
noncomputable def Qa5 (f:Fsy) (d:Int) (s:Txt) (i:Int):Int:=Qax [dirE f d,Qag (!(Qav f i)) 6,Qag ((Qaa f i).kind==2) 9,Qak s,Qag (isB (dirN f d).l s) 7,Qag (decide (((dirN f d).l.length:Int)≥256)||decide ((Qaa f i).links≥64)) 12]
noncomputable def Qcz (f:Fsy) (d:Int) (s:Txt) (i:Int):Fsy:=if Qa5 f d s i=0 then Qea f d s i (Qaa f i) else f
theorem Qes {f:Fsy} (hp:Qan f) (i:Int):0≤(Qaa f i).links∧(Qaa f i).links≤64:=by
 by_cases h:Qav f i=true
 ·have:=((Qbx.1 hp).2.2.1 _ (Qf3 h)).1;exact ⟨this.2.1,this.2.2.1⟩
 ·rw [(Qvq (Qil (by simpa using h))).2];decide
theorem Zce (f:Fsy) (dir:Int) (s:Txt) (i:Int) (n:Nod) (b:Nat) (okf:OkF f) (hp:Qan f) (hs:s.length≤1000000) (hi:I64 i) (hn:I64 n.ino∧n.ino<9223372036854775807) (hk:0≤n.links∧n.links≤1000):Qs1 prog 185 [.ptr 12 b 0,.dptr (fsyA f),.dptr [aI dir],.dptr [aS s],.dptr [aI i]] (.box b 84 (nodA n)) (.agg (fsyA (Qea f dir s i n))):=by
 have hl:=hp.1;have hr:=Qaf hp;exact Qku (q:=12) func185 (let R:AV:=.agg (fsyA (Qea f dir s i n));
 .new fun b1=>.run 5 [b=b,rng .i64 (n.links+1),b=b] ⟨rfl,Qah,rfl,trivial⟩<|
 .ord [0,1,2,3,5,4,6,7]<|.run 5 [b=b] rt1<|
 .call (Qhl f dir s i okf hp (by omega) hi)<|
 .cs (args0:=[.agg [.sl 5 false ((enterF f dir s i).l.map nodA),aI ((enterF f dir s i).next)],.agg [aI n.ino,aI n.kind,aI (n.links+1),aS n.text,.sl 2 false (n.l.map entA)]]) (Qfz (enterF f dir s i) (Qjn n) hn (by have:=Qm6 f dir s i;omega) (Qjf hp dir s i)) sr2<|
 .u 1 [b1]<|
 .fi R [b1])
theorem Qme (e:Int) (f:Fsy) (dir:Int) (s:Txt) (i:Int) (n:Nod) (b:Nat) (okf:OkF f) (hp:Qan f) (hs:s.length≤1000000) (hi:I64 i) (hn:I64 n.ino∧n.ino<9223372036854775807) (hk:0≤n.links∧n.links≤1000):Qs1 prog 184 [.agg (fsyA f),aI e,.clo 185 [.ptr 12 b 0,.dptr (fsyA f),.dptr [aI dir],.dptr [aS s],.dptr [aI i]]] (.box b 84 (nodA n)) (.tup [.agg (fsyA (if e=0 then Qea f dir s i n else f)),aI e]):=by
 exact Qku (q:=12) func184 (
 .new fun b1=>.new fun b2=>.r 1<|.r 2<|.bn 9 e 0 (fun p1=>.u 4 [b1,b2]<|
 .f (.tup [.agg (fsyA (if e=0 then Qea f dir s i n else f)),aI e]) [b2] (.tup [.agg (fsyA f),aI e]) (by
  rw [W1x (show ¬ e=0 from by omega)];exact sR))
 <| fun p1=>.lent 1<|.r 1<|.lop (lcR prog 12) ((185,[.ptr 12 b 0,.dptr (fsyA f),.dptr [aI dir],.dptr [aS s],.dptr [aI i]],some 13),.box b 84 (nodA n)) (fun (_:Unit) σ=>(σ.put (some 13) (.agg [.sl 5 false ((Qea f dir s i n).l.map nodA),aI ((Qea f dir s i n).next)])).setB 12 gone) (Qc4 (args':=[.ptr 12 b 0,.dptr (fsyA f),.dptr [aI dir],.dptr [aS s],.dptr [aI i]]) sr5 (Zce f dir s i n b okf hp hs hi hn hk)) fun _=>
 .u 2 [b2]<|
 .f (.tup [.agg (fsyA (if e=0 then Qea f dir s i n else f)),aI e]) [b2] (.tup [.agg [.sl 5 false ((Qea f dir s i n).l.map nodA),aI ((Qea f dir s i n).next)],aI 0]) (by
  rw [W1y (show e=0 from by omega),show e=0 from by omega];exact sR))
theorem Zgo (f:Fsy) (dir:Int) (s:Txt) (i:Int) (okf:OkF f) (hp:Qan f) (hs:s.length≤1000000) (hi:I64 i):Qai prog 143 [.agg (fsyA f),aI dir,aS s,aI i] (.tup [.agg (fsyA (Qcz f dir s i)),aI (Qa5 f dir s i)]):=by
 have hl:=hp.1;have hr:=Qaf hp;exact Qae func143 (
 .new fun b1=>.new fun b2=>.new fun b3=>.new fun b4=>.new fun b5=>.r 1<|.u 2 [b1,b2]<|
 .call (Qjg f dir hp)<|
 .r 3<|.new fun b6=>.u 2 [b6]<|
 .u 2 [b1,b4]<|
 .call (Qcp f i (by omega) hr)<|
 .r 3<|.new fun b7=>.u 2 [b7]<|
 .u 3 [b6,b3]<|
 .call (Qgs ((dirN f dir).l) s (by have:=(Qdo hp dir).2;omega) (Qdo hp dir).1)<|
 .r 5<|.ord [0,1,2,4,5,6,8,10,12,13,14,15,3,7,9,11,16,17,18,19,20,21,22,23,24]<|.u 11 [b7,b3,b6]<|
 .lm 49 ((dirN f dir).l) entA<|.r 1<|.call (Qbw (!(Qav f i)) 6)<|
 .call (Qbw (((Qaa f i).kind)==2) 9)<|
 .call (Qff s (by omega))<|
 .call (Qbw (isB ((dirN f dir).l) s) 7)<|
 .r 1<|.br 51 (decide ((((dirN f dir).l).length:Int)≥256)) (fun q1=>have p1:=decT q1;.r 4<|.call (Qbw true 12)<|
 .r 1<|.cs (args0:=[.sl 1 true ([[aI (dirE f dir)],[aI (Qag (!(Qav f i)) 6)],[aI (Qag (((Qaa f i).kind)==2) 9)],[aI (Qak s)],[aI (Qag (isB ((dirN f dir).l) s) 7)],[aI (Qag true 12)]])]) (Qcu [(dirE f dir),(Qag (!(Qav f i)) 6),(Qag (((Qaa f i).kind)==2) 9),(Qak s),(Qag (isB ((dirN f dir).l) s) 7),(Qag true 12)] (by simp)) ⟨Qqi (dirE f dir) (Qag (!(Qav f i)) 6) (Qag (((Qaa f i).kind)==2) 9) (Qak s) (Qag (isB ((dirN f dir).l) s) 7) (Qag true 12),trivial⟩<|
 .r 1<|.frz 4 [4,5,6,7,8,9,11,12,51,55] [5,6,7,8,12] [b1=b1] rt1<|
 .frz 5 [4,5,6,7,8,9,11,12,51,55] [6,7,8,12] [b2=b2] rt1<|
 .frz 6 [4,5,6,7,8,9,11,12,51,55] [7,8,12] [b3=b3] rt1<|
 .frz 7 [4,5,6,7,8,9,11,12,51,55] [8,12] [b4=b4] rt1<|
 .lent 3<|.r 3<|.lop (lcR prog 12) ((184,[.agg (fsyA f),aI (Qax [(dirE f dir),(Qag (!(Qav f i)) 6),(Qag (((Qaa f i).kind)==2) 9),(Qak s),(Qag (isB ((dirN f dir).l) s) 7),(Qag true 12)]),.clo 185 [.ptr 12 b7 0,.dptr (fsyA f),.dptr [aI dir],.dptr [aS s],.dptr [aI i]]],some 62),.box b7 84 [aI ((Qaa f i).ino),aI ((Qaa f i).kind),aI ((Qaa f i).links),aS ((Qaa f i).text),.sl 2 false ((Qaa f i).l.map entA)]) (fun (_:Unit) σ=>(σ.put (some 62) (.tup [.agg [.sl 5 false ((if Qax [(dirE f dir),(Qag (!(Qav f i)) 6),(Qag (((Qaa f i).kind)==2) 9),(Qak s),(Qag (isB ((dirN f dir).l) s) 7),(Qag true 12)]=0 then Qea f dir s i (Qaa f i) else f).l.map nodA),aI ((if Qax [(dirE f dir),(Qag (!(Qav f i)) 6),(Qag (((Qaa f i).kind)==2) 9),(Qak s),(Qag (isB ((dirN f dir).l) s) 7),(Qag true 12)]=0 then Qea f dir s i (Qaa f i) else f).next)],aI (Qax [(dirE f dir),(Qag (!(Qav f i)) 6),(Qag (((Qaa f i).kind)==2) 9),(Qak s),(Qag (isB ((dirN f dir).l) s) 7),(Qag true 12)])])).setB 12 gone) (Qc4 (args':=[.agg (fsyA f),aI (Qax [(dirE f dir),(Qag (!(Qav f i)) 6),(Qag (((Qaa f i).kind)==2) 9),(Qak s),(Qag (isB ((dirN f dir).l) s) 7),(Qag true 12)]),.clo 185 [.ptr 12 b7 0,.dptr (fsyA f),.dptr [aI dir],.dptr [aS s],.dptr [aI i]]]) sr3 (Qme (Qax [(dirE f dir),(Qag (!(Qav f i)) 6),(Qag (((Qaa f i).kind)==2) 9),(Qak s),(Qag (isB ((dirN f dir).l) s) 7),(Qag true 12)]) f dir s i (Qaa f i) b7 okf hp hs hi (Qcg okf hp i) (by have:=Qes hp i;omega))) fun _=>
 .u 4 [b5]<|
 .f (.tup [.agg (fsyA (Qcz f dir s i)),aI (Qa5 f dir s i)]) [b5] (.tup [.agg [.sl 5 false ((if Qax [(dirE f dir),(Qag (!(Qav f i)) 6),(Qag (((Qaa f i).kind)==2) 9),(Qak s),(Qag (isB ((dirN f dir).l) s) 7),(Qag true 12)]=0 then Qea f dir s i (Qaa f i) else f).l.map nodA),aI ((if Qax [(dirE f dir),(Qag (!(Qav f i)) 6),(Qag (((Qaa f i).kind)==2) 9),(Qak s),(Qag (isB ((dirN f dir).l) s) 7),(Qag true 12)]=0 then Qea f dir s i (Qaa f i) else f).next)],aI (Qax [(dirE f dir),(Qag (!(Qav f i)) 6),(Qag (((Qaa f i).kind)==2) 9),(Qak s),(Qag (isB ((dirN f dir).l) s) 7),(Qag true 12)])]) (by
  have e:Qa5 f dir s i=Qax [(dirE f dir),(Qag (!(Qav f i)) 6),(Qag (((Qaa f i).kind)==2) 9),(Qak s),(Qag (isB ((dirN f dir).l) s) 7),(Qag true 12)]:=by
   unfold Qa5;simp only [q1,W02,W0u,W0x,W0t]
  unfold Qcz;rw [e];exact sR))
 <| fun q1=>have p1:=decF q1;.u 4 [b7]<|
 .call (Qbw (decide (((Qaa f i).links)≥64)) 12)<|
 .r 1<|.cs (args0:=[.sl 1 true ([[aI (dirE f dir)],[aI (Qag (!(Qav f i)) 6)],[aI (Qag (((Qaa f i).kind)==2) 9)],[aI (Qak s)],[aI (Qag (isB ((dirN f dir).l) s) 7)],[aI (Qag (decide (((Qaa f i).links)≥64)) 12)]])]) (Qcu [(dirE f dir),(Qag (!(Qav f i)) 6),(Qag (((Qaa f i).kind)==2) 9),(Qak s),(Qag (isB ((dirN f dir).l) s) 7),(Qag (decide (((Qaa f i).links)≥64)) 12)] (by simp)) ⟨Qqi (dirE f dir) (Qag (!(Qav f i)) 6) (Qag (((Qaa f i).kind)==2) 9) (Qak s) (Qag (isB ((dirN f dir).l) s) 7) (Qag (decide (((Qaa f i).links)≥64)) 12),trivial⟩<|
 .r 1<|.frz 4 [4,5,6,7,8,9,11,12,51] [5,6,7,8,12] [b1=b1] rt1<|
 .frz 5 [4,5,6,7,8,9,11,12,51] [6,7,8,12] [b2=b2] rt1<|
 .frz 6 [4,5,6,7,8,9,11,12,51] [7,8,12] [b3=b3] rt1<|
 .frz 7 [4,5,6,7,8,9,11,12,51] [8,12] [b4=b4] rt1<|
 .lent 3<|.r 3<|.lop (lcR prog 12) ((184,[.agg (fsyA f),aI (Qax [(dirE f dir),(Qag (!(Qav f i)) 6),(Qag (((Qaa f i).kind)==2) 9),(Qak s),(Qag (isB ((dirN f dir).l) s) 7),(Qag (decide (((Qaa f i).links)≥64)) 12)]),.clo 185 [.ptr 12 b7 0,.dptr (fsyA f),.dptr [aI dir],.dptr [aS s],.dptr [aI i]]],some 62),.box b7 84 [aI ((Qaa f i).ino),aI ((Qaa f i).kind),aI ((Qaa f i).links),aS ((Qaa f i).text),.sl 2 false ((Qaa f i).l.map entA)]) (fun (_:Unit) σ=>(σ.put (some 62) (.tup [.agg [.sl 5 false ((if Qax [(dirE f dir),(Qag (!(Qav f i)) 6),(Qag (((Qaa f i).kind)==2) 9),(Qak s),(Qag (isB ((dirN f dir).l) s) 7),(Qag (decide (((Qaa f i).links)≥64)) 12)]=0 then Qea f dir s i (Qaa f i) else f).l.map nodA),aI ((if Qax [(dirE f dir),(Qag (!(Qav f i)) 6),(Qag (((Qaa f i).kind)==2) 9),(Qak s),(Qag (isB ((dirN f dir).l) s) 7),(Qag (decide (((Qaa f i).links)≥64)) 12)]=0 then Qea f dir s i (Qaa f i) else f).next)],aI (Qax [(dirE f dir),(Qag (!(Qav f i)) 6),(Qag (((Qaa f i).kind)==2) 9),(Qak s),(Qag (isB ((dirN f dir).l) s) 7),(Qag (decide (((Qaa f i).links)≥64)) 12)])])).setB 12 gone) (Qc4 (args':=[.agg (fsyA f),aI (Qax [(dirE f dir),(Qag (!(Qav f i)) 6),(Qag (((Qaa f i).kind)==2) 9),(Qak s),(Qag (isB ((dirN f dir).l) s) 7),(Qag (decide (((Qaa f i).links)≥64)) 12)]),.clo 185 [.ptr 12 b7 0,.dptr (fsyA f),.dptr [aI dir],.dptr [aS s],.dptr [aI i]]]) sr3 (Qme (Qax [(dirE f dir),(Qag (!(Qav f i)) 6),(Qag (((Qaa f i).kind)==2) 9),(Qak s),(Qag (isB ((dirN f dir).l) s) 7),(Qag (decide (((Qaa f i).links)≥64)) 12)]) f dir s i (Qaa f i) b7 okf hp hs hi (Qcg okf hp i) (by have:=Qes hp i;omega))) fun _=>
 .u 4 [b5]<|
 .f (.tup [.agg (fsyA (Qcz f dir s i)),aI (Qa5 f dir s i)]) [b5] (.tup [.agg [.sl 5 false ((if Qax [(dirE f dir),(Qag (!(Qav f i)) 6),(Qag (((Qaa f i).kind)==2) 9),(Qak s),(Qag (isB ((dirN f dir).l) s) 7),(Qag (decide (((Qaa f i).links)≥64)) 12)]=0 then Qea f dir s i (Qaa f i) else f).l.map nodA),aI ((if Qax [(dirE f dir),(Qag (!(Qav f i)) 6),(Qag (((Qaa f i).kind)==2) 9),(Qak s),(Qag (isB ((dirN f dir).l) s) 7),(Qag (decide (((Qaa f i).links)≥64)) 12)]=0 then Qea f dir s i (Qaa f i) else f).next)],aI (Qax [(dirE f dir),(Qag (!(Qav f i)) 6),(Qag (((Qaa f i).kind)==2) 9),(Qak s),(Qag (isB ((dirN f dir).l) s) 7),(Qag (decide (((Qaa f i).links)≥64)) 12)])]) (by
  have e:Qa5 f dir s i=Qax [(dirE f dir),(Qag (!(Qav f i)) 6),(Qag (((Qaa f i).kind)==2) 9),(Qak s),(Qag (isB ((dirN f dir).l) s) 7),(Qag (decide (((Qaa f i).links)≥64)) 12)]:=by
   unfold Qa5;simp only [q1,W02,W0u,W0x,W0t]
  unfold Qcz;rw [e];exact sR))
end Go.Proofs.YtahlldgocpabjaaGreat

namespace Go.Proofs.YtahlldgocpabjaaGreat
open Go Go.RowKit Copyhold Go.Proofs.Tryz
open Copyhold.Name (Srt insE delE getE isAt)
theorem first5 {a b c d e:Int}:Qax [a,b,c,d,e]=if a=0 then (if b=0 then (if c=0 then (if d=0 then e else d) else c) else b) else a:=by
 unfold Qax;by_cases h:a=0<;>by_cases h2:b=0<;>by_cases h3:c=0<;>by_cases h4:d=0<;>by_cases h5:e=0<;>simp [h,h2,h3,h4,h5]
theorem first6 {a b c d e g:Int}:Qax [a,b,c,d,e,g]=if a=0 then (if b=0 then (if c=0 then (if d=0 then (if e=0 then g else e) else d) else c) else b) else a:=by
 unfold Qax;by_cases h:a=0<;>by_cases h2:b=0<;>by_cases h3:c=0<;>by_cases h4:d=0<;>by_cases h5:e=0<;>by_cases h6:g=0<;>simp [h,h2,h3,h4,h5,h6]
theorem Qv4 {b:Bool} {e:Int} (he:¬ e=0):Qag b e=0↔b=false:=by
 unfold Qag;cases b<;>simp [he]
theorem Qzz {f:Fsy} {i:Int} {d:Nod} (h:atF f i=some d):Qaa f i=d:=(Qfr h).2
theorem Zc5 {d:Nod} {l:List Ent} (h:nodP d) (hk:d.kind=2) (hl:rowP l):nodP (Qbr d l):=⟨h.1,h.2.1,h.2.2.1,.inl ⟨hk,(Qdp h hk).1,hl⟩⟩
def setL (f:Fsy) (d:Nod) (l:List Ent):Fsy:=putF f (Qbr d l)
theorem Qfk {f:Fsy} {i:Int} {d:Nod} {l:List Ent} (h:Qan f) (hd:atF f i=some d) (hk:d.kind=2) (hl:rowP l):Qan (setL f d l)∧(setL f d l).l.length=f.l.length∧(setL f d l).next=f.next∧∀ j,atF (setL f d l) j=if j=i then some (Qbr d l) else atF f j:=by
 obtain ⟨g1,g2,g3⟩:=Qbh h hd;have hb:Qav f (Qbr d l).ino=true:=by show Qav f d.ino=true;rw [g3];exact (Qfr hd).1
 refine ⟨Qt4 h (Zc5 g1 hk hl) hb,Qrg (Qaf h) hb,Qki g2,fun j=>?_⟩;have:=Qmm (n:=Qbr d l) (j:=j) (Qaf h);rw [show (Qbr d l).ino=i from g3] at this;exact this
theorem Qkh {f:Fsy} {n m:Nod} {i:Int} (h:Qan f) (hd:atF f i=some m) (hi:n.ino=i) (hn:nodP n):Qan (putF f n)∧(putF f n).l.length=f.l.length∧(putF f n).next=f.next∧∀ j,atF (putF f n) j=if j=i then some n else atF f j:=by
 obtain ⟨g1,g2,g3⟩:=Qbh h hd;have hb:Qav f n.ino=true:=by rw [hi];exact (Qfr hd).1
 exact ⟨Qt4 h hn hb,Qrg (Qaf h) hb,Qki (by omega),fun j=>by rw [Qmm (Qaf h),hi]⟩
structure AddsP (f:Fsy) (dir:Int) (s:Txt) (n:Nod) (d:Nod):Prop where
 dir:atF f dir=some d
 kind:d.kind=2
 check:Qak s=0
 away:isB d.l s=false
 few:f.l.length<256
 fewd:d.l.length<256
 node:nodP (addN f n)
 nol:n.l=[]
theorem Qsx {f:Fsy} {dir:Int} {s:Txt} {n:Nod} (h:Qaw f dir s n=0):∃ d,AddsP f dir s n d:=by
 unfold Qaw at h;rw [first5] at h
 split at h
 ·rename_i h1
  split at h
  ·rename_i h2
   split at h
   ·rename_i h3
    split at h
    ·rename_i h4;obtain ⟨d,g1,g2,g3,_,_⟩:=Qvr h1;rw [g3] at h3 h4;rw [Qv4 (by decide)] at h h3 h4;simp only [Bool.or_eq_false_iff,decide_eq_false_iff_not,Bool.not_eq_false'] at h h4;refine ⟨d,g1,g2,h2,h3,by omega,by omega,Qau.1 h.1,W0l (by omega)⟩
    ·exact absurd h (by assumption)
   ·exact absurd h (by assumption)
  ·exact absurd h (by assumption)
 ·exact absurd h (by assumption)
theorem Qee {f:Fsy} {dir:Int} {s:Txt} {i:Int} {d:Nod} (h:atF f dir=some d):enterF f dir s i=setL f d (entL d.l s i):=by unfold enterF setL;rw [Qzz h]
theorem Qkx {f:Fsy} {dir:Int} {s:Txt} {d:Nod} (h:atF f dir=some d):leaveF f dir s=setL f d (delL d.l s):=by unfold leaveF setL;rw [Qzz h]
theorem Zmz {f:Fsy} {dir:Int} {s:Txt} {d n:Nod} {j:Int} (h1:atF f dir=some d) (h2:d.kind=2) (h3:Qak s=0) (h4:getE (lI d.l) s=some j) (h5:atF f j=some n) (hf:Qdd n=false) :
  Qbd f dir s=0∧Qdm f dir s=Qbm f dir s n:=by
 obtain ⟨g1,g2⟩:=Qfm h1 h2 h3 h4 h5;have e:Qbd f dir s=0:=by unfold Qbd;rw [Qqk,W1y g1,g2,hf];rfl
 exact ⟨e,by unfold Qdm;rw [W1y e,g2]⟩
theorem Zh6 {f:Fsy} (h:Qan f):atF f f.next=none:=by
 cases hc:atF f f.next with
 | none=>rfl
 | some n=>have:=Qbh h hc;omega
theorem Qqu {f:Fsy} {dir:Int} {s:Txt} {n:Nod} (hp:Qan f) (he:Qaw f dir s n=0) :
  Qan (addF f dir s (addN f n))∧Qa4 (addF f dir s (addN f n)) dir s=0∧lookN (addF f dir s (addN f n)) dir s=Qbr (addN f n) []∧Qbd (addF f dir s (addN f n)) dir s=0 ∧
   Qdm (addF f dir s (addN f n)) dir s=⟨f.l,f.next+1⟩∧Qan ⟨f.l,f.next+1⟩∧Qa4 ⟨f.l,f.next+1⟩ dir s=6:=by
 obtain ⟨d,A⟩:=Qsx he;obtain ⟨g1,g2,g3⟩:=Qbh hp A.dir;have hr:=Qaf hp;have hrow:=(Qdp g1 A.kind).2;have hnx:1≤f.next:=hp.2.1;have hn:=Zh6 hp;have hne:¬ dir=f.next:=fun e=>by rw [← e,A.dir] at hn;cases hn
 have he0:=Qd1 (n:=f.next) A.check hnx A.away A.fewd;have hrow2:=Qsf (n:=f.next) hrow A.check hnx A.away A.fewd;obtain ⟨s1,s2,s3,s4⟩:=Qfk hp A.dir A.kind hrow2;have hX:nodP (Qbr (addN f n) []):=by
  have:=A.node;have hl:Qbr (addN f n) []=addN f n:=by unfold Qbr addN;rw [A.nol]
  rw [hl];exact this
 have hXi:(Qbr (addN f n) []).ino=f.next:=rfl;have eA:addF f dir s (addN f n)=putF (setL f d (entL d.l s f.next)) (Qbr (addN f n) []):=by
  unfold addF;rw [show (addN f n).ino=f.next from rfl,Qee A.dir]
 have r1:Qan (addF f dir s (addN f n)):=by rw [eA];exact Zjf s1 hX (by rw [s2];exact A.few)
 have fA:∀ j,atF (addF f dir s (addN f n)) j=if j=f.next then some (Qbr (addN f n) []) else if j=dir then some (Qbr d (entL d.l s f.next)) else atF f j:=fun j=>by
  rw [eA,Qmm (Qaf s1),hXi,s4]
 have nA:(addF f dir s (addN f n)).next=f.next+1:=by rw [eA,Qnu (by rw [hXi,s3]),s3]
 have dA:atF (addF f dir s (addN f n)) dir=some (Qbr d (entL d.l s f.next)):=by rw [fA,W1x hne,W1y rfl]
 have xA:atF (addF f dir s (addN f n)) f.next=some (Qbr (addN f n) []):=by rw [fA,W1y rfl]
 have gA:getE (lI (Qbr d (entL d.l s f.next)).l) s=some f.next:=by
  show getE (lI (entL d.l s f.next)) s=_;rw [Qr6 (Qdc hrow) he0 A.away,W1y rfl]
 obtain ⟨l1,l2⟩:=Qfm dA A.kind A.check gA xA;have hfull:Qdd (Qbr (addN f n) [])=false:=by unfold Qdd;simp [Qbr]
 obtain ⟨t1,t2⟩:=Zmz dA A.kind A.check gA xA hfull;have eL:leaveF (addF f dir s (addN f n)) dir s=setL (addF f dir s (addN f n)) (Qbr d (entL d.l s f.next)) d.l:=by
  rw [Qkx dA];show setL _ _ (delL (entL d.l s f.next) s)=_;rw [Zhg (Qdc hrow) he0 A.away]
 obtain ⟨u1,u2,u3,u4⟩:=Qfk r1 dA A.kind hrow;have rN:Qan ⟨f.l,f.next+1⟩:=by
  obtain ⟨h1,h2,h3,h4⟩:=Qbx.1 hp;exact Qbx.2 ⟨h1,by show 1≤f.next+1;omega,fun x hx=>⟨(h3 x hx).1,by have:=(h3 x hx).2;show x.ino<f.next+1;omega⟩,h4⟩
 have eT:Qdm (addF f dir s (addN f n)) dir s=⟨f.l,f.next+1⟩:=by
  rw [t2];unfold Qbm;rw [W1y (by show (1:Int)-1<1;omega),eL,hXi];refine Ql0 (Qy4 (Qaf u1)) hr (fun j=>?_) (by show (setL _ _ _).next=f.next+1;rw [u3,nA]);rw [Zam (Qaf u1),u4,fA];show _=atF f j;by_cases hj:j=f.next
  ·rw [W1y hj,hj,hn]
  ·rw [W1x hj,W1x hj];by_cases hd:j=dir
   ·rw [W1y hd,hd,A.dir];rfl
   ·rw [W1x hd,W1x hd]
 refine ⟨r1,l1,l2,t1,eT,rN,?_⟩;refine Qoa (d:=d) rN A.dir A.kind A.check ?_;have:=A.away;rw [Qer] at this;cases hg:getE (lI d.l) s with
 | none=>rfl
 | some j=>rw [hg] at this;cases this
theorem Zmu {f:Fsy} {dir:Int} {s:Txt} {n:Nod} (okf:OkF f) (hp:Qan f) (okn:OkN n) (hs:s.length≤1000000) (he:Qaw f dir s n=0) (hx:f.next<4611686018427387904):OkF (addF f dir s (addN f n)):=by
 obtain ⟨d,A⟩:=Qsx he;have h1:f.l.length≤256:=hp.1;have h2:=(Qbh hp A.dir).2;have okd:=okf.2.2 d (Qdk A.dir);have hnx:1≤f.next:=hp.2.1;have he0:=Qd1 (n:=f.next) A.check hnx A.away A.fewd;have okl:OkN (Qbr d (entL d.l s f.next)):=by
  refine ⟨okd.1,okd.2.1,okd.2.2.1,okd.2.2.2.1,?_,fun e hm=>?_⟩
  ·have:=Qoy (l:=d.l) (s:=s) (n:=f.next);have:=A.fewd;show (entL d.l s f.next).length≤_;omega
  ·have hm':e∈entL d.l s f.next:=hm;unfold entL at hm';rw [W1y he0] at hm';rcases W05.1 hm' with h | h
   ·exact okd.2.2.2.2.2 e (W14 h)
   ·rcases W0y.1 h with rfl | h
    ·exact ⟨by show s.length≤_;omega,okf.1⟩
    ·exact okd.2.2.2.2.2 e (W2e h)
 have hf:=okf.1;have hs1:=Qnv f.l (Qbr d (entL d.l s f.next));unfold addF;rw [show (addN f n).ino=f.next from rfl,Qee A.dir];refine Qp5 (Qp5 okf okl (by show d.ino<_;omega) (by omega)) ?_ (by show f.next<_;omega) (by show (putN f.l _).length≤_;omega);have:=Qsy (n:=n) okf okn;exact ⟨this.1,this.2.1,this.2.2.1,this.2.2.2.1,by show (0:Nat)≤_;omega,fun e h=>by cases h⟩
end Go.Proofs.YtahlldgocpabjaaGreat

namespace Go.Proofs.YtahlldgocpabjaaGreat
open Go Go.RowKit Copyhold Go.Proofs.Tryz
theorem Zo0:Qak [97]=0:=Qsr ⟨by decide,by decide,by decide,by decide,by decide,by decide⟩
theorem Zop:dirE newF 1=0:=rfl
def Qmr:Nod:=⟨0,1,0,[],[]⟩
theorem Zkj:OkN Qmr:=⟨⟨by decide,by decide⟩,⟨by decide,by decide⟩,⟨by decide,by decide⟩,by show (0:Nat)≤_;omega,by show (0:Nat)≤_;omega,fun e h=>by cases h⟩
theorem Zch:nodP (addN newF Qmr):=⟨by decide,by decide,by decide,.inr ⟨.inl rfl,by decide,rfl⟩⟩
theorem Ql9:Qaw newF 1 [97] Qmr=0:=by
 unfold Qaw;rw [Zo0,Zop,Qau.2 Zch];rfl
theorem Zo6:((if Qaw newF 1 [97] Qmr=0 then addF newF 1 [97] (addN newF Qmr) else newF).l.length:Int)=2:=by
 rw [W1y Ql9];rfl
structure Dfi where
 f:Fsy
 i:Int
 s:Txt
 p:Txt
structure Dbk where
 f:Fsy
 i:Int
 s:Txt
 n:Nod
end Go.Proofs.YtahlldgocpabjaaGreat

namespace Go.Proofs.YtahlldgocpabjaaGreat
open Go Go.RowKit Copyhold Go.Proofs.Tryz
open Copyhold.Name (Srt insE delE getE isAt)
structure GivesP (f:Fsy) (dir:Int) (s:Txt) (i:Int) (d n:Nod):Prop where
 dir:atF f dir=some d
 kind:d.kind=2
 node:atF f i=some n
 file:¬ n.kind=2
 check:Qak s=0
 away:isB d.l s=false
 fewd:d.l.length<256
 links:n.links<64
theorem Qzs {f:Fsy} {dir:Int} {s:Txt} {i:Int} (h:Qa5 f dir s i=0):∃ d n,GivesP f dir s i d n:=by
 unfold Qa5 at h;rw [first6] at h
 split at h
 ·rename_i h1
  split at h
  ·rename_i h2
   split at h
   ·rename_i h3
    split at h
    ·rename_i h4
     split at h
     ·rename_i h5;obtain ⟨d,g1,g2,g3,_,_⟩:=Qvr h1;rw [g3] at h h5;rw [Qv4 (by decide)] at h h2 h3 h5;simp only [Bool.or_eq_false_iff,decide_eq_false_iff_not,Bool.not_eq_false'] at h h2;have hn:=Qgb h2;refine ⟨d,Qaa f i,g1,g2,hn,by simpa using h3,h4,h5,by omega,by omega⟩
     ·exact absurd h (by assumption)
    ·exact absurd h (by assumption)
   ·exact absurd h (by assumption)
  ·exact absurd h (by assumption)
 ·exact absurd h (by assumption)
structure Dgv where
 f:Fsy
 i:Int
 s:Txt
 n:Int
end Go.Proofs.YtahlldgocpabjaaGreat

namespace Go.Proofs.YtahlldgocpabjaaGreat
open Go Go.RowKit Copyhold Go.Proofs.Tryz
theorem Zfk {f:Fsy} (hp:Qan f) (z:Int):Qqc f z=nam f z:=by
 unfold Qqc nam;congr 1;refine List.map_congr_left fun n hn=>?_;unfold namK
 split
 ·rfl
 ·rename_i hk;rw [show cntE z n=0 from ?_];unfold cntE;rw [Qgz ((Qbx.1 hp).2.2.1 n hn).1 hk];rfl
theorem Qig {f:Fsy} (hp:Qan f) (i:Int):(Qaa f i).l.map Ent.ino=Qa9 f i:=by
 unfold Qa9
 split
 ·rfl
 ·rename_i hk;by_cases hb:Qav f i=true
  ·rw [Qgz ((Qbx.1 hp).2.2.1 _ (Qf3 hb)).1 hk];rfl
  ·rw [(Qvq (Qil (by simpa using hb))).2];rfl
theorem Qpa {l:List Ent}:∀ {U:List Int} {z:Int},hasB (addE U l) z=true↔hasB U z=true∨z∈l.map Ent.ino:=by
 induction l with
 | nil=>intro U z;simp [addE]
 | cons e r ih=>
  intro U z;show hasB (addE (if hasB U e.ino then U else U++[e.ino]) r) z=true↔_;rw [ih];simp only [W1u,W0y]
  split
  ·rename_i h;constructor
   ·rintro (g | g)
    ·exact .inl g
    ·exact .inr (.inr g)
   ·rintro (g | g | g)
    ·exact .inl g
    ·rw [g];exact .inl h
    ·exact .inr g
  ·rw [Qev];constructor
   ·rintro (g | g)
    ·rcases W16 _ _ ▸ g with g | g
     ·exact .inl g
     ·exact .inr (.inl (by simpa using (beq_iff_eq.1 g).symm))
    ·exact .inr (.inr g)
   ·rintro (g | g | g)
    ·exact .inl (by rw [g];rfl)
    ·exact .inl (by rw [g];simp)
    ·exact .inr g
theorem Qop {f:Fsy} {i:Int} (hp:Qan f):∀ (n:Nat) {U:List Int} (p:Nat),(∀ z,hasB U z=true→Reach f i z)→∀ z,hasB (goU f n U p) z=true→Reach f i z
 | 0,U,p,h=>h
 | n+1,U,p,h=>by
  simp only [goU]
  split
  ·rename_i y hy;refine Qop hp n (p+1) fun z hz=>?_;rcases Qpa.1 hz with hz | hz
   ·exact h z hz
   ·rw [Qig hp] at hz;exact (h y (Qjb.2 (W0h hy))).snoc hz
  ·exact h
theorem Qm9 {l:List Ent}:∀ {U:List Int} {k:Nat} {z:Int},U[k]?=some z→(addE U l)[k]?=some z:=by
 induction l with
 | nil=>intro U k z h;exact h
 | cons e r ih=>
  intro U k z h;show (addE (if hasB U e.ino then U else U++[e.ino]) r)[k]?=some z;refine ih ?_
  split
  ·exact h
  ·rw [W0o (Qap h)];exact h
theorem Qzr {f:Fsy} {i:Int} (hp:Qan f) (hf:fewF f):∀ (n:Nat) {U:List Int} (p:Nat),Dst f U→200≤n+p→(∀ y∈Qa9 f i,hasB U y=true)→(∀ k z,k<p→U[k]?=some z→∀ y∈Qa9 f z,hasB U y=true) →
  (∀ y∈Qa9 f i,hasB (goU f n U p) y=true)∧∀ z,hasB (goU f n U p) z=true→∀ y∈Qa9 f z,hasB (goU f n U p) y=true
 | 0,U,p,hd,hn,hi,h=>by
  have hl:=hd.le hf;refine ⟨hi,fun z hz=>?_⟩;obtain ⟨k,hk⟩:=W0w (Qjb.1 hz);have hk':U[k]?=some z:=hk;exact h k z (by have:=Qap hk';omega) hk'
 | n+1,U,p,hd,hn,hi,h=>by
  simp only [goU]
  split
  ·rename_i y hy;have mono:∀ z,hasB U z=true→hasB (addE U (Qaa f y).l) z=true:=fun z hz=>Qpa.2 (.inl hz);refine Qzr hp hf n (p+1) (Qf5 hd fun e he=>Qf4 he) (by omega) (fun z hz=>mono z (hi z hz)) fun k z hk hz w hw=>?_;by_cases hkp:k<p
   ·have hk2:k<U.length:=by have:=Qap hy;omega
    have e:U[k]?=some z:=by
     have:=Qm9 (l:=(Qaa f y).l) (W0d hk2);rw [this] at hz;rw [W0d hk2];exact hz
    exact mono w (h k z hkp e w hw)
   ·have e:k=p:=by omega
    subst e;rw [Qm9 hy] at hz;obtain rfl:=W0c hz;exact Qpa.2 (.inr (by rw [Qig hp];exact hw))
  ·rename_i hnone;refine ⟨hi,fun z hz=>?_⟩;obtain ⟨k,hk⟩:=W0w (Qjb.1 hz);have:U.length≤p:=by
    cases Nat.lt_or_ge p U.length with
    | inl hlt=>rw [W0d hlt] at hnone;cases hnone
    | inr hge=>exact hge
   exact h k z (by have:=Qap hk;omega) hk
theorem Zdc {f:Fsy} {i z:Int} (hp:Qan f) (hf:fewF f):hasB (Qda f i) z=true↔Reach f i z:=by
 have h0:∀ y,hasB (addE [] (Qaa f i).l) y=true↔y∈Qa9 f i:=fun y=>by
  rw [Qpa,Qig hp];simp [hasB]
 refine ⟨Qop hp 1300 0 (fun y hy=>.one ((h0 y).1 hy)) z,fun h=>?_⟩;obtain ⟨g1,g2⟩:=Qzr (i:=i) hp hf 1300 0 (Qf5 (Dst.nil f) fun e he=>Qf4 he) (by omega) (fun y hy=>(h0 y).2 hy) (fun k z hk=>absurd hk (Nat.not_lt_zero k));have main:∀ a b,Reach f a b→(∀ y∈Qa9 f a,hasB (Qda f i) y=true)→hasB (Qda f i) b=true:=by
  intro a b hab
  induction hab with
  | one h=>exact fun hk=>hk _ h
  | more h _ ih=>exact fun hk=>ih (g2 _ (hk _ h))
 exact main i z h g1
theorem Qjv {f:Fsy} (hf:fewF f) (h:Qmf f):TreeP f:=by
 obtain ⟨h1,⟨n0,h2,h3,h4,h5⟩,h6⟩:=h;have hr:=Qaf h1;have key:∀ i n,atF f i=some n→n.links=(nam f i:Int)∧(∀ e∈n.l,Qav f e.ino=true)∧(¬ i=1→1≤n.links∧(n.kind=2→n.links≤1∧Reach f 1 i)):=fun i n hn=>by
  obtain ⟨j,hj⟩:=W0w (Qdk hn);obtain ⟨a,b,c⟩:=h6 j n hj;rw [Qc7 hn,Zfk h1] at a;refine ⟨a,fun e he=>by obtain ⟨k,hk⟩:=W0w he;exact c k e hk,fun hi=>?_⟩;unfold Qof at b;have hj0:¬ j=0:=fun e=>by
   rw [e,h2] at hj;obtain rfl:=W0c hj;exact hi ((Qc7 hn).symm.trans h3)
  rw [decide_eq_true (show (j:Int)>0 from by omega)] at b;simp only [Bool.true_and,Bool.not_eq_true',Bool.or_eq_false_iff,decide_eq_false_iff_not,Bool.and_eq_false_iff] at b;refine ⟨by omega,fun hk=>?_⟩;rcases b.2 with b2 | b2
  ·simp [hk] at b2
  ·have b3:=b2.2;rw [Qc7 hn] at b3;simp only [Bool.not_eq_false'] at b3;exact ⟨by omega,(Zdc h1 hf).1 b3⟩
 refine ⟨h1,⟨n0,Qk2 h2 h3 hr,h4,h5⟩,fun i n hn=>(key i n hn).1,fun i z hz=>?_,fun i n hn hi=>((key i n hn).2.2 hi).1,fun i n hn hk hi=>?_⟩
 ·obtain ⟨d,hd,hk,e,he,hez⟩:=Qe4 hz;have hb:=(key i d hd).2.1 e he;rw [hez] at hb;refine ⟨⟨_,Qgb hb⟩,fun h1z=>?_⟩;have g:=(key 1 n0 (Qk2 h2 h3 hr)).1;have:=(Qlu hr).2 ⟨i,hz⟩;rw [h1z] at this;omega
 ·have:=(key i n hn).2.2 hi;have h2:=this.2 hk;exact ⟨by omega,h2.2⟩
def Qb6 (f:Fsy) (i:Int) (n:Nod):Bool:=n.kind==2&&(i==n.ino||hasB (Qek f n.ino) i)
def Qdi (n m:Nod):Int:=Qax [Qag (((n.kind==2) != (m.kind==2))&&(n.kind==2)) 8,Qag (((n.kind==2) != (m.kind==2))&&!(n.kind==2)) 9,Qag (Qdd m) 11]
theorem Qv1 (f:Fsy) (i:Int) (n:Nod) (okf:OkF f) (hl:f.l.length≤100000) (hr:Qb1 f.l):Qai prog 187 [.agg (fsyA f),aI i,.agg (nodA n)] (aB (Qb6 f i n)):=by
 exact Qae func187 (
 .new fun b1=>.new fun b2=>.r 1<|.u 4 [b2]<|
 .be 10 n.kind 2 (fun p1=>.u 5 [b2]<|
 .be 15 i n.ino (fun p2=>.r 8<|.f (aB (Qb6 f i n)) [] (aB true) (by exact W2p (W1z aB (by unfold Qb6;simp [*]))))
 <| fun p2=>.u 4 [b1,b2]<|
 .call (Zcw f i n.ino okf hl hr)<|
 .r 3<|.f (aB (Qb6 f i n)) [] (aB (hasB (Qek f n.ino) i)) (by exact W2p (W1z aB (by unfold Qb6;simp [*]))))
 <| fun p1=>.r 13<|.f (aB (Qb6 f i n)) [] (aB false) (by exact W2p (W1z aB (by unfold Qb6;simp [*]))))
theorem Ze5 (n m:Nod) (hm:m.l.length≤8796093022207):Qai prog 188 [.agg (nodA n),.agg (nodA m)] (aI (Qdi n m)):=by
 exact Qae func188 (
 .new fun b1=>.new fun b2=>.r 1<|.ord [0,1,2,3,4,5,6,7,8,9,10,11]<|.u 12 [b1,b1,b2]<|
 .ord [0,1,2,3,5,11,4,6,7,8,9,10,12,13,14,15,16]<|.r 2<|.br 18 (!((n.kind==2)==(m.kind==2))) (fun q1=>have q1:=notT q1;have p1:=beqF q1;.u 4 [b2]<|
 .call (Qbw (n.kind==2) 8)<|
 .r 1<|.is 23 (show (!((n.kind==2)==(m.kind==2)))=true from by rw [q1];rfl)<|.r 3<|.call (Qbw (!(n.kind==2)) 9)<|
 .call (Qoq m hm)<|
 .call (Qbw (Qdd m) 11)<|
 .r 1<|.cs (args0:=[.sl 1 true ([[aI (Qag (n.kind==2) 8)],[aI (Qag (!(n.kind==2)) 9)],[aI (Qag (Qdd m) 11)]])]) (Qcu [(Qag (n.kind==2) 8),(Qag (!(n.kind==2)) 9),(Qag (Qdd m) 11)] (by simp)) ⟨Qou (Qag (n.kind==2) 8) (Qag (!(n.kind==2)) 9) (Qag (Qdd m) 11),trivial⟩<|
 .r 1<|.f (aI (Qdi n m)) [] (aI (Qax [(Qag (n.kind==2) 8),(Qag (!(n.kind==2)) 9),(Qag (Qdd m) 11)])) (by exact W2p (W1z aI (by unfold Qdi;simp only [bne,q1];rfl))))
 <| fun q1=>have q1:=notF q1;have p1:=beqT q1;.u 4 [b2]<|
 .call (Qbw false 8)<|
 .r 1<|.is 23 (show (!((n.kind==2)==(m.kind==2)))=false from by rw [q1];rfl)<|.r 3<|.call (Qbw false 9)<|
 .call (Qoq m hm)<|
 .call (Qbw (Qdd m) 11)<|
 .r 1<|.cs (args0:=[.sl 1 true ([[aI (Qag false 8)],[aI (Qag false 9)],[aI (Qag (Qdd m) 11)]])]) (Qcu [(Qag false 8),(Qag false 9),(Qag (Qdd m) 11)] (by simp)) ⟨Qou (Qag false 8) (Qag false 9) (Qag (Qdd m) 11),trivial⟩<|
 .r 1<|.f (aI (Qdi n m)) [] (aI (Qax [(Qag false 8),(Qag false 9),(Qag (Qdd m) 11)])) (by exact W2p (W1z aI (by unfold Qdi;simp only [bne,q1];rfl))))
end Go.Proofs.YtahlldgocpabjaaGreat

namespace Go.Proofs.YtahlldgocpabjaaGreat
open Go Go.RowKit Copyhold Go.Proofs.Tryz
open Copyhold.Name (Srt insE delE getE isAt)
theorem Qxo {l:List NEnt} (h:Srt l) {x:NEnt}:x∈l↔getE l x.1=some x.2:=by
 unfold getE;constructor
 ·intro hx;have key:∀ l:List NEnt,Srt l→x∈l→l.find? (fun y=>y.1==x.1)=some x:=by
   intro l
   induction l with
   | nil=>intro _ h;cases h
   | cons a r ih=>
    intro hs hm;rw [W1f];rcases W0y.1 hm with e | hm
    ·rw [← e];simp
    ·have hlt:=Name.Srt.head hs x hm;have hne:(a.1==x.1)=false:=by
      cases hc:a.1==x.1 with
      | false=>rfl
      | true=>rw [beq_iff_eq.1 hc] at hlt;exact absurd hlt (fun h=>Name.ltI h)
     rw [hne];exact ih (Name.Srt.tail hs) hm
  rw [key l h hx];rfl
 ·intro hx;cases hf:l.find? (fun y=>y.1==x.1) with
  | none=>rw [hf] at hx;cases hx
  | some y=>
   rw [hf] at hx;have h1:y.1=x.1:=by simpa using List.find?_some hf
   have h2:y.2=x.2:=W0c hx;have:y=x:=Prod.ext h1 h2;exact this ▸ W1o hf
theorem Zdo:∀ {a b:List NEnt},Srt a→Srt b→(∀ x,x∈a↔x∈b)→a=b
 | [],[],_,_,_=>rfl
 | [],y :: s,_,_,h=>absurd ((h y).2 (by simp)) (by simp)
 | x :: r,[],_,_,h=>absurd ((h x).1 (by simp)) (by simp)
 | x :: r,y :: s,ha,hb,h=>by
  have e:x=y:=by
   rcases W0y.1 ((h x).1 (by simp)) with e | e
   ·exact e
   ·rcases W0y.1 ((h y).2 (by simp)) with e2 | e2
    ·exact e2.symm
    ·exact absurd (Name.ltT (Name.Srt.head hb x e) (Name.Srt.head ha y e2)) (fun h=>Name.ltI h)
  subst e;rw [Zdo (Name.Srt.tail ha) (Name.Srt.tail hb) fun z=>⟨fun hz=>?_,fun hz=>?_⟩]
  ·rcases W0y.1 ((h z).1 (by simp [hz])) with e | e
   ·have:=Name.Srt.head ha z hz;rw [e] at this;exact absurd this (fun h=>Name.ltI h)
   ·exact e
  ·rcases W0y.1 ((h z).2 (by simp [hz])) with e | e
   ·have:=Name.Srt.head hb z hz;rw [e] at this;exact absurd this (fun h=>Name.ltI h)
   ·exact e
theorem Zni {a b:List Ent} (ha:Srt (lI a)) (hb:Srt (lI b)) (h:∀ t,getE (lI a) t=getE (lI b) t):a=b:=
 Zf6 (Zdo ha hb fun x=>by rw [Qxo ha,Qxo hb,h])
theorem Qk5 {l:List Ent} {s:Txt} {j:Int} (h:Srt (lI l)) (hj:getE (lI l) s=some j):(delL l s).length+1=l.length:=by
 have hi:isB l s=true:=by rw [Qer,hj];rfl
 have:=Qri h hi;unfold delL;rw [W1y hi];simp only [W0e,W0g,W0p];omega
theorem Qxz {l:List Ent} {s:Txt} (h:Srt (lI l)):isB (delL l s) s=false:=by rw [Qer,get_del h,W1y rfl];rfl
theorem Zod {l:List Ent} {s:Txt} {j:Int} (h:rowP l) (hc:Qak s=0) (hn:1≤j) (hj:getE (lI l) s=some j):entL (delL l s) s j=l:=by
 have hs:=Qdc h;have hd:=Qdc (Zhe (s:=s) h);have hl:=Qk5 hs hj;have hlen:=h.1;have he:=Qd1 (l:=delL l s) (n:=j) hc hn (Qxz hs) (by omega);refine Zni ?_ hs fun t=>?_
 ·rw [Quk hd he];exact Name.srt_ins hd (Qxz hs)
 ·rw [Qr6 hd he (Qxz hs),get_del hs]
  split
  ·rename_i e;rw [e,hj]
  ·rfl
theorem Qmi {l:List Ent} {s:Txt} {j:Int} (h:Srt (lI l)) (hj:getE (lI l) s=some j):∃ e∈l,e.name=s∧e.ino=j:=by
 have:=(Qxo h (x:=((s,j):NEnt))).2 hj;unfold lI at this;obtain ⟨e,he,h2⟩:=W1j.1 this;exact ⟨e,he,W1z Prod.fst h2,W1z Prod.snd h2⟩
theorem Zdu {f:Fsy} {i:Int} {d:Nod} {l:List Ent} (okf:OkF f) (hp:Qan f) (hd:atF f i=some d) (hl:l.length≤1000000) (he:∀ e∈l,OkE e):OkF (setL f d l):=by
 have okd:=okf.2.2 d (Qdk hd);have h2:=(Qbh hp hd).2.1;obtain ⟨hf,hf2⟩:=okf.1;have h256:f.l.length≤256:=hp.1;exact Qp5 okf ⟨okd.1,okd.2.1,okd.2.2.1,okd.2.2.2.1,by show l.length≤_;omega,he⟩ (by show d.ino<_;omega) (by omega)
theorem Qsh {l:List Ent} {s:Txt}:∀ e∈delL l s,e∈l:=fun e he=>by
 unfold delL at he
 split at he
 ·rcases W05.1 he with h | h
  ·exact W14 h
  ·exact W2e h
 ·exact he
theorem Zg4 {l:List Ent} {s:Txt} {n:Int}:∀ e∈entL l s n,e=⟨s,n⟩∨e∈l:=fun e he=>by
 unfold entL at he
 split at he
 ·rcases W05.1 he with h | h
  ·exact .inr (W14 h)
  ·rcases W0y.1 h with h | h
   ·exact .inl h
   ·exact .inr (W2e h)
 ·exact .inr he
theorem Qd8 {f:Fsy} {dir:Int} {s:Txt} {d:Nod} (okf:OkF f) (hp:Qan f) (hd:atF f dir=some d) (hk:d.kind=2) :
  OkF (leaveF f dir s)∧Qan (leaveF f dir s)∧(leaveF f dir s).l.length=f.l.length∧(leaveF f dir s).next=f.next∧∀ j,atF (leaveF f dir s) j=if j=dir then some (Qbr d (delL d.l s)) else atF f j:=by
 have hrow:=(Qdp (Qbh hp hd).1 hk).2;have okd:=okf.2.2 d (Qdk hd);have hlen:=hrow.1;have:=Qxy (l:=d.l) (s:=s);rw [Qkx hd];obtain ⟨s1,s2,s3,s4⟩:=Qfk hp hd hk (Zhe (s:=s) hrow);exact ⟨Zdu okf hp hd (by omega) (fun e he=>okd.2.2.2.2.2 e (Qsh e he)),s1,s2,s3,s4⟩
theorem Qox {f:Fsy} {dir:Int} {s:Txt} {i:Int} {d:Nod} (okf:OkF f) (hp:Qan f) (hd:atF f dir=some d) (hk:d.kind=2) (hc:Qak s=0) (hs:s.length≤1000000) (hi:1≤i) (hi2:I64 i) (hb:isB d.l s=false) (hl:d.l.length<256) :
  OkF (enterF f dir s i)∧Qan (enterF f dir s i)∧(enterF f dir s i).l.length=f.l.length∧(enterF f dir s i).next=f.next∧∀ j,atF (enterF f dir s i) j=if j=dir then some (Qbr d (entL d.l s i)) else atF f j:=by
 have hrow:=(Qdp (Qbh hp hd).1 hk).2;have okd:=okf.2.2 d (Qdk hd);have:=Qoy (l:=d.l) (s:=s) (n:=i);rw [Qee hd];obtain ⟨s1,s2,s3,s4⟩:=Qfk hp hd hk (Qsf hrow hc hi hb hl);exact ⟨Zdu okf hp hd (by omega) (fun e he=>by
  rcases Zg4 e he with rfl | he
  ·exact ⟨by show s.length≤_;omega,hi2⟩
  ·exact okd.2.2.2.2.2 e he),s1,s2,s3,s4⟩
theorem Qld {f:Fsy} {dir:Int} {s:Txt} {d n:Nod} (okf:OkF f) (hp:Qan f) (hd:atF f dir=some d) (hk:d.kind=2) (hn:atF f n.ino=some n∨n=nod0) :
  OkF (Qbm f dir s n)∧Qan (Qbm f dir s n)∧(Qbm f dir s n).l.length≤f.l.length∧(Qbm f dir s n).next=f.next∧∀ j,atF (Qbm f dir s n) j=if j=n.ino then (if n.links-1<1 then none else some (Qhr n)) else if j=dir then some (Qbr d (delL d.l s)) else atF f j:=by
 obtain ⟨l1,l2,l3,l4,l5⟩:=Qd8 (s:=s) okf hp hd hk;unfold Qbm;by_cases hl:n.links-1<1
 ·simp only [hl,if_true];refine ⟨out_ok l1 (Qaf l2),Qy3 l2,by have:=Qw6 (leaveF f dir s).l n.ino;show (outN (leaveF f dir s).l n.ino).length≤_;omega,l4,fun j=>?_⟩;rw [Zam (Qaf l2),l5]
 ·simp only [hl,if_false];have hnn:atF f n.ino=some n:=hn.resolve_right (fun e=>by rw [e] at hl;exact hl (by decide));obtain ⟨n1,n2,n3⟩:=Qbh hp hnn;have hthere:∃ m,atF (leaveF f dir s) n.ino=some m:=by
   rw [l5]
   split
   ·exact ⟨_,rfl⟩
   ·exact ⟨_,hnn⟩
  obtain ⟨m,hm⟩:=hthere;have hN:nodP (Qhr n):=⟨n1.1,by show 0≤n.links-1;omega,by have:=n1.2.2.1;show n.links-1≤64;omega,n1.2.2.2⟩
  obtain ⟨p1,p2,p3,p4⟩:=Qkh (n:=Qhr n) l2 hm rfl hN;have okn:=okf.2.2 n (Qdk hnn);obtain ⟨hf,hf2⟩:=okf.1;have h256:(leaveF f dir s).l.length≤256:=l2.1;refine ⟨Qp5 l1 ⟨okn.1,okn.2.1,⟨by show _≤n.links-1;omega,by have:=n1.2.2.1;show n.links-1≤_;omega⟩,okn.2.2.2⟩ (by show n.ino<_;omega) (by omega),p1,by rw [p2,l3];exact W0m _,by rw [p3,l4],fun j=>?_⟩;rw [p4,l5]
end Go.Proofs.YtahlldgocpabjaaGreat
