import Derived.Test.YtahlldgocpabjaaGreatAl
import Derived.Test.YtahlldgocpabjaaGreatMrgV
import Derived.Test.YtahlldgocpabjaaGreatMrgR
import Derived.Test.YtahlldgocpabjaaGreatMrgS
import Derived.Test.YtahlldgocpabjaaGreatMrgG
set_option maxRecDepth 100000
set_option maxHeartbeats 8000000
set_option linter.unusedVariables false
set_option linter.unusedSimpArgs false
namespace Go.Proofs.YtahlldgocpabjaaGreat
open Go Go.RowKit Copyhold Go.Proofs.Tryz
theorem Qxf {f:Fsy} {c:Cal} (hk:c.kind=1):doF f c=(f,⟨Qa4 f c.ino c.name,(lookN f c.ino c.name).ino,0,0,[],[]⟩):=by
 have hd:Qb5 f c=(f,⟨Qa4 f c.ino c.name,(lookN f c.ino c.name).ino,0,0,[],[]⟩):=by rw [Qz9 hk];rfl
 by_cases he:Qa4 f c.ino c.name=0
 ·exact Qef hd he
 ·rw [Qk4 hd he,Qlw he];rfl
theorem Qv7 {f:Fsy} {c:Cal} (hk:c.kind=2) (h:Qav f c.ino=false):doF f c=(f,errR 6):=dono (by rw [Qu8 hk];unfold Qj9;rw [h];rfl) (by decide)
theorem Qqy {f:Fsy} {c:Cal} (hk:c.kind=2) (h:Qav f c.ino=true):doF f c=(f,⟨0,(Qaa f c.ino).kind,(Qaa f c.ino).links,Qh2 (Qaa f c.ino),[],[]⟩):=by
 have hd:Qb5 f c=(f,⟨0,(Qaa f c.ino).kind,(Qaa f c.ino).links,Qh2 (Qaa f c.ino),[],[]⟩):=by rw [Qu8 hk];unfold Qj9;rw [W1y h]
 exact Qef hd rfl
theorem Zn5 {f:Fsy} {c:Cal} (hk:c.kind=11):doF f c=(Qcz f c.ino c.name c.to,errR (Qa5 f c.ino c.name c.to)):=by
 have hd:Qb5 f c=(Qcz f c.ino c.name c.to,errR (Qa5 f c.ino c.name c.to)):=by rw [Qsm hk];rfl
 by_cases he:Qa5 f c.ino c.name c.to=0
 ·exact Qef hd he
 ·rw [Qk4 hd he,show Qcz f c.ino c.name c.to=f from W1x he];rfl
theorem Zn1 {f:Fsy} {dir:Int} {s:Txt} {to:Int} {t:Txt} (h:¬ Qbc f dir s to t=0):movF f dir s to t=f:=by
 unfold Qbc at h;unfold movF
 split
 ·rename_i h1;rw [W1y h1] at h
  split
  ·rfl
  ·first | rfl | rw [W1x h]
 ·rfl
theorem mv_do {f:Fsy} {c:Cal} (hk:c.kind=12):doF f c=(movF f c.ino c.name c.to c.name2,errR (Qbc f c.ino c.name c.to c.name2)):=by
 have hd:Qb5 f c=(movF f c.ino c.name c.to c.name2,errR (Qbc f c.ino c.name c.to c.name2)):=by rw [Qsl hk];rfl
 by_cases he:Qbc f c.ino c.name c.to c.name2=0
 ·exact Qef hd he
 ·rw [Qk4 hd he,Zn1 he];rfl
theorem Qww {f:Fsy} {c:Cal} (hk:c.kind=14):doF f c=(f,⟨dirE f c.ino,0,0,0,[],(dirN f c.ino).l.map Ent.name⟩):=by
 have hd:Qb5 f c=(f,⟨dirE f c.ino,0,0,0,[],(dirN f c.ino).l.map Ent.name⟩):=by rw [Qsk hk];rfl
 by_cases he:dirE f c.ino=0
 ·exact Qef hd he
 ·rw [Qk4 hd he,show dirN f c.ino=nod0 from W1x he];rfl
theorem sfs_do {f:Fsy} {c:Cal} (hk:c.kind=15):doF f c=(f,⟨0,(f.l.length:Int),(txtS f.l:Int),0,[],[]⟩):=by
 have hd:Qb5 f c=(f,⟨0,(f.l.length:Int),(txtS f.l:Int),0,[],[]⟩):=by rw [Qsj hk];rfl
 exact Qef hd rfl
theorem Qxa {f:Fsy} {c:Cal} (hk:c.kind<1∨c.kind>15):doF f c=(f,errR 1):=dono (by rw [Qsi hk];rfl) (by decide)
theorem Zer (f:Fsy) (c:Cal) (okf:OkF f) (okc:OkCal c) (hp:Qan f) (hx:f.next<9223372036854775807) (T:TreeP f) (hf:midF f) (htx:c.text.length≤500000) (hk:c.kind<1∨c.kind>15):Qai prog 40 [.agg (fsyA f),.agg (calA c)] (.tup [.agg (fsyA (doF f c).1),.agg (repA (doF f c).2)]):=by
 have hl:=hp.1;have hr:=Qaf hp;have hcn:=okc.name;have hcn2:=okc.name2;have hct:=okc.text;exact Qae func40 (
 .new fun b1=>.new fun b2=>.new fun b3=>.new fun b4=>.u 2 [b2]<|
 .r 2<|.is 20 (show (c.kind==1)=false from (by simp;omega))<|.r 2<|.is 36 (show (c.kind==2)=false from (by simp;omega))<|.r 2<|.is 57 (show (c.kind==3)=false from (by simp;omega))<|.r 2<|.is 57 (show (c.kind==4)=false from (by simp;omega))<|.r 2<|.is 57 (show (c.kind==5)=false from (by simp;omega))<|.r 2<|.is 57 (show (c.kind==13)=false from (by simp;omega))<|.r 2<|.is 67 (show (c.kind==6)=false from (by simp;omega))<|.r 2<|.is 67 (show (c.kind==7)=false from (by simp;omega))<|.r 2<|.is 67 (show (c.kind==8)=false from (by simp;omega))<|.r 2<|.is 76 (show (c.kind==9)=false from (by simp;omega))<|.r 2<|.is 76 (show (c.kind==10)=false from (by simp;omega))<|.r 2<|.is 84 (show (c.kind==11)=false from (by simp;omega))<|.r 2<|.is 100 (show (c.kind==12)=false from (by simp;omega))<|.r 2<|.is 118 (show (c.kind==14)=false from (by simp;omega))<|.r 2<|.is 133 (show (c.kind==15)=false from (by simp;omega))<|.ord [0,1,2,3]<|.u 1 [b1]<|
 .call (Qbs 1)<|
 .u 2 [b3,b4]<|
 .f (.tup [.agg (fsyA (doF f c).1),.agg (repA (doF f c).2)]) [b3,b4] (.tup [.agg (fsyA f),.agg [aI ((errR 1).e),aI ((errR 1).a),aI ((errR 1).b),aI ((errR 1).n),aS ((errR 1).text),.sl 1 false ((errR 1).names.map txA)]]) (by
  rw [Qxa hk];exact sR))
theorem Zeq (f:Fsy) (c:Cal) (okf:OkF f) (okc:OkCal c) (hp:Qan f) (hx:f.next<9223372036854775807) (T:TreeP f) (hf:midF f) (htx:c.text.length≤500000) (hk:c.kind=1):Qai prog 40 [.agg (fsyA f),.agg (calA c)] (.tup [.agg (fsyA (doF f c).1),.agg (repA (doF f c).2)]):=by
 have hl:=hp.1;have hr:=Qaf hp;have hcn:=okc.name;have hcn2:=okc.name2;have hct:=okc.text;exact Qae func40 (
 .new fun b1=>.new fun b2=>.new fun b3=>.new fun b4=>.u 2 [b2]<|
 .r 2<|.is 20 (show (c.kind==1)=true from (by rw [hk];rfl))<|.u 5 [b1,b2,b2]<|
 .call (Qeo f c.ino c.name hp hcn)<|
 .r 3<|.new fun b5=>.u 2 [b5]<|
 let J1:Jn (Unit):=⟨fun j1=>⟨[(2,.ptr 2 b1 0),(4,.ptr 4 b3 0),(5,.ptr 5 b4 0)],[(2,.box b1 28 (fsyA f)),(4,.box b3 28 (fsyA f)),(5,.box b4 45 [aI (Qa4 f c.ino c.name),aI ((lookN f c.ino c.name).ino),aI 0,aI 0,aS ([]),aN])]⟩,fun _=>True⟩
 .cut J1 (.pick [0,1,2]<|.u 3 [b1]<|
 .fork<|.alt (.u 1 [b5]<|
 .pick [4,5,6]<|.u 3 [b3,b4]<|
 .jo J1 () [] [] sr3 bb3)
 <| .u 1 [b3]<|
 .pick [3,4,6]<|.u 3 [b5,b4]<|
 .jo J1 () [] [] sr3 bb3)
 <| fun _ _=>.f (.tup [.agg (fsyA (doF f c).1),.agg (repA (doF f c).2)]) [b3,b4] (.tup [.agg (fsyA f),.agg [aI (Qa4 f c.ino c.name),aI ((lookN f c.ino c.name).ino),aI 0,aI 0,aS ([]),aN]]) (by
  rw [Qxf hk];exact W2s ⟨sR,Qby _ _ _ _ _,trivial⟩))
theorem Zep (f:Fsy) (c:Cal) (okf:OkF f) (okc:OkCal c) (hp:Qan f) (hx:f.next<9223372036854775807) (T:TreeP f) (hf:midF f) (htx:c.text.length≤500000) (hk:c.kind=2):Qai prog 40 [.agg (fsyA f),.agg (calA c)] (.tup [.agg (fsyA (doF f c).1),.agg (repA (doF f c).2)]):=by
 have hl:=hp.1;have hr:=Qaf hp;have hcn:=okc.name;have hcn2:=okc.name2;have hct:=okc.text;exact Qae func40 (
 .new fun b1=>.new fun b2=>.new fun b3=>.new fun b4=>.u 2 [b2]<|
 .r 2<|.is 20 (show (c.kind==1)=false from (by rw [hk];rfl))<|.r 2<|.is 36 (show (c.kind==2)=true from (by rw [hk];rfl))<|.u 3 [b1,b2]<|
 .call (Qa2 f c.ino (by omega))<|
 .r 3<|.new fun b5=>.u 2 [b5]<|
 .r 2<|.br 46 (!(Qav f c.ino)) (fun q1=>have q1:=notT q1;have p1:=booF q1;.ord [0,1,2,3]<|.u 1 [b1]<|
 .call (Qbs 6)<|
 .u 2 [b3,b4]<|
 .f (.tup [.agg (fsyA (doF f c).1),.agg (repA (doF f c).2)]) [b3,b4] (.tup [.agg (fsyA f),.agg [aI ((errR 6).e),aI ((errR 6).a),aI ((errR 6).b),aI ((errR 6).n),aS ((errR 6).text),.sl 1 false ((errR 6).names.map txA)]]) (by
  rw [Qv7 hk q1];exact sR))
 <| fun q1=>have q1:=notF q1;have p1:=booT q1;let J1:Jn (Unit):=⟨fun j1=>⟨[(2,.ptr 2 b1 0),(4,.ptr 4 b3 0),(5,.ptr 5 b4 0)],[(2,.box b1 28 (fsyA f)),(4,.box b3 28 (fsyA f)),(5,.box b4 45 [aI 0,aI ((Qaa f c.ino).kind),aI ((Qaa f c.ino).links),aI (Qh2 (Qaa f c.ino)),aS ([]),aN])]⟩,fun _=>True⟩
 .cut J1 (.pick [0,1,3,5]<|.u 4 [b1,b5]<|
 .fork<|.alt (.u 1 [b5]<|
 .fork<|.alt (.u 1 [b5]<|
 .pick [6,7,8,9]<|.call (Qgj (Qaa f c.ino))<|
 .u 3 [b3,b4]<|
 .jo J1 () [] [] sr3 bb3)
 <| .call (Qgj (Qaa f c.ino))<|
 .fork<|.alt (.u 1 [b5]<|
 .pick [7,8,9]<|.u 3 [b3,b4]<|
 .jo J1 () [] [] sr3 bb3)
 <| .u 1 [b3]<|
 .pick [4,7,9]<|.u 3 [b5,b4]<|
 .jo J1 () [] [] sr3 bb3)
 <| .alt (.u 1 [b5]<|
 .fork<|.alt (.u 1 [b5]<|
 .pick [6,7,8,9]<|.call (Qgj (Qaa f c.ino))<|
 .u 3 [b3,b4]<|
 .jo J1 () [] [] sr3 bb3)
 <| .call (Qgj (Qaa f c.ino))<|
 .fork<|.alt (.u 1 [b5]<|
 .pick [7,8,9]<|.u 3 [b3,b4]<|
 .jo J1 () [] [] sr3 bb3)
 <| .u 1 [b3]<|
 .pick [2,7,9]<|.u 3 [b5,b4]<|
 .jo J1 () [] [] sr3 bb3)
 <| .call (Qgj (Qaa f c.ino))<|
 .fork<|.alt (.u 1 [b5]<|
 .fork<|.alt (.u 1 [b5]<|
 .pick [7,8,9]<|.u 3 [b3,b4]<|
 .jo J1 () [] [] sr3 bb3)
 <| .u 1 [b3]<|
 .pick [4,7,9]<|.u 3 [b5,b4]<|
 .jo J1 () [] [] sr3 bb3)
 <| .alt (.u 1 [b5]<|
 .fork<|.alt (.u 1 [b5]<|
 .pick [7,8,9]<|.u 3 [b3,b4]<|
 .jo J1 () [] [] sr3 bb3)
 <| .u 1 [b3]<|
 .pick [2,7,9]<|.u 3 [b5,b4]<|
 .jo J1 () [] [] sr3 bb3)
 <| .u 1 [b3]<|
 .pick [2,4,7,9]<|.u 4 [b5,b5,b4]<|
 .jo J1 () [] [] sr3 bb3)
 <| fun _ _=>.f (.tup [.agg (fsyA (doF f c).1),.agg (repA (doF f c).2)]) [b3,b4] (.tup [.agg (fsyA f),.agg [aI 0,aI ((Qaa f c.ino).kind),aI ((Qaa f c.ino).links),aI (Qh2 (Qaa f c.ino)),aS ([]),aN]]) (by
  rw [Qqy hk q1];exact W2s ⟨sR,Qby _ _ _ _ _,trivial⟩))
theorem Zeo (f:Fsy) (c:Cal) (okf:OkF f) (okc:OkCal c) (hp:Qan f) (hx:f.next<9223372036854775807) (T:TreeP f) (hf:midF f) (htx:c.text.length≤500000) (hk:c.kind=3):Qai prog 40 [.agg (fsyA f),.agg (calA c)] (.tup [.agg (fsyA (doF f c).1),.agg (repA (doF f c).2)]):=by
 have hl:=hp.1;have hr:=Qaf hp;have hcn:=okc.name;have hcn2:=okc.name2;have hct:=okc.text;exact Qae func40 (let R:AV:=.tup [.agg (fsyA (doF f c).1),.agg (repA (doF f c).2)];
 .new fun b1=>.new fun b2=>.new fun b3=>.new fun b4=>.u 2 [b2]<|
 .r 2<|.is 20 (show (c.kind==1)=false from (by rw [hk];rfl))<|.r 2<|.is 36 (show (c.kind==2)=false from (by rw [hk];rfl))<|.r 2<|.is 57 (show (c.kind==3)=true from (by rw [hk];rfl))<|.u 2 [b1,b2]<|
 .call (Qtw f c okf okc hp htx hk)<|
 .u 4 [b3,b4]<|
 .fi R [b3,b4])
theorem Zen (f:Fsy) (c:Cal) (okf:OkF f) (okc:OkCal c) (hp:Qan f) (hx:f.next<9223372036854775807) (T:TreeP f) (hf:midF f) (htx:c.text.length≤500000) (hk:c.kind=4):Qai prog 40 [.agg (fsyA f),.agg (calA c)] (.tup [.agg (fsyA (doF f c).1),.agg (repA (doF f c).2)]):=by
 have hl:=hp.1;have hr:=Qaf hp;have hcn:=okc.name;have hcn2:=okc.name2;have hct:=okc.text;exact Qae func40 (let R:AV:=.tup [.agg (fsyA (doF f c).1),.agg (repA (doF f c).2)];
 .new fun b1=>.new fun b2=>.new fun b3=>.new fun b4=>.u 2 [b2]<|
 .r 2<|.is 20 (show (c.kind==1)=false from (by rw [hk];rfl))<|.r 2<|.is 36 (show (c.kind==2)=false from (by rw [hk];rfl))<|.r 2<|.is 57 (show (c.kind==3)=false from (by rw [hk];rfl))<|.r 2<|.is 57 (show (c.kind==4)=true from (by rw [hk];rfl))<|.u 2 [b1,b2]<|
 .call (Qtv f c okf okc hp htx hk)<|
 .u 4 [b3,b4]<|
 .fi R [b3,b4])
theorem Zem (f:Fsy) (c:Cal) (okf:OkF f) (okc:OkCal c) (hp:Qan f) (hx:f.next<9223372036854775807) (T:TreeP f) (hf:midF f) (htx:c.text.length≤500000) (hk:c.kind=5):Qai prog 40 [.agg (fsyA f),.agg (calA c)] (.tup [.agg (fsyA (doF f c).1),.agg (repA (doF f c).2)]):=by
 have hl:=hp.1;have hr:=Qaf hp;have hcn:=okc.name;have hcn2:=okc.name2;have hct:=okc.text;exact Qae func40 (let R:AV:=.tup [.agg (fsyA (doF f c).1),.agg (repA (doF f c).2)];
 .new fun b1=>.new fun b2=>.new fun b3=>.new fun b4=>.u 2 [b2]<|
 .r 2<|.is 20 (show (c.kind==1)=false from (by rw [hk];rfl))<|.r 2<|.is 36 (show (c.kind==2)=false from (by rw [hk];rfl))<|.r 2<|.is 57 (show (c.kind==3)=false from (by rw [hk];rfl))<|.r 2<|.is 57 (show (c.kind==4)=false from (by rw [hk];rfl))<|.r 2<|.is 57 (show (c.kind==5)=true from (by rw [hk];rfl))<|.u 2 [b1,b2]<|
 .call (Qtu f c okf okc hp htx hk)<|
 .u 4 [b3,b4]<|
 .fi R [b3,b4])
theorem Zel (f:Fsy) (c:Cal) (okf:OkF f) (okc:OkCal c) (hp:Qan f) (hx:f.next<9223372036854775807) (T:TreeP f) (hf:midF f) (htx:c.text.length≤500000) (hk:c.kind=6):Qai prog 40 [.agg (fsyA f),.agg (calA c)] (.tup [.agg (fsyA (doF f c).1),.agg (repA (doF f c).2)]):=by
 have hl:=hp.1;have hr:=Qaf hp;have hcn:=okc.name;have hcn2:=okc.name2;have hct:=okc.text;exact Qae func40 (let R:AV:=.tup [.agg (fsyA (doF f c).1),.agg (repA (doF f c).2)];
 .new fun b1=>.new fun b2=>.new fun b3=>.new fun b4=>.u 2 [b2]<|
 .r 2<|.is 20 (show (c.kind==1)=false from (by rw [hk];rfl))<|.r 2<|.is 36 (show (c.kind==2)=false from (by rw [hk];rfl))<|.r 2<|.is 57 (show (c.kind==3)=false from (by rw [hk];rfl))<|.r 2<|.is 57 (show (c.kind==4)=false from (by rw [hk];rfl))<|.r 2<|.is 57 (show (c.kind==5)=false from (by rw [hk];rfl))<|.r 2<|.is 57 (show (c.kind==13)=false from (by rw [hk];rfl))<|.r 2<|.is 67 (show (c.kind==6)=true from (by rw [hk];rfl))<|.u 2 [b1,b2]<|
 .call (Qwo f c okf okc hp hx hk)<|
 .u 4 [b3,b4]<|
 .fi R [b3,b4])
theorem Zek (f:Fsy) (c:Cal) (okf:OkF f) (okc:OkCal c) (hp:Qan f) (hx:f.next<9223372036854775807) (T:TreeP f) (hf:midF f) (htx:c.text.length≤500000) (hk:c.kind=7):Qai prog 40 [.agg (fsyA f),.agg (calA c)] (.tup [.agg (fsyA (doF f c).1),.agg (repA (doF f c).2)]):=by
 have hl:=hp.1;have hr:=Qaf hp;have hcn:=okc.name;have hcn2:=okc.name2;have hct:=okc.text;exact Qae func40 (let R:AV:=.tup [.agg (fsyA (doF f c).1),.agg (repA (doF f c).2)];
 .new fun b1=>.new fun b2=>.new fun b3=>.new fun b4=>.u 2 [b2]<|
 .r 2<|.is 20 (show (c.kind==1)=false from (by rw [hk];rfl))<|.r 2<|.is 36 (show (c.kind==2)=false from (by rw [hk];rfl))<|.r 2<|.is 57 (show (c.kind==3)=false from (by rw [hk];rfl))<|.r 2<|.is 57 (show (c.kind==4)=false from (by rw [hk];rfl))<|.r 2<|.is 57 (show (c.kind==5)=false from (by rw [hk];rfl))<|.r 2<|.is 57 (show (c.kind==13)=false from (by rw [hk];rfl))<|.r 2<|.is 67 (show (c.kind==6)=false from (by rw [hk];rfl))<|.r 2<|.is 67 (show (c.kind==7)=true from (by rw [hk];rfl))<|.u 2 [b1,b2]<|
 .call (Qwn f c okf okc hp hx hk)<|
 .u 4 [b3,b4]<|
 .fi R [b3,b4])
theorem Zej (f:Fsy) (c:Cal) (okf:OkF f) (okc:OkCal c) (hp:Qan f) (hx:f.next<9223372036854775807) (T:TreeP f) (hf:midF f) (htx:c.text.length≤500000) (hk:c.kind=8):Qai prog 40 [.agg (fsyA f),.agg (calA c)] (.tup [.agg (fsyA (doF f c).1),.agg (repA (doF f c).2)]):=by
 have hl:=hp.1;have hr:=Qaf hp;have hcn:=okc.name;have hcn2:=okc.name2;have hct:=okc.text;exact Qae func40 (let R:AV:=.tup [.agg (fsyA (doF f c).1),.agg (repA (doF f c).2)];
 .new fun b1=>.new fun b2=>.new fun b3=>.new fun b4=>.u 2 [b2]<|
 .r 2<|.is 20 (show (c.kind==1)=false from (by rw [hk];rfl))<|.r 2<|.is 36 (show (c.kind==2)=false from (by rw [hk];rfl))<|.r 2<|.is 57 (show (c.kind==3)=false from (by rw [hk];rfl))<|.r 2<|.is 57 (show (c.kind==4)=false from (by rw [hk];rfl))<|.r 2<|.is 57 (show (c.kind==5)=false from (by rw [hk];rfl))<|.r 2<|.is 57 (show (c.kind==13)=false from (by rw [hk];rfl))<|.r 2<|.is 67 (show (c.kind==6)=false from (by rw [hk];rfl))<|.r 2<|.is 67 (show (c.kind==7)=false from (by rw [hk];rfl))<|.r 2<|.is 67 (show (c.kind==8)=true from (by rw [hk];rfl))<|.u 2 [b1,b2]<|
 .call (Qwm f c okf okc hp hx hk)<|
 .u 4 [b3,b4]<|
 .fi R [b3,b4])
theorem Zei (f:Fsy) (c:Cal) (okf:OkF f) (okc:OkCal c) (hp:Qan f) (hx:f.next<9223372036854775807) (T:TreeP f) (hf:midF f) (htx:c.text.length≤500000) (hk:c.kind=9):Qai prog 40 [.agg (fsyA f),.agg (calA c)] (.tup [.agg (fsyA (doF f c).1),.agg (repA (doF f c).2)]):=by
 have hl:=hp.1;have hr:=Qaf hp;have hcn:=okc.name;have hcn2:=okc.name2;have hct:=okc.text;exact Qae func40 (let R:AV:=.tup [.agg (fsyA (doF f c).1),.agg (repA (doF f c).2)];
 .new fun b1=>.new fun b2=>.new fun b3=>.new fun b4=>.u 2 [b2]<|
 .r 2<|.is 20 (show (c.kind==1)=false from (by rw [hk];rfl))<|.r 2<|.is 36 (show (c.kind==2)=false from (by rw [hk];rfl))<|.r 2<|.is 57 (show (c.kind==3)=false from (by rw [hk];rfl))<|.r 2<|.is 57 (show (c.kind==4)=false from (by rw [hk];rfl))<|.r 2<|.is 57 (show (c.kind==5)=false from (by rw [hk];rfl))<|.r 2<|.is 57 (show (c.kind==13)=false from (by rw [hk];rfl))<|.r 2<|.is 67 (show (c.kind==6)=false from (by rw [hk];rfl))<|.r 2<|.is 67 (show (c.kind==7)=false from (by rw [hk];rfl))<|.r 2<|.is 67 (show (c.kind==8)=false from (by rw [hk];rfl))<|.r 2<|.is 76 (show (c.kind==9)=true from (by rw [hk];rfl))<|.u 2 [b1,b2]<|
 .call (Qtx f c okf okc hp hk)<|
 .u 4 [b3,b4]<|
 .fi R [b3,b4])
theorem Zbv (f:Fsy) (c:Cal) (okf:OkF f) (okc:OkCal c) (hp:Qan f) (hx:f.next<9223372036854775807) (T:TreeP f) (hf:midF f) (htx:c.text.length≤500000) (hk:c.kind=10):Qai prog 40 [.agg (fsyA f),.agg (calA c)] (.tup [.agg (fsyA (doF f c).1),.agg (repA (doF f c).2)]):=by
 have hl:=hp.1;have hr:=Qaf hp;have hcn:=okc.name;have hcn2:=okc.name2;have hct:=okc.text;exact Qae func40 (let R:AV:=.tup [.agg (fsyA (doF f c).1),.agg (repA (doF f c).2)];
 .new fun b1=>.new fun b2=>.new fun b3=>.new fun b4=>.u 2 [b2]<|
 .r 2<|.is 20 (show (c.kind==1)=false from (by rw [hk];rfl))<|.r 2<|.is 36 (show (c.kind==2)=false from (by rw [hk];rfl))<|.r 2<|.is 57 (show (c.kind==3)=false from (by rw [hk];rfl))<|.r 2<|.is 57 (show (c.kind==4)=false from (by rw [hk];rfl))<|.r 2<|.is 57 (show (c.kind==5)=false from (by rw [hk];rfl))<|.r 2<|.is 57 (show (c.kind==13)=false from (by rw [hk];rfl))<|.r 2<|.is 67 (show (c.kind==6)=false from (by rw [hk];rfl))<|.r 2<|.is 67 (show (c.kind==7)=false from (by rw [hk];rfl))<|.r 2<|.is 67 (show (c.kind==8)=false from (by rw [hk];rfl))<|.r 2<|.is 76 (show (c.kind==9)=false from (by rw [hk];rfl))<|.r 2<|.is 76 (show (c.kind==10)=true from (by rw [hk];rfl))<|.u 2 [b1,b2]<|
 .call (Qq9 f c okf okc hp hk)<|
 .u 4 [b3,b4]<|
 .fi R [b3,b4])
theorem Zbu (f:Fsy) (c:Cal) (okf:OkF f) (okc:OkCal c) (hp:Qan f) (hx:f.next<9223372036854775807) (T:TreeP f) (hf:midF f) (htx:c.text.length≤500000) (hk:c.kind=11):Qai prog 40 [.agg (fsyA f),.agg (calA c)] (.tup [.agg (fsyA (doF f c).1),.agg (repA (doF f c).2)]):=by
 have hl:=hp.1;have hr:=Qaf hp;have hcn:=okc.name;have hcn2:=okc.name2;have hct:=okc.text;exact Qae func40 (
 .new fun b1=>.new fun b2=>.new fun b3=>.new fun b4=>.u 2 [b2]<|
 .r 2<|.is 20 (show (c.kind==1)=false from (by rw [hk];rfl))<|.r 2<|.is 36 (show (c.kind==2)=false from (by rw [hk];rfl))<|.r 2<|.is 57 (show (c.kind==3)=false from (by rw [hk];rfl))<|.r 2<|.is 57 (show (c.kind==4)=false from (by rw [hk];rfl))<|.r 2<|.is 57 (show (c.kind==5)=false from (by rw [hk];rfl))<|.r 2<|.is 57 (show (c.kind==13)=false from (by rw [hk];rfl))<|.r 2<|.is 67 (show (c.kind==6)=false from (by rw [hk];rfl))<|.r 2<|.is 67 (show (c.kind==7)=false from (by rw [hk];rfl))<|.r 2<|.is 67 (show (c.kind==8)=false from (by rw [hk];rfl))<|.r 2<|.is 76 (show (c.kind==9)=false from (by rw [hk];rfl))<|.r 2<|.is 76 (show (c.kind==10)=false from (by rw [hk];rfl))<|.r 2<|.is 84 (show (c.kind==11)=true from (by rw [hk];rfl))<|.u 7 [b1,b2,b2,b2]<|
 .call (Zbm f c.ino c.name c.to okf hp hcn)<|
 .r 3<|.new fun b5=>.u 2 [b5]<|
 .ord [0,1,2,3,4]<|.u 2 [b5]<|
 .call (Qbs (Qa5 f c.ino c.name c.to))<|
 .u 2 [b3,b4]<|
 .f (.tup [.agg (fsyA (doF f c).1),.agg (repA (doF f c).2)]) [b3,b4] (.tup [.agg [.sl 5 false ((Qcz f c.ino c.name c.to).l.map nodA),aI ((Qcz f c.ino c.name c.to).next)],.agg [aI ((errR (Qa5 f c.ino c.name c.to)).e),aI ((errR (Qa5 f c.ino c.name c.to)).a),aI ((errR (Qa5 f c.ino c.name c.to)).b),aI ((errR (Qa5 f c.ino c.name c.to)).n),aS ((errR (Qa5 f c.ino c.name c.to)).text),.sl 1 false ((errR (Qa5 f c.ino c.name c.to)).names.map txA)]]) (by
  rw [Zn5 hk];exact sR))
theorem Zbt (f:Fsy) (c:Cal) (okf:OkF f) (okc:OkCal c) (hp:Qan f) (hx:f.next<9223372036854775807) (T:TreeP f) (hf:midF f) (htx:c.text.length≤500000) (hk:c.kind=12):Qai prog 40 [.agg (fsyA f),.agg (calA c)] (.tup [.agg (fsyA (doF f c).1),.agg (repA (doF f c).2)]):=by
 have hl:=hp.1;have hr:=Qaf hp;have hcn:=okc.name;have hcn2:=okc.name2;have hct:=okc.text;exact Qae func40 (
 .new fun b1=>.new fun b2=>.new fun b3=>.new fun b4=>.u 2 [b2]<|
 .r 2<|.is 20 (show (c.kind==1)=false from (by rw [hk];rfl))<|.r 2<|.is 36 (show (c.kind==2)=false from (by rw [hk];rfl))<|.r 2<|.is 57 (show (c.kind==3)=false from (by rw [hk];rfl))<|.r 2<|.is 57 (show (c.kind==4)=false from (by rw [hk];rfl))<|.r 2<|.is 57 (show (c.kind==5)=false from (by rw [hk];rfl))<|.r 2<|.is 57 (show (c.kind==13)=false from (by rw [hk];rfl))<|.r 2<|.is 67 (show (c.kind==6)=false from (by rw [hk];rfl))<|.r 2<|.is 67 (show (c.kind==7)=false from (by rw [hk];rfl))<|.r 2<|.is 67 (show (c.kind==8)=false from (by rw [hk];rfl))<|.r 2<|.is 76 (show (c.kind==9)=false from (by rw [hk];rfl))<|.r 2<|.is 76 (show (c.kind==10)=false from (by rw [hk];rfl))<|.r 2<|.is 84 (show (c.kind==11)=false from (by rw [hk];rfl))<|.r 2<|.is 100 (show (c.kind==12)=true from (by rw [hk];rfl))<|.u 9 [b1,b2,b2,b2,b2]<|
 .call (Zbk f c.ino c.name c.to c.name2 okf T hp hf hcn hcn2)<|
 .r 3<|.new fun b5=>.u 2 [b5]<|
 .ord [0,1,2,3,4]<|.u 2 [b5]<|
 .call (Qbs (Qbc f c.ino c.name c.to c.name2))<|
 .u 2 [b3,b4]<|
 .f (.tup [.agg (fsyA (doF f c).1),.agg (repA (doF f c).2)]) [b3,b4] (.tup [.agg [.sl 5 false ((movF f c.ino c.name c.to c.name2).l.map nodA),aI ((movF f c.ino c.name c.to c.name2).next)],.agg [aI ((errR (Qbc f c.ino c.name c.to c.name2)).e),aI ((errR (Qbc f c.ino c.name c.to c.name2)).a),aI ((errR (Qbc f c.ino c.name c.to c.name2)).b),aI ((errR (Qbc f c.ino c.name c.to c.name2)).n),aS ((errR (Qbc f c.ino c.name c.to c.name2)).text),.sl 1 false ((errR (Qbc f c.ino c.name c.to c.name2)).names.map txA)]]) (by
  rw [mv_do hk];exact sR))
theorem Zbs (f:Fsy) (c:Cal) (okf:OkF f) (okc:OkCal c) (hp:Qan f) (hx:f.next<9223372036854775807) (T:TreeP f) (hf:midF f) (htx:c.text.length≤500000) (hk:c.kind=13):Qai prog 40 [.agg (fsyA f),.agg (calA c)] (.tup [.agg (fsyA (doF f c).1),.agg (repA (doF f c).2)]):=by
 have hl:=hp.1;have hr:=Qaf hp;have hcn:=okc.name;have hcn2:=okc.name2;have hct:=okc.text;exact Qae func40 (let R:AV:=.tup [.agg (fsyA (doF f c).1),.agg (repA (doF f c).2)];
 .new fun b1=>.new fun b2=>.new fun b3=>.new fun b4=>.u 2 [b2]<|
 .r 2<|.is 20 (show (c.kind==1)=false from (by rw [hk];rfl))<|.r 2<|.is 36 (show (c.kind==2)=false from (by rw [hk];rfl))<|.r 2<|.is 57 (show (c.kind==3)=false from (by rw [hk];rfl))<|.r 2<|.is 57 (show (c.kind==4)=false from (by rw [hk];rfl))<|.r 2<|.is 57 (show (c.kind==5)=false from (by rw [hk];rfl))<|.r 2<|.is 57 (show (c.kind==13)=true from (by rw [hk];rfl))<|.u 2 [b1,b2]<|
 .call (Qq8 f c okf okc hp htx hk)<|
 .u 4 [b3,b4]<|
 .fi R [b3,b4])
theorem Zbr (f:Fsy) (c:Cal) (okf:OkF f) (okc:OkCal c) (hp:Qan f) (hx:f.next<9223372036854775807) (T:TreeP f) (hf:midF f) (htx:c.text.length≤500000) (hk:c.kind=14):Qai prog 40 [.agg (fsyA f),.agg (calA c)] (.tup [.agg (fsyA (doF f c).1),.agg (repA (doF f c).2)]):=by
 have hl:=hp.1;have hr:=Qaf hp;have hcn:=okc.name;have hcn2:=okc.name2;have hct:=okc.text;exact Qae func40 (
 .new fun b1=>.new fun b2=>.new fun b3=>.new fun b4=>.u 2 [b2]<|
 .r 2<|.is 20 (show (c.kind==1)=false from (by rw [hk];rfl))<|.r 2<|.is 36 (show (c.kind==2)=false from (by rw [hk];rfl))<|.r 2<|.is 57 (show (c.kind==3)=false from (by rw [hk];rfl))<|.r 2<|.is 57 (show (c.kind==4)=false from (by rw [hk];rfl))<|.r 2<|.is 57 (show (c.kind==5)=false from (by rw [hk];rfl))<|.r 2<|.is 57 (show (c.kind==13)=false from (by rw [hk];rfl))<|.r 2<|.is 67 (show (c.kind==6)=false from (by rw [hk];rfl))<|.r 2<|.is 67 (show (c.kind==7)=false from (by rw [hk];rfl))<|.r 2<|.is 67 (show (c.kind==8)=false from (by rw [hk];rfl))<|.r 2<|.is 76 (show (c.kind==9)=false from (by rw [hk];rfl))<|.r 2<|.is 76 (show (c.kind==10)=false from (by rw [hk];rfl))<|.r 2<|.is 84 (show (c.kind==11)=false from (by rw [hk];rfl))<|.r 2<|.is 100 (show (c.kind==12)=false from (by rw [hk];rfl))<|.r 2<|.is 118 (show (c.kind==14)=true from (by rw [hk];rfl))<|.u 3 [b1,b2]<|
 .call (Qh7 f c.ino hp)<|
 .r 3<|.new fun b5=>.u 2 [b5]<|
 .ord [0,1,2,3,4,5,6,7]<|.u 4 [b1,b5]<|
 .call (Qwl (dirN f c.ino).l (by have:=(Qdo hp c.ino).2;omega))<|
 .u 3 [b3,b4]<|
 .f (.tup [.agg (fsyA (doF f c).1),.agg (repA (doF f c).2)]) [b3,b4] (.tup [.agg (fsyA f),.agg [aI (dirE f c.ino),aI 0,aI 0,aI 0,aS ([]),.sl 1 false (((dirN f c.ino).l.map Ent.name).map txA)]]) (by
  rw [Qww hk];exact sR))
theorem Zbq (f:Fsy) (c:Cal) (okf:OkF f) (okc:OkCal c) (hp:Qan f) (hx:f.next<9223372036854775807) (T:TreeP f) (hf:midF f) (htx:c.text.length≤500000) (hk:c.kind=15):Qai prog 40 [.agg (fsyA f),.agg (calA c)] (.tup [.agg (fsyA (doF f c).1),.agg (repA (doF f c).2)]):=by
 have hl:=hp.1;have hr:=Qaf hp;have hcn:=okc.name;have hcn2:=okc.name2;have hct:=okc.text;exact Qae func40 (
 .new fun b1=>.new fun b2=>.new fun b3=>.new fun b4=>.u 2 [b2]<|
 .r 2<|.is 20 (show (c.kind==1)=false from (by rw [hk];rfl))<|.r 2<|.is 36 (show (c.kind==2)=false from (by rw [hk];rfl))<|.r 2<|.is 57 (show (c.kind==3)=false from (by rw [hk];rfl))<|.r 2<|.is 57 (show (c.kind==4)=false from (by rw [hk];rfl))<|.r 2<|.is 57 (show (c.kind==5)=false from (by rw [hk];rfl))<|.r 2<|.is 57 (show (c.kind==13)=false from (by rw [hk];rfl))<|.r 2<|.is 67 (show (c.kind==6)=false from (by rw [hk];rfl))<|.r 2<|.is 67 (show (c.kind==7)=false from (by rw [hk];rfl))<|.r 2<|.is 67 (show (c.kind==8)=false from (by rw [hk];rfl))<|.r 2<|.is 76 (show (c.kind==9)=false from (by rw [hk];rfl))<|.r 2<|.is 76 (show (c.kind==10)=false from (by rw [hk];rfl))<|.r 2<|.is 84 (show (c.kind==11)=false from (by rw [hk];rfl))<|.r 2<|.is 100 (show (c.kind==12)=false from (by rw [hk];rfl))<|.r 2<|.is 118 (show (c.kind==14)=false from (by rw [hk];rfl))<|.r 2<|.is 133 (show (c.kind==15)=true from (by rw [hk];rfl))<|.u 3 [b1]<|
 .lm 137 f.l nodA<|.r 1<|.new fun b5=>.u 1 [b5]<|
 .r 1<|let L1:Lp (Nat):=⟨fun a1=>⟨[(2,.ptr 2 b1 0),(4,.ptr 4 b3 0),(5,.ptr 5 b4 0),(16,.ptr 16 b5 0),(17,aI (a1:Int))],[(2,.box b1 28 (fsyA f)),(4,.box b3 28 [aN,aI 0]),(5,.box b4 45 [aI 0,aI 0,aI 0,aI 0,aS ([]),aN]),(16,.box b5 45 [aI 0,aI (f.l.length:Int),aI (txtS (f.l.take a1):Int),aI 0,aS ([]),aN])]⟩,fun a1=>f.l.length-a1,fun a1=>a1≤f.l.length∧txtS (f.l.take a1)≤4096*a1⟩
 .lp L1 0 ⟨W0j _,W0m _⟩ [(17,aI 0)] [(16,.box b5 45 [aI 0,aI (f.l.length:Int),aI 0,aI 0,aS ([]),aN])] ⟨sR,sR,sR,sR,sO,trivial⟩ ⟨sB,sB,sB,⟨_,rfl,W2q rfl⟩,trivial⟩ fun a1 ha1=>
 (fun (k:Nat) (hH1:k≤f.l.length∧txtS (f.l.take k)≤4096*k)=>.u 4 [b1]<|
 .lm 142 f.l nodA<|.r 1<|.bd 143 ((k:Int)<(f.l.length:Int)) (fun p1=>.ord [0,1,2,3,4,5,6,7,8,9,10,11]<|.u 5 [b5,b1]<|
 .idxM f.l nodA k (m:=(k:Int)) rfl (by omega) fun x1 hx1=>
 have tlx1:=Qmv hp (W0h hx1);.run 6 [rng .i64 ((txtS (f.l.take k):Int)+((x1.text).length:Int)),b5=b5] ⟨Qah,rfl,trivial⟩<|
 .run 3 [rng .i64 ((k:Int)+1)] ⟨Qah,trivial⟩<|
 .bk L1 k (k+1) ⟨by omega,by rw [show txtS (f.l.take (k+1))=txtS (f.l.take k)+x1.text.length from by unfold txtS;rw [Qam hx1];simp];have:=Qmv hp (W0h hx1);omega⟩ (show f.l.length-(k+1)<f.l.length-k from (by omega)) [(17,aI ((k:Int)+1))] [(16,.box b5 45 [aI 0,aI (f.l.length:Int),aI ((txtS (f.l.take k):Int)+((x1.text).length:Int)),aI 0,aS ([]),aN])] ⟨sR,sR,sR,sR,sO,trivial⟩ ⟨sB,sB,sB,⟨_,rfl,W2q (by rw [show txtS (f.l.take (k+1))=txtS (f.l.take k)+x1.text.length from by unfold txtS;rw [Qam hx1];simp];simp)⟩,trivial⟩)
 <| fun p1=>let J1:Jn (Unit):=⟨fun j1=>⟨[(2,.ptr 2 b1 0),(4,.ptr 4 b3 0),(5,.ptr 5 b4 0)],[(2,.box b1 28 (fsyA f)),(4,.box b3 28 (fsyA f)),(5,.box b4 45 [aI 0,aI (f.l.length:Int),aI (txtS (f.l.take k):Int),aI 0,aS ([]),aN])]⟩,fun _=>True⟩
 .cut J1 (.pick [0]<|.u 1 [b1]<|
 .fork<|.alt (.u 1 [b5]<|
 .pick [2,3]<|.u 2 [b3,b4]<|
 .jo J1 () [] [] sr3 bb3)
 <| .u 1 [b3]<|
 .pick [1,3]<|.u 2 [b5,b4]<|
 .jo J1 () [] [] sr3 bb3)
 <| fun _ _=>.f (.tup [.agg (fsyA (doF f c).1),.agg (repA (doF f c).2)]) [b3,b4] (.tup [.agg (fsyA f),.agg [aI 0,aI (f.l.length:Int),aI (txtS (f.l.take k):Int),aI 0,aS ([]),aN]]) (by
  rw [sfs_do hk,show k=f.l.length from by omega,Qat (W0m _)];exact W2s ⟨sR,Qby _ _ _ _ _,trivial⟩)) a1 ha1)
theorem Qi2 (f:Fsy) (c:Cal) (okf:OkF f) (okc:OkCal c) (hp:Qan f) (hx:f.next<9223372036854775807) (T:TreeP f) (hf:midF f) (htx:c.text.length≤500000):Qai prog 40 [.agg (fsyA f),.agg (calA c)] (.tup [.agg (fsyA (doF f c).1),.agg (repA (doF f c).2)]):=by
 rcases (show c.kind=1∨c.kind=2∨c.kind=3∨c.kind=4∨c.kind=5∨c.kind=6∨c.kind=7∨c.kind=8∨c.kind=9∨c.kind=10∨c.kind=11∨c.kind=12∨c.kind=13∨c.kind=14∨c.kind=15∨(c.kind<1∨c.kind>15) from by omega) with h | h | h | h | h | h | h | h | h | h | h | h | h | h | h | h
 ·exact Zeq f c okf okc hp hx T hf htx h
 ·exact Zep f c okf okc hp hx T hf htx h
 ·exact Zeo f c okf okc hp hx T hf htx h
 ·exact Zen f c okf okc hp hx T hf htx h
 ·exact Zem f c okf okc hp hx T hf htx h
 ·exact Zel f c okf okc hp hx T hf htx h
 ·exact Zek f c okf okc hp hx T hf htx h
 ·exact Zej f c okf okc hp hx T hf htx h
 ·exact Zei f c okf okc hp hx T hf htx h
 ·exact Zbv f c okf okc hp hx T hf htx h
 ·exact Zbu f c okf okc hp hx T hf htx h
 ·exact Zbt f c okf okc hp hx T hf htx h
 ·exact Zbs f c okf okc hp hx T hf htx h
 ·exact Zbr f c okf okc hp hx T hf htx h
 ·exact Zbq f c okf okc hp hx T hf htx h
 ·exact Zer f c okf okc hp hx T hf htx h
structure OkC0 (c:Cal):Prop where
 kind:I64 c.kind
 ino:I64 c.ino
 to:I64 c.to
 at_:I64 c.at_
 many:I64 c.many
 name:c.name.length≤140737488351232
 name2:c.name2.length≤140737488351232
 text:c.text.length≤140737488351232
def txC (c:Cal):Nat:=c.name.length+c.name2.length+c.text.length
def smS (l:List Cal) (k:Nat):Nat:=l.length+((l.take k).map txC).sum
def Qfw (l:List Cal):Prop:=smS l l.length≤2000∧l.length≤30
theorem sm_0 (l:List Cal):smS l 0=l.length:=by unfold smS;simp
theorem Zdr {l:List Cal} {k:Nat} {x:Cal} (h:l[k]?=some x):smS l (k+1)=smS l k+txC x:=by
 unfold smS;rw [Qam h];simp;omega
theorem Zm7 (l:List Cal) (k:Nat):smS l k≤smS l l.length:=by
 unfold smS;have:=Qfh txC l k;rw [W13];omega
theorem Qyo {l:List Cal} (h:Qfw l) {c:Cal} (hc:c∈l) (h0:OkC0 c):OkCal c:=by
 have h1:=h.1;have:txC c≤((l.take l.length).map txC).sum:=by rw [W13];exact Qlk hc
 unfold smS at h1;have e:txC c=c.name.length+c.name2.length+c.text.length:=rfl;exact ⟨h0.kind,h0.ino,h0.to,h0.at_,h0.many,by omega,by omega,by omega⟩
theorem Qpw (l:List Cal) (hl:l.length≤8796093022207) (ok:∀ c∈l,OkC0 c):Qai prog 13 [.sl 8 false (l.map calA)] (aB (dP (Qfw l))):=by
 exact Qae func13 (
 .r 1<|.r 2<|.lm 6 l calA<|.r 1<|.r 1<|let L1:Lp (Nat):=⟨fun a1=>⟨[(0,.sl 8 false (l.map calA)),(4,aI (a1:Int)),(3,aI (smS l a1:Int))],[]⟩,fun a1=>l.length-a1,fun a1=>a1≤l.length∧smS l a1≤500000000000000⟩
 .lp L1 0 (show 0≤l.length∧smS l 0≤500000000000000 from (by rw [sm_0];omega)) [(4,aI 0),(3,aI (l.length:Int))] [] ⟨sR,sO,W2p (W1z aI (by rw [sm_0])),trivial⟩ trivial fun a1 ha1=>
 (fun (k:Nat) (hH1:k≤l.length∧smS l k≤500000000000000)=>.r 3<|.lm 9 l calA<|.r 2<|.bd 11 ((k:Int)<(l.length:Int)) (fun p1=>.r 3<|.br 14 (decide ((smS l k:Int)≤2000)) (fun q2=>have p2:=decT q2;.ord [0,1,2,3,4,5,6,7,8,9,10,11,12,13,14,15,16,17,18,19,20,21,22]<|.r 3<|.idxM l calA k (m:=(k:Int)) rfl (by omega) fun x1 hx1=>
 have okx1:=ok x1 (W0h hx1);have b1x1:=okx1.name;have b2x1:=okx1.name2;have b3x1:=okx1.text;.run 6 [rng .i64 ((smS l k:Int)+((x1.name).length:Int))] ⟨Qah,trivial⟩<|
 .idx k (m:=(k:Int)) (xs:=l.map calA) (e:=calA x1) rfl (map_some hx1)<|
 .run 6 [rng .i64 (((smS l k:Int)+((x1.name).length:Int))+((x1.name2).length:Int))] ⟨Qah,trivial⟩<|
 .idx k (m:=(k:Int)) (xs:=l.map calA) (e:=calA x1) rfl (map_some hx1)<|
 .run 5 [rng .i64 ((((smS l k:Int)+((x1.name).length:Int))+((x1.name2).length:Int))+((x1.text).length:Int))] ⟨Qah,trivial⟩<|
 .run 3 [rng .i64 ((k:Int)+1)] ⟨Qah,trivial⟩<|
 .bk L1 k (k+1) (show (k+1)≤l.length∧smS l (k+1)≤500000000000000 from (by refine ⟨by omega,?_⟩;rw [Zdr hx1];unfold txC;omega)) (show l.length-(k+1)<l.length-k from (by omega)) [(4,aI ((k:Int)+1)),(3,aI ((((smS l k:Int)+((x1.name).length:Int))+((x1.name2).length:Int))+((x1.text).length:Int)))] [] ⟨sR,sO,W2p (W1z aI (by rw [Zdr hx1];unfold txC;omega)),trivial⟩ trivial)
 <| fun q2=>have p2:=decF q2;.r 3<|.is 41 q2<|.r 5<|.f (aB (dP (Qfw l))) [] (aB false) (by
  have hm:=Zm7 l k;by_cases hk:k=l.length
  ·rw [← hk] at hm;refine sE ?_;unfold Qfw;rw [← hk];simp;omega
  ·refine sE ?_;unfold Qfw;simp;omega))
 <| fun p1=>.r 3<|.r 3<|.bd 41 ((smS l k:Int)≤2000) (fun p3=>.r 2<|.lm 43 l calA<|.r 3<|.f (aB (dP (Qfw l))) [] (aB (decide ((l.length:Int)≤30))) (by
  have hm:=Zm7 l k;by_cases hk:k=l.length
  ·rw [← hk] at hm;refine sE ?_;unfold Qfw;rw [← hk];simp;omega
  ·refine sE ?_;unfold Qfw;simp;omega))
 <| fun p3=>.r 5<|.f (aB (dP (Qfw l))) [] (aB false) (by
  have hm:=Zm7 l k;by_cases hk:k=l.length
  ·rw [← hk] at hm;refine sE ?_;unfold Qfw;rw [← hk];simp;omega
  ·refine sE ?_;unfold Qfw;simp;omega)) a1 ha1)
def mkN (P:Program) (ops:Array Oper) (s:LS) (i:Nat):Option (TypeId × Int × Int × TypeId × List AV × Nat):=
 match opAt ops s i with
 | some o=>
  match o.op,o.dst with
  | .makeSlice t l c,some d=>
   match s.ev l,s.ev c,Ql2 P t,bget s.bx d with
   | .val (.int .i64 m),.val (.int .i64 m'),some e,none=>
    match Qs6 P e with
    | some z=>some (t,m,m',e,z,d)
    | none=>none
   | _,_,_,_=>none
  | _,_=>none
 | none=>none
theorem Zjb {P:Program} {t e:TypeId} {m:Int} {z:List AV} {d k:Nat} (n bytes:Nat) (hE:Qhj P t e k bytes=true) (hm:m=(n:Int)) (hby:bytes*n≤140737488355328) (h63:n≤140737488355327) :
  ∀ (ops:Array Oper) (i:Nat) (s:LS) (K:FS→Prop) (rest:List Nat),mkN P ops s i=some (t,m,m,e,z,d)→(∀ V:Value,SeqR P ops K rest ((s.put (some d) (.rw d V n)).setB d (.row V e k (List.replicate n z))).fs)→SeqR P ops K (i :: rest) s.fs:=by
 intro ops i s K rest h kk;subst hm;unfold mkN at h
 split at h
 ·rename_i o ho;obtain ⟨hi,hg⟩:=Qb2 ho
  split at h
  ·rename_i t' l c d' hop hd
   split at h
   ·rename_i m1 m2 e' hl hc hel hbn
    split at h
    ·rename_i z' hz;simp only [W0k,W0s] at h;obtain ⟨rfl,rfl,rfl,rfl,rfl,rfl⟩:=h;obtain ⟨zv,hEl⟩:=Qhi hE;obtain ⟨ht,hinf,hzs,hsz⟩:=id hEl;obtain ⟨ti,hti,htz,hsize,hbytes⟩:=Qhg hinf;have hzk:z'.length=k:=by
      obtain ⟨it,z2,g1,g2,hrepz⟩:=Qg3 (D:=fun _=>True) (w:=(default:World)) hz;rw [hti] at g1;obtain rfl:=W0c g1;rw [htz] at g2;obtain rfl:=W0c g2;have:=hrepz.1;omega
     have hkx:∀ l∈List.replicate n z',l.length=k:=fun l hl=>by rw [List.eq_of_mem_replicate hl];exact hzk
     refine ⟨o,hi,.inr ⟨hg,.inr (.inl ⟨by rw [hop];rfl,_,Qkr (e:=e') (k:=k) (xs:=List.replicate n z') hd hkx (fun D w ρ hops=>?_),?_⟩)⟩⟩
     ·have hvl:=Qa8 hops l (by simp [hop,Op.operands]);have hvc:=Qa8 hops c (by simp [hop,Op.operands]);rw [hl] at hvl;rw [hc] at hvc;generalize hlv:ρ l=vl at hvl;generalize hcv:ρ c=vc at hvc;cases hvl;cases hvc;obtain ⟨it,z2,g1,g2,hrepz⟩:=Qg3 (D:=D) (w:=w) hz;rw [hti] at g1;obtain rfl:=W0c g1;rw [htz] at g2;obtain rfl:=W0c g2;have hb48:(ti.bytes:Int)*(n:Int)≤281474976710656:=by
       have h0:((bytes*n:Nat):Int)≤281474976710656:=by omega
       rw [hbytes]
       rwa [Int.natCast_mul] at h0
      have hrun:=run_make (P:=P) w t' e' ti zv ht hti htz .i64 .i64 (n:Int) (n:Int) (by omega) (by omega) hb48 (by omega);rw [hsize,W2m] at hrun;have hcells:madeCells zv.cells (n*k)=(List.replicate n zv.cells.toList).flatten.toArray:=by
       have:=Qmt zv.cells n (by omega);apply Array.ext';rw [← hzs,List.toList_toArray,← this];rfl
      rw [hcells] at hrun;have hrep:=Qgk hrepz n;have hlen:(List.replicate n zv.cells.toList).flatten.length=n*k:=by
       rw [Qgy (k:=k) (fun l hl=>by rw [List.eq_of_mem_replicate hl];simpa using hzs),W00]
      refine ⟨.slice (some ⟨w.heap.size,0,none⟩) n n,w.alloc (.cells (List.replicate n zv.cells.toList).flatten.toArray e'),(List.replicate n zv.cells.toList).flatten,by simp [execOp,hop,hlv,hcv,hrun],World.grownBy_alloc w _ none,?_,fun u hu=>?_,fun j a u ha hu=>?_⟩
      ·refine ⟨by rw [hlen,W00],.inr ⟨w.heap.size,n,_,by rw [W00],W0m _,heap_alloc_new w _,by rw [W00];exact W0m _,by unfold maxLen;omega,by simpa using hlen,?_⟩⟩;rw [W00,List.toList_toArray,W1b (by omega)]
      ·obtain ⟨p,hp⟩:=W2n.1 hu;exact hrep.2.1 p u (by simpa using hp)
      ·exact hrep.2.2 j a u ha (by simpa using hu)
     ·rintro y nb ⟨V',rfl,rfl⟩;refine ⟨fun id y hy=>?_,?_⟩
      ·obtain ⟨rfl,rfl⟩:=by simpa using hy
       exact hbn
      ·have:=kk V';rw [← LS.fs_setB,← LS.fs_put] at this;rw [hd,W00];exact this
    ·cases h
   ·cases h
  ·cases h
 ·cases h
noncomputable def plF:Fsy→List Cal→Fsy
 | f,[]=>f
 | f,c :: r=>plF (doF f c).1 r
noncomputable def plR:Fsy→List Cal→List Rep
 | _,[]=>[]
 | f,c :: r=>(doF f c).2 :: plR (doF f c).1 r
theorem Qw4:∀ (a b:List Cal) (f:Fsy),plF f (a++b)=plF (plF f a) b
 | [],_,_=>rfl
 | c :: r,b,f=>Qw4 r b (doF f c).1
theorem Ze2:∀ (a b:List Cal) (f:Fsy),plR f (a++b)=plR f a++plR (plF f a) b
 | [],_,_=>rfl
 | c :: r,b,f=>by
  show (doF f c).2 :: plR (doF f c).1 (r++b)=(doF f c).2 :: (plR (doF f c).1 r++plR (plF (doF f c).1 r) b);rw [Ze2 r b]
theorem Qhc:∀ (l:List Cal) (f:Fsy),(plR f l).length=l.length
 | [],_=>rfl
 | c :: r,f=>W1z (·+1) (Qhc r (doF f c).1)
theorem Qhd {f:Fsy} {l:List Cal} {k:Nat} {x:Cal} (h:l[k]?=some x):plF f (l.take (k+1))=(doF (plF f (l.take k)) x).1:=by
 rw [Qam h,Qw4];rfl
theorem Qdh {f:Fsy} {l:List Cal} {k:Nat} {x:Cal} (h:l[k]?=some x):plR f (l.take (k+1))=plR f (l.take k)++[(doF (plF f (l.take k)) x).2]:=by
 rw [Qam h,Ze2];rfl
structure KeptN (f g:Fsy) (k:Nat):Prop where
 ok:OkF g
 tree:TreeP g
 next:f.next≤g.next∧g.next≤f.next+k
 few:wF g≤wF f+2*k
theorem Qly {f:Fsy} (okf:OkF f) (T:TreeP f) {l:List Cal} (hl:l.length≤1000) (ok:∀ c∈l,OkCal c) (hx:f.next<1152921504606847976):∀ k,k≤l.length→KeptN f (plF f (l.take k)) k
 | 0,_=>⟨okf,T,⟨W1s _,by show f.next≤_;omega⟩,by show wF f≤_;omega⟩
 | k+1,hk=>by
  have ih:=Qly okf T hl ok hx k (by omega);have h:=W0d (l:=l) (i:=k) (by omega);have K:=Qr0 ih.ok (ok _ (W0h h)) ih.tree (by have:=ih.next.2;omega);rw [Qhd h];have h1:=ih.next;have h2:=K.next;have h3:=ih.few;have h4:=K.few;exact ⟨K.ok,K.tree,by omega,by omega⟩
def zRA (_:Unit):List AV:=[aI 0,aI 0,aI 0,aI 0,aS [],aN]
def prow (R:List Rep) (n:Nat):List (List AV):=R.map repA++List.replicate (n-R.length) (zRA ())
theorem Qrh {R:List Rep} {n:Nat} (h:R.length≤n):(prow R n).length=n:=by
 unfold prow;rw [W0e,W0a,W00];omega
theorem Zjk {R:List Rep} {n k:Nat} (h:R.length=k) (hk:k<n):(prow R n)[k]?=some (zRA ()):=by
 unfold prow;rw [W0n (by rw [W0a];omega),W0a,h,Nat.sub_self,List.getElem?_replicate,W1y (by omega)]
theorem Zjj {R:List Rep} {n k:Nat} {v:Rep} (h:R.length=k) (hk:k<n):(prow R n).set k ((zRA ()).take 0++repA v++(zRA ()).drop (0+(repA v).length))=prow (R++[v]) n:=by
 have e:(zRA ()).take 0++repA v++(zRA ()).drop (0+(repA v).length)=repA v:=rfl;rw [e];unfold prow;rw [List.set_append_right _ _ (by rw [W0a];omega),W0a,h,Nat.sub_self,W0e,h,show n-k=(n-(k+1))+1 from by omega,List.replicate_succ,List.set_cons_zero,W1t];simp
theorem Zez {R:List Rep} {n:Nat} (h:R.length=n):prow R n=R.map repA:=by
 unfold prow;rw [h,Nat.sub_self];simp
theorem Zkr {f:Fsy} {c:Cal} (hp:Qan f):(doF f c).2.names.length≤256:=by
 have key:(Qb5 f c).2.names.length≤256:=by
  rcases (show c.kind=1∨c.kind=2∨c.kind=3∨c.kind=4∨c.kind=5∨c.kind=6∨c.kind=7∨c.kind=8∨c.kind=9∨c.kind=10∨c.kind=11∨c.kind=12∨c.kind=13∨c.kind=14∨c.kind=15∨(c.kind<1∨c.kind>15) from by omega) with h | h | h | h | h | h | h | h | h | h | h | h | h | h | h | h
  ·rw [Qz9 h];exact W0j _
  ·rw [Qu8 h];unfold Qj9;split<;>exact W0j _
  ·rw [Qu7 h];unfold Qkg;split<;>exact W0j _
  ·rw [Qu6 h];unfold Qfs;split<;>exact W0j _
  ·rw [Qu5 h];unfold cutO;split<;>exact W0j _
  ·rw [Qqp h];exact W0j _
  ·rw [Qu4 h];exact W0j _
  ·rw [Qu3 h];unfold symO;split<;>exact W0j _
  ·rw [Qmk h];unfold Qc8;split
   ·split<;>exact W0j _
   ·exact W0j _
  ·rw [Qii h];unfold Qc8;split
   ·split<;>exact W0j _
   ·exact W0j _
  ·rw [Qsm h];exact W0j _
  ·rw [Qsl h];exact W0j _
  ·rw [Qo0 h];exact W0j _
  ·rw [Qsk h];show ((dirN f c.ino).l.map Ent.name).length≤256;rw [W0a];exact (Qdo hp c.ino).2
  ·rw [Qsj h];exact W0j _
  ·rw [Qsi h];exact W0j _
 unfold doF
 split
 ·exact key
 ·exact W0j _
theorem Qrk:∀ {l:List Cal} {f:Fsy},OkF f→TreeP f→(∀ c∈l,OkCal c)→f.next+l.length<4611686018427387904→∀ r∈plR f l,r.names.length≤256
 | [],f,_,_,_,_,r,hr=>(by cases hr)
 | c :: l,f,okf,T,ok,hx,r,hr=>by
  have hl:((c :: l).length:Int)=(l.length:Int)+1:=by rw [W0b];omega
  rcases W0y.1 hr with rfl | hr
  ·exact Zkr T.rows
  ·have K:=Qr0 okf (ok c (by simp)) T (by omega);have:=K.next.2;exact Qrk K.ok K.tree (fun c hc=>ok c (by simp [hc])) (by omega) r hr
theorem rep_eq {x y:Rep} (h1:x.e=y.e) (h2:x.a=y.a) (h3:x.b=y.b) (h4:x.n=y.n) (h5:x.text=y.text) (h6:x.names=y.names):x=y:=by cases x;cases y;simp_all
theorem Zbd (a b:List Txt) (h1:a.length≤1000000) (h2:b.length≤1000000):Qai prog 51 [.sl 1 false (a.map txA),.sl 1 false (b.map txA)] (aB (dP (a=b))):=by
 exact Qae func51 (let R:AV:=aB (dP (a=b));
 .r 1<|.r 2<|.lm 7 a txA<|.r 2<|.lm 9 b txA<|.r 1<|.bn 10 (a.length:Int) (b.length:Int) (fun p1=>.r 1<|.f (aB (dP (a=b))) [] (aB false) (by exact sF (fun h=>by have:=W1z List.length h;omega)))
 <| fun p1=>.r 1<|let L1:Lp (Nat):=⟨fun a1=>⟨[(0,.sl 1 false (a.map txA)),(1,.sl 1 false (b.map txA)),(5,aI (a1:Int))],[]⟩,fun a1=>a.length-a1,fun a1=>a1≤a.length∧a.take a1=b.take a1⟩
 .lp L1 0 ⟨W0j _,rfl⟩ [(5,aI 0)] [] ⟨sR,sR,sO,trivial⟩ trivial fun a1 ha1=>
 (fun (k:Nat) (hH1:k≤a.length∧a.take k=b.take k)=>.r 3<|.lm 13 a txA<|.r 1<|.bd 14 ((k:Int)<(a.length:Int)) (fun p2=>.ord [0,1,2,3,4,5,6,7,8]<|.r 2<|.idxM a txA k (m:=(k:Int)) rfl (by omega) fun x1 hx1=>
 .r 3<|.idxM b txA k (m:=(k:Int)) rfl (by omega) fun x2 hx2=>
 .r 2<|.nbe 25 x1 x2 (fun p3=>.r 1<|.f R [] (aB false) (by
  refine sF (fun h=>?_);rw [h,hx2] at hx1;obtain rfl:=W0c hx1;simp_all [Qau,Qad]))
 <| fun p3=>.run 3 [rng .i64 ((k:Int)+1)] ⟨Qah,trivial⟩<|
 .bk L1 k (k+1) ⟨by omega,by rw [Qam hx1,Qam hx2,hH1.2];first | (congr 2;done) | (congr 2;exact (by simp_all))⟩ (show a.length-(k+1)<a.length-k from (by omega)) [(5,aI ((k:Int)+1))] [] ⟨sR,sR,sO,trivial⟩ trivial)
 <| fun p2=>.r 1<|.f R [] (aB true) (by
  refine sT ?_;have h:=hH1.2;rw [Qat (by omega),Qat (by omega)] at h;exact h)) a1 ha1)
theorem Qty (a b:Rep) (h1:a.names.length≤1000000) (h2:b.names.length≤1000000):Qai prog 21 [.agg (repA a),.agg (repA b)] (aB (dP (a=b))):=by
 exact Qae func21 (let R:AV:=aB (dP (a=b));
 .new fun b1=>.new fun b2=>.r 1<|.u 4 [b1,b2]<|
 .call (Zbd a.names b.names h1 h2)<|
 .r 1<|.r 2<|.bb 12 (dP (a.names=b.names)) (fun p1=>.u 7 [b1,b2]<|
 .be 19 a.e b.e (fun p2=>.u 7 [b1,b2]<|
 .be 26 a.a b.a (fun p3=>.u 7 [b1,b2]<|
 .be 33 a.b b.b (fun p4=>.u 7 [b1,b2]<|
 .be 40 a.n b.n (fun p5=>.u 7 [b1,b2]<|
 .f R [] (aB (a.text==b.text)) (by
  refine sE ?_;constructor
  ·intro h;simp only [W0r,beq_iff_eq,Qau] at *;refine rep_eq ?_ ?_ ?_ ?_ ?_ ?_<;>simp_all
  ·intro h;subst h;simp_all [Qau]))
 <| fun p5=>.r 7<|.f R [] (aB false) (by
  refine sF (fun h=>?_);subst h;simp_all [Qad]))
 <| fun p4=>.r 14<|.f R [] (aB false) (by
  refine sF (fun h=>?_);subst h;simp_all [Qad]))
 <| fun p3=>.r 21<|.f R [] (aB false) (by
  refine sF (fun h=>?_);subst h;simp_all [Qad]))
 <| fun p2=>.r 28<|.f R [] (aB false) (by
  refine sF (fun h=>?_);subst h;simp_all [Qad]))
 <| fun p1=>.r 35<|.f R [] (aB false) (by
  refine sF (fun h=>?_);subst h;simp_all [Qad]))
theorem Zlq (a b:List Rep) (hl1:a.length≤1000000) (hl2:b.length≤1000000) (h1:∀ r∈a,r.names.length≤1000000) (h2:∀ r∈b,r.names.length≤1000000):Qai prog 35 [.sl 6 false (a.map repA),.sl 6 false (b.map repA)] (aB (dP (a=b))):=by
 exact Qae func35 (let R:AV:=aB (dP (a=b));
 .r 1<|.r 2<|.lm 8 a repA<|.r 2<|.lm 10 b repA<|.r 1<|.br 11 ((a.length:Int) != (b.length:Int)) (fun q1=>have p1:=bneT q1;.r 1<|.f (aB (dP (a=b))) [] (aB false) (by exact sF (fun h=>by have:=W1z List.length h;omega)))
 <| fun q1=>have p1:=bneF q1;.r 1<|let L1:Lp (Nat):=⟨fun a1=>⟨[(0,.sl 6 false (a.map repA)),(1,.sl 6 false (b.map repA)),(5,aI (a1:Int))],[]⟩,fun a1=>a.length-a1,fun a1=>a1≤a.length∧a.take a1=b.take a1⟩
 .lp L1 0 ⟨W0j _,rfl⟩ [(5,aI 0)] [] ⟨sR,sR,sO,trivial⟩ trivial fun a1 ha1=>
 (fun (k:Nat) (hH1:k≤a.length∧a.take k=b.take k)=>.r 3<|.lm 14 a repA<|.r 1<|.br 15 (decide ((k:Int)<(a.length:Int))) (fun q2=>have p2:=decT q2;.ord [0,1,2,3,4,5,6,7,8,9]<|.r 2<|.idxM a repA k (m:=(k:Int)) rfl (by omega) fun x1 hx1=>
 have okx1:=h1 x1 (W0h hx1);.r 3<|.idxM b repA k (m:=(k:Int)) rfl (by omega) fun x2 hx2=>
 have okx2:=h2 x2 (W0h hx2);.r 1<|.call (Qty x1 x2 okx1 okx2)<|
 .r 1<|.r 2<|.br 28 (!(dP (x1=x2))) (fun q3=>have q3:=notT q3;have p3:=booF q3;.r 1<|.f R [] (aB false) (by
  refine sF (fun h=>?_);rw [h,hx2] at hx1;obtain rfl:=W0c hx1;simp_all [Qau,Qad]))
 <| fun q3=>have q3:=notF q3;have p3:=booT q3;.run 3 [rng .i64 ((k:Int)+1)] ⟨Qah,trivial⟩<|
 .bk L1 k (k+1) ⟨by omega,by rw [Qam hx1,Qam hx2,hH1.2];first | (congr 2;done) | (congr 2;exact Qau.1 (by assumption))⟩ (show a.length-(k+1)<a.length-k from (by omega)) [(5,aI ((k:Int)+1))] [] ⟨sR,sR,sO,trivial⟩ trivial)
 <| fun q2=>have p2:=decF q2;.r 1<|.f R [] (aB true) (by
  refine sT ?_;have h:=hH1.2;rw [Qat (by omega),Qat (by omega)] at h;exact h)) a1 ha1)
end Go.Proofs.YtahlldgocpabjaaGreat
