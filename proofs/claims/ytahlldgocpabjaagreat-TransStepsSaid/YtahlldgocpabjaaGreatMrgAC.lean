import Derived.Test.YtahlldgocpabjaaGreatRfH13
import Derived.Test.YtahlldgocpabjaaGreatMrgW
import Derived.Test.YtahlldgocpabjaaGreatMrgX
set_option maxRecDepth 100000
set_option maxHeartbeats 8000000
set_option linter.unusedVariables false
set_option linter.unusedSimpArgs false
namespace Go.Proofs.YtahlldgocpabjaaGreat
open Go Go.RowKit Copyhold Go.Proofs.Tryz
theorem Zlj {f:Fsy} {c:Cal} (hk:c.kind=1):doF f c=(f,⟨Qa3 f c.ino c.name,(lookN f c.ino c.name).ino,0,0,[],[]⟩):=by
 have hd:Qbu f c=(f,⟨Qa3 f c.ino c.name,(lookN f c.ino c.name).ino,0,0,[],[]⟩):=by rw [Qxe hk];rfl
 by_cases he:Qa3 f c.ino c.name=0
 ·exact Qex hd he
 ·rw [Qn1 hd he,Qki he];rfl
theorem Zki {f:Fsy} {c:Cal} (hk:c.kind=2) (h:Qau f c.ino=false):doF f c=(f,errR 6):=dono (by rw [Qsw hk];unfold Qiw;rw [h];rfl) (by decide)
theorem Zfr {f:Fsy} {c:Cal} (hk:c.kind=2) (h:Qau f c.ino=true):doF f c=(f,⟨0,(Qaa f c.ino).kind,(Qaa f c.ino).links,Qgl (Qaa f c.ino),[],[]⟩):=by
 have hd:Qbu f c=(f,⟨0,(Qaa f c.ino).kind,(Qaa f c.ino).links,Qgl (Qaa f c.ino),[],[]⟩):=by rw [Qsw hk];unfold Qiw;rw [if_pos h]
 exact Qex hd rfl
theorem lk_do {f:Fsy} {c:Cal} (hk:c.kind=11):doF f c=(Qc4 f c.ino c.name c.to,errR (Qa6 f c.ino c.name c.to)):=by
 have hd:Qbu f c=(Qc4 f c.ino c.name c.to,errR (Qa6 f c.ino c.name c.to)):=by rw [Qqu hk];rfl
 by_cases he:Qa6 f c.ino c.name c.to=0
 ·exact Qex hd he
 ·rw [Qn1 hd he,show Qc4 f c.ino c.name c.to=f from if_neg he];rfl
theorem Zli {f:Fsy} {dir:Int} {s:Txt} {to:Int} {t:Txt} (h:¬ Qa8 f dir s to t=0):movF f dir s to t=f:=by
 unfold Qa8 at h;unfold movF
 split
 ·rename_i h1;rw [if_pos h1] at h
  split
  ·rfl
  ·first | rfl | rw [if_neg h]
 ·rfl
theorem mv_do {f:Fsy} {c:Cal} (hk:c.kind=12):doF f c=(movF f c.ino c.name c.to c.name2,errR (Qa8 f c.ino c.name c.to c.name2)):=by
 have hd:Qbu f c=(movF f c.ino c.name c.to c.name2,errR (Qa8 f c.ino c.name c.to c.name2)):=by rw [Qqt hk];rfl
 by_cases he:Qa8 f c.ino c.name c.to c.name2=0
 ·exact Qex hd he
 ·rw [Qn1 hd he,Zli he];rfl
theorem Zk4 {f:Fsy} {c:Cal} (hk:c.kind=14):doF f c=(f,⟨dirE f c.ino,0,0,0,[],(dirN f c.ino).l.map Ent.name⟩):=by
 have hd:Qbu f c=(f,⟨dirE f c.ino,0,0,0,[],(dirN f c.ino).l.map Ent.name⟩):=by rw [Qqs hk];rfl
 by_cases he:dirE f c.ino=0
 ·exact Qex hd he
 ·rw [Qn1 hd he,show dirN f c.ino=nod0 from if_neg he];rfl
theorem sfs_do {f:Fsy} {c:Cal} (hk:c.kind=15):doF f c=(f,⟨0,(f.l.length:Int),(txtS f.l:Int),0,[],[]⟩):=by
 have hd:Qbu f c=(f,⟨0,(f.l.length:Int),(txtS f.l:Int),0,[],[]⟩):=by rw [Qqr hk];rfl
 exact Qex hd rfl
theorem Zlf {f:Fsy} {c:Cal} (hk:c.kind<1∨c.kind>15):doF f c=(f,errR 1):=dono (by rw [Qqq hk];rfl) (by decide)
theorem Zbl (f:Fsy) (c:Cal) (okf:OkF f) (okc:OkCal c) (hp:Qam f) (hx:f.next<9223372036854775807) (T:TreeP f) (hf:midF f) (htx:c.text.length≤500000) (hk:c.kind<1∨c.kind>15):Qaf prog 40 [.agg (fsyA f),.agg (calA c)] (.tup [.agg (fsyA (doF f c).1),.agg (repA (doF f c).2)]):=by
 have hl:=hp.1;have hr:=Qad hp;have hcn:=okc.name;have hcn2:=okc.name2;have hct:=okc.text;exact Qac func40 (
 .new fun b1=>.new fun b2=>.new fun b3=>.new fun b4=>.u 2 [b2]<|
 .r 2<|.is 20 (show (c.kind==1)=false from (by simp;omega))<|.r 2<|.is 36 (show (c.kind==2)=false from (by simp;omega))<|.r 2<|.is 57 (show (c.kind==3)=false from (by simp;omega))<|.r 2<|.is 57 (show (c.kind==4)=false from (by simp;omega))<|.r 2<|.is 57 (show (c.kind==5)=false from (by simp;omega))<|.r 2<|.is 57 (show (c.kind==13)=false from (by simp;omega))<|.r 2<|.is 67 (show (c.kind==6)=false from (by simp;omega))<|.r 2<|.is 67 (show (c.kind==7)=false from (by simp;omega))<|.r 2<|.is 67 (show (c.kind==8)=false from (by simp;omega))<|.r 2<|.is 76 (show (c.kind==9)=false from (by simp;omega))<|.r 2<|.is 76 (show (c.kind==10)=false from (by simp;omega))<|.r 2<|.is 84 (show (c.kind==11)=false from (by simp;omega))<|.r 2<|.is 100 (show (c.kind==12)=false from (by simp;omega))<|.r 2<|.is 118 (show (c.kind==14)=false from (by simp;omega))<|.r 2<|.is 133 (show (c.kind==15)=false from (by simp;omega))<|.ord [0,1,2,3]<|.u 1 [b1]<|
 .call (Qbh 1)<|
 .u 2 [b3,b4]<|
 .f (.tup [.agg (fsyA (doF f c).1),.agg (repA (doF f c).2)]) [b3,b4] (.tup [.agg (fsyA f),.agg [aI ((errR 1).e),aI ((errR 1).a),aI ((errR 1).b),aI ((errR 1).n),aS ((errR 1).text),.sl 1 false ((errR 1).names.map txA)]]) (by
  rw [Zlf hk];exact sR))
theorem Zbk (f:Fsy) (c:Cal) (okf:OkF f) (okc:OkCal c) (hp:Qam f) (hx:f.next<9223372036854775807) (T:TreeP f) (hf:midF f) (htx:c.text.length≤500000) (hk:c.kind=1):Qaf prog 40 [.agg (fsyA f),.agg (calA c)] (.tup [.agg (fsyA (doF f c).1),.agg (repA (doF f c).2)]):=by
 have hl:=hp.1;have hr:=Qad hp;have hcn:=okc.name;have hcn2:=okc.name2;have hct:=okc.text;exact Qac func40 (
 .new fun b1=>.new fun b2=>.new fun b3=>.new fun b4=>.u 2 [b2]<|
 .r 2<|.is 20 (show (c.kind==1)=true from (by rw [hk];rfl))<|.u 5 [b1,b2,b2]<|
 .call (Qdv f c.ino c.name hp hcn)<|
 .r 3<|.new fun b5=>.u 2 [b5]<|
 let J1:Jn (Unit):=⟨fun j1=>⟨[(2,.ptr 2 b1 0),(4,.ptr 4 b3 0),(5,.ptr 5 b4 0)],[(2,.box b1 28 (fsyA f)),(4,.box b3 28 (fsyA f)),(5,.box b4 45 [aI (Qa3 f c.ino c.name),aI ((lookN f c.ino c.name).ino),aI 0,aI 0,aS ([]),aN])]⟩,fun _=>True⟩
 .cut J1 (.pick [0,1,2]<|.u 3 [b1]<|
 .fork<|.alt (.u 1 [b5]<|
 .pick [4,5,6]<|.u 3 [b3,b4]<|
 .jo J1 () [] [] sr3 bb3)
 <| .u 1 [b3]<|
 .pick [3,4,6]<|.u 3 [b5,b4]<|
 .jo J1 () [] [] sr3 bb3)
 <| fun _ _=>.f (.tup [.agg (fsyA (doF f c).1),.agg (repA (doF f c).2)]) [b3,b4] (.tup [.agg (fsyA f),.agg [aI (Qa3 f c.ino c.name),aI ((lookN f c.ino c.name).ino),aI 0,aI 0,aS ([]),aN]]) (by
  rw [Zlj hk];exact Sub.tups ⟨sR,Qbn _ _ _ _ _,trivial⟩))
theorem Zbj (f:Fsy) (c:Cal) (okf:OkF f) (okc:OkCal c) (hp:Qam f) (hx:f.next<9223372036854775807) (T:TreeP f) (hf:midF f) (htx:c.text.length≤500000) (hk:c.kind=2):Qaf prog 40 [.agg (fsyA f),.agg (calA c)] (.tup [.agg (fsyA (doF f c).1),.agg (repA (doF f c).2)]):=by
 have hl:=hp.1;have hr:=Qad hp;have hcn:=okc.name;have hcn2:=okc.name2;have hct:=okc.text;exact Qac func40 (
 .new fun b1=>.new fun b2=>.new fun b3=>.new fun b4=>.u 2 [b2]<|
 .r 2<|.is 20 (show (c.kind==1)=false from (by rw [hk];rfl))<|.r 2<|.is 36 (show (c.kind==2)=true from (by rw [hk];rfl))<|.u 3 [b1,b2]<|
 .call (Qa9 f c.ino (by omega))<|
 .r 3<|.new fun b5=>.u 2 [b5]<|
 .r 2<|.br 46 (!(Qau f c.ino)) (fun q1=>have q1:=notT q1;have p1:=booF q1;.ord [0,1,2,3]<|.u 1 [b1]<|
 .call (Qbh 6)<|
 .u 2 [b3,b4]<|
 .f (.tup [.agg (fsyA (doF f c).1),.agg (repA (doF f c).2)]) [b3,b4] (.tup [.agg (fsyA f),.agg [aI ((errR 6).e),aI ((errR 6).a),aI ((errR 6).b),aI ((errR 6).n),aS ((errR 6).text),.sl 1 false ((errR 6).names.map txA)]]) (by
  rw [Zki hk q1];exact sR))
 <| fun q1=>have q1:=notF q1;have p1:=booT q1;let J1:Jn (Unit):=⟨fun j1=>⟨[(2,.ptr 2 b1 0),(4,.ptr 4 b3 0),(5,.ptr 5 b4 0)],[(2,.box b1 28 (fsyA f)),(4,.box b3 28 (fsyA f)),(5,.box b4 45 [aI 0,aI ((Qaa f c.ino).kind),aI ((Qaa f c.ino).links),aI (Qgl (Qaa f c.ino)),aS ([]),aN])]⟩,fun _=>True⟩
 .cut J1 (.pick [0,1,3,5]<|.u 4 [b1,b5]<|
 .fork<|.alt (.u 1 [b5]<|
 .fork<|.alt (.u 1 [b5]<|
 .pick [6,7,8,9]<|.call (Qfp (Qaa f c.ino))<|
 .u 3 [b3,b4]<|
 .jo J1 () [] [] sr3 bb3)
 <| .call (Qfp (Qaa f c.ino))<|
 .fork<|.alt (.u 1 [b5]<|
 .pick [7,8,9]<|.u 3 [b3,b4]<|
 .jo J1 () [] [] sr3 bb3)
 <| .u 1 [b3]<|
 .pick [4,7,9]<|.u 3 [b5,b4]<|
 .jo J1 () [] [] sr3 bb3)
 <| .alt (.u 1 [b5]<|
 .fork<|.alt (.u 1 [b5]<|
 .pick [6,7,8,9]<|.call (Qfp (Qaa f c.ino))<|
 .u 3 [b3,b4]<|
 .jo J1 () [] [] sr3 bb3)
 <| .call (Qfp (Qaa f c.ino))<|
 .fork<|.alt (.u 1 [b5]<|
 .pick [7,8,9]<|.u 3 [b3,b4]<|
 .jo J1 () [] [] sr3 bb3)
 <| .u 1 [b3]<|
 .pick [2,7,9]<|.u 3 [b5,b4]<|
 .jo J1 () [] [] sr3 bb3)
 <| .call (Qfp (Qaa f c.ino))<|
 .fork<|.alt (.u 1 [b5]<|
 .fork<|.alt (.u 1 [b5]<|
 .pick [7,8,9]<|.u 3 [b3,b4]<|
 .jo J1 () [] [] sr3 bb3)
 <| .u 1 [b3]<|
 .pick [4,7,9]<|.u 3 [b5,b4]<|
 .jo J1 () [] [] sr3 bb3)
 <| .alt (.u 1 [b5]<|
 .fork<|.alt (.u 1 [b5]<|
 .pick [7,8,9]<|.u 3 [b3,b4]<|
 .jo J1 () [] [] sr3 bb3)
 <| .u 1 [b3]<|
 .pick [2,7,9]<|.u 3 [b5,b4]<|
 .jo J1 () [] [] sr3 bb3)
 <| .u 1 [b3]<|
 .pick [2,4,7,9]<|.u 4 [b5,b5,b4]<|
 .jo J1 () [] [] sr3 bb3)
 <| fun _ _=>.f (.tup [.agg (fsyA (doF f c).1),.agg (repA (doF f c).2)]) [b3,b4] (.tup [.agg (fsyA f),.agg [aI 0,aI ((Qaa f c.ino).kind),aI ((Qaa f c.ino).links),aI (Qgl (Qaa f c.ino)),aS ([]),aN]]) (by
  rw [Zfr hk q1];exact Sub.tups ⟨sR,Qbn _ _ _ _ _,trivial⟩))
theorem Zbi (f:Fsy) (c:Cal) (okf:OkF f) (okc:OkCal c) (hp:Qam f) (hx:f.next<9223372036854775807) (T:TreeP f) (hf:midF f) (htx:c.text.length≤500000) (hk:c.kind=3):Qaf prog 40 [.agg (fsyA f),.agg (calA c)] (.tup [.agg (fsyA (doF f c).1),.agg (repA (doF f c).2)]):=by
 have hl:=hp.1;have hr:=Qad hp;have hcn:=okc.name;have hcn2:=okc.name2;have hct:=okc.text;exact Qac func40 (let R:AV:=.tup [.agg (fsyA (doF f c).1),.agg (repA (doF f c).2)];
 .new fun b1=>.new fun b2=>.new fun b3=>.new fun b4=>.u 2 [b2]<|
 .r 2<|.is 20 (show (c.kind==1)=false from (by rw [hk];rfl))<|.r 2<|.is 36 (show (c.kind==2)=false from (by rw [hk];rfl))<|.r 2<|.is 57 (show (c.kind==3)=true from (by rw [hk];rfl))<|.u 2 [b1,b2]<|
 .call (Qro f c okf okc hp htx hk)<|
 .u 4 [b3,b4]<|
 .fi R [b3,b4])
theorem Zbh (f:Fsy) (c:Cal) (okf:OkF f) (okc:OkCal c) (hp:Qam f) (hx:f.next<9223372036854775807) (T:TreeP f) (hf:midF f) (htx:c.text.length≤500000) (hk:c.kind=4):Qaf prog 40 [.agg (fsyA f),.agg (calA c)] (.tup [.agg (fsyA (doF f c).1),.agg (repA (doF f c).2)]):=by
 have hl:=hp.1;have hr:=Qad hp;have hcn:=okc.name;have hcn2:=okc.name2;have hct:=okc.text;exact Qac func40 (let R:AV:=.tup [.agg (fsyA (doF f c).1),.agg (repA (doF f c).2)];
 .new fun b1=>.new fun b2=>.new fun b3=>.new fun b4=>.u 2 [b2]<|
 .r 2<|.is 20 (show (c.kind==1)=false from (by rw [hk];rfl))<|.r 2<|.is 36 (show (c.kind==2)=false from (by rw [hk];rfl))<|.r 2<|.is 57 (show (c.kind==3)=false from (by rw [hk];rfl))<|.r 2<|.is 57 (show (c.kind==4)=true from (by rw [hk];rfl))<|.u 2 [b1,b2]<|
 .call (Qrn f c okf okc hp htx hk)<|
 .u 4 [b3,b4]<|
 .fi R [b3,b4])
theorem Zbg (f:Fsy) (c:Cal) (okf:OkF f) (okc:OkCal c) (hp:Qam f) (hx:f.next<9223372036854775807) (T:TreeP f) (hf:midF f) (htx:c.text.length≤500000) (hk:c.kind=5):Qaf prog 40 [.agg (fsyA f),.agg (calA c)] (.tup [.agg (fsyA (doF f c).1),.agg (repA (doF f c).2)]):=by
 have hl:=hp.1;have hr:=Qad hp;have hcn:=okc.name;have hcn2:=okc.name2;have hct:=okc.text;exact Qac func40 (let R:AV:=.tup [.agg (fsyA (doF f c).1),.agg (repA (doF f c).2)];
 .new fun b1=>.new fun b2=>.new fun b3=>.new fun b4=>.u 2 [b2]<|
 .r 2<|.is 20 (show (c.kind==1)=false from (by rw [hk];rfl))<|.r 2<|.is 36 (show (c.kind==2)=false from (by rw [hk];rfl))<|.r 2<|.is 57 (show (c.kind==3)=false from (by rw [hk];rfl))<|.r 2<|.is 57 (show (c.kind==4)=false from (by rw [hk];rfl))<|.r 2<|.is 57 (show (c.kind==5)=true from (by rw [hk];rfl))<|.u 2 [b1,b2]<|
 .call (Qrm f c okf okc hp htx hk)<|
 .u 4 [b3,b4]<|
 .fi R [b3,b4])
theorem Zbf (f:Fsy) (c:Cal) (okf:OkF f) (okc:OkCal c) (hp:Qam f) (hx:f.next<9223372036854775807) (T:TreeP f) (hf:midF f) (htx:c.text.length≤500000) (hk:c.kind=6):Qaf prog 40 [.agg (fsyA f),.agg (calA c)] (.tup [.agg (fsyA (doF f c).1),.agg (repA (doF f c).2)]):=by
 have hl:=hp.1;have hr:=Qad hp;have hcn:=okc.name;have hcn2:=okc.name2;have hct:=okc.text;exact Qac func40 (let R:AV:=.tup [.agg (fsyA (doF f c).1),.agg (repA (doF f c).2)];
 .new fun b1=>.new fun b2=>.new fun b3=>.new fun b4=>.u 2 [b2]<|
 .r 2<|.is 20 (show (c.kind==1)=false from (by rw [hk];rfl))<|.r 2<|.is 36 (show (c.kind==2)=false from (by rw [hk];rfl))<|.r 2<|.is 57 (show (c.kind==3)=false from (by rw [hk];rfl))<|.r 2<|.is 57 (show (c.kind==4)=false from (by rw [hk];rfl))<|.r 2<|.is 57 (show (c.kind==5)=false from (by rw [hk];rfl))<|.r 2<|.is 57 (show (c.kind==13)=false from (by rw [hk];rfl))<|.r 2<|.is 67 (show (c.kind==6)=true from (by rw [hk];rfl))<|.u 2 [b1,b2]<|
 .call (Qua f c okf okc hp hx hk)<|
 .u 4 [b3,b4]<|
 .fi R [b3,b4])
theorem Zbe (f:Fsy) (c:Cal) (okf:OkF f) (okc:OkCal c) (hp:Qam f) (hx:f.next<9223372036854775807) (T:TreeP f) (hf:midF f) (htx:c.text.length≤500000) (hk:c.kind=7):Qaf prog 40 [.agg (fsyA f),.agg (calA c)] (.tup [.agg (fsyA (doF f c).1),.agg (repA (doF f c).2)]):=by
 have hl:=hp.1;have hr:=Qad hp;have hcn:=okc.name;have hcn2:=okc.name2;have hct:=okc.text;exact Qac func40 (let R:AV:=.tup [.agg (fsyA (doF f c).1),.agg (repA (doF f c).2)];
 .new fun b1=>.new fun b2=>.new fun b3=>.new fun b4=>.u 2 [b2]<|
 .r 2<|.is 20 (show (c.kind==1)=false from (by rw [hk];rfl))<|.r 2<|.is 36 (show (c.kind==2)=false from (by rw [hk];rfl))<|.r 2<|.is 57 (show (c.kind==3)=false from (by rw [hk];rfl))<|.r 2<|.is 57 (show (c.kind==4)=false from (by rw [hk];rfl))<|.r 2<|.is 57 (show (c.kind==5)=false from (by rw [hk];rfl))<|.r 2<|.is 57 (show (c.kind==13)=false from (by rw [hk];rfl))<|.r 2<|.is 67 (show (c.kind==6)=false from (by rw [hk];rfl))<|.r 2<|.is 67 (show (c.kind==7)=true from (by rw [hk];rfl))<|.u 2 [b1,b2]<|
 .call (Qt9 f c okf okc hp hx hk)<|
 .u 4 [b3,b4]<|
 .fi R [b3,b4])
theorem Zbd (f:Fsy) (c:Cal) (okf:OkF f) (okc:OkCal c) (hp:Qam f) (hx:f.next<9223372036854775807) (T:TreeP f) (hf:midF f) (htx:c.text.length≤500000) (hk:c.kind=8):Qaf prog 40 [.agg (fsyA f),.agg (calA c)] (.tup [.agg (fsyA (doF f c).1),.agg (repA (doF f c).2)]):=by
 have hl:=hp.1;have hr:=Qad hp;have hcn:=okc.name;have hcn2:=okc.name2;have hct:=okc.text;exact Qac func40 (let R:AV:=.tup [.agg (fsyA (doF f c).1),.agg (repA (doF f c).2)];
 .new fun b1=>.new fun b2=>.new fun b3=>.new fun b4=>.u 2 [b2]<|
 .r 2<|.is 20 (show (c.kind==1)=false from (by rw [hk];rfl))<|.r 2<|.is 36 (show (c.kind==2)=false from (by rw [hk];rfl))<|.r 2<|.is 57 (show (c.kind==3)=false from (by rw [hk];rfl))<|.r 2<|.is 57 (show (c.kind==4)=false from (by rw [hk];rfl))<|.r 2<|.is 57 (show (c.kind==5)=false from (by rw [hk];rfl))<|.r 2<|.is 57 (show (c.kind==13)=false from (by rw [hk];rfl))<|.r 2<|.is 67 (show (c.kind==6)=false from (by rw [hk];rfl))<|.r 2<|.is 67 (show (c.kind==7)=false from (by rw [hk];rfl))<|.r 2<|.is 67 (show (c.kind==8)=true from (by rw [hk];rfl))<|.u 2 [b1,b2]<|
 .call (Qt8 f c okf okc hp hx hk)<|
 .u 4 [b3,b4]<|
 .fi R [b3,b4])
theorem Zbc (f:Fsy) (c:Cal) (okf:OkF f) (okc:OkCal c) (hp:Qam f) (hx:f.next<9223372036854775807) (T:TreeP f) (hf:midF f) (htx:c.text.length≤500000) (hk:c.kind=9):Qaf prog 40 [.agg (fsyA f),.agg (calA c)] (.tup [.agg (fsyA (doF f c).1),.agg (repA (doF f c).2)]):=by
 have hl:=hp.1;have hr:=Qad hp;have hcn:=okc.name;have hcn2:=okc.name2;have hct:=okc.text;exact Qac func40 (let R:AV:=.tup [.agg (fsyA (doF f c).1),.agg (repA (doF f c).2)];
 .new fun b1=>.new fun b2=>.new fun b3=>.new fun b4=>.u 2 [b2]<|
 .r 2<|.is 20 (show (c.kind==1)=false from (by rw [hk];rfl))<|.r 2<|.is 36 (show (c.kind==2)=false from (by rw [hk];rfl))<|.r 2<|.is 57 (show (c.kind==3)=false from (by rw [hk];rfl))<|.r 2<|.is 57 (show (c.kind==4)=false from (by rw [hk];rfl))<|.r 2<|.is 57 (show (c.kind==5)=false from (by rw [hk];rfl))<|.r 2<|.is 57 (show (c.kind==13)=false from (by rw [hk];rfl))<|.r 2<|.is 67 (show (c.kind==6)=false from (by rw [hk];rfl))<|.r 2<|.is 67 (show (c.kind==7)=false from (by rw [hk];rfl))<|.r 2<|.is 67 (show (c.kind==8)=false from (by rw [hk];rfl))<|.r 2<|.is 76 (show (c.kind==9)=true from (by rw [hk];rfl))<|.u 2 [b1,b2]<|
 .call (Qrp f c okf okc hp hk)<|
 .u 4 [b3,b4]<|
 .fi R [b3,b4])
theorem Qyp (f:Fsy) (c:Cal) (okf:OkF f) (okc:OkCal c) (hp:Qam f) (hx:f.next<9223372036854775807) (T:TreeP f) (hf:midF f) (htx:c.text.length≤500000) (hk:c.kind=10):Qaf prog 40 [.agg (fsyA f),.agg (calA c)] (.tup [.agg (fsyA (doF f c).1),.agg (repA (doF f c).2)]):=by
 have hl:=hp.1;have hr:=Qad hp;have hcn:=okc.name;have hcn2:=okc.name2;have hct:=okc.text;exact Qac func40 (let R:AV:=.tup [.agg (fsyA (doF f c).1),.agg (repA (doF f c).2)];
 .new fun b1=>.new fun b2=>.new fun b3=>.new fun b4=>.u 2 [b2]<|
 .r 2<|.is 20 (show (c.kind==1)=false from (by rw [hk];rfl))<|.r 2<|.is 36 (show (c.kind==2)=false from (by rw [hk];rfl))<|.r 2<|.is 57 (show (c.kind==3)=false from (by rw [hk];rfl))<|.r 2<|.is 57 (show (c.kind==4)=false from (by rw [hk];rfl))<|.r 2<|.is 57 (show (c.kind==5)=false from (by rw [hk];rfl))<|.r 2<|.is 57 (show (c.kind==13)=false from (by rw [hk];rfl))<|.r 2<|.is 67 (show (c.kind==6)=false from (by rw [hk];rfl))<|.r 2<|.is 67 (show (c.kind==7)=false from (by rw [hk];rfl))<|.r 2<|.is 67 (show (c.kind==8)=false from (by rw [hk];rfl))<|.r 2<|.is 76 (show (c.kind==9)=false from (by rw [hk];rfl))<|.r 2<|.is 76 (show (c.kind==10)=true from (by rw [hk];rfl))<|.u 2 [b1,b2]<|
 .call (Qpq f c okf okc hp hk)<|
 .u 4 [b3,b4]<|
 .fi R [b3,b4])
theorem Qyo (f:Fsy) (c:Cal) (okf:OkF f) (okc:OkCal c) (hp:Qam f) (hx:f.next<9223372036854775807) (T:TreeP f) (hf:midF f) (htx:c.text.length≤500000) (hk:c.kind=11):Qaf prog 40 [.agg (fsyA f),.agg (calA c)] (.tup [.agg (fsyA (doF f c).1),.agg (repA (doF f c).2)]):=by
 have hl:=hp.1;have hr:=Qad hp;have hcn:=okc.name;have hcn2:=okc.name2;have hct:=okc.text;exact Qac func40 (
 .new fun b1=>.new fun b2=>.new fun b3=>.new fun b4=>.u 2 [b2]<|
 .r 2<|.is 20 (show (c.kind==1)=false from (by rw [hk];rfl))<|.r 2<|.is 36 (show (c.kind==2)=false from (by rw [hk];rfl))<|.r 2<|.is 57 (show (c.kind==3)=false from (by rw [hk];rfl))<|.r 2<|.is 57 (show (c.kind==4)=false from (by rw [hk];rfl))<|.r 2<|.is 57 (show (c.kind==5)=false from (by rw [hk];rfl))<|.r 2<|.is 57 (show (c.kind==13)=false from (by rw [hk];rfl))<|.r 2<|.is 67 (show (c.kind==6)=false from (by rw [hk];rfl))<|.r 2<|.is 67 (show (c.kind==7)=false from (by rw [hk];rfl))<|.r 2<|.is 67 (show (c.kind==8)=false from (by rw [hk];rfl))<|.r 2<|.is 76 (show (c.kind==9)=false from (by rw [hk];rfl))<|.r 2<|.is 76 (show (c.kind==10)=false from (by rw [hk];rfl))<|.r 2<|.is 84 (show (c.kind==11)=true from (by rw [hk];rfl))<|.u 7 [b1,b2,b2,b2]<|
 .call (Qyh f c.ino c.name c.to okf hp hcn)<|
 .r 3<|.new fun b5=>.u 2 [b5]<|
 .ord [0,1,2,3,4]<|.u 2 [b5]<|
 .call (Qbh (Qa6 f c.ino c.name c.to))<|
 .u 2 [b3,b4]<|
 .f (.tup [.agg (fsyA (doF f c).1),.agg (repA (doF f c).2)]) [b3,b4] (.tup [.agg [.sl 5 false ((Qc4 f c.ino c.name c.to).l.map nodA),aI ((Qc4 f c.ino c.name c.to).next)],.agg [aI ((errR (Qa6 f c.ino c.name c.to)).e),aI ((errR (Qa6 f c.ino c.name c.to)).a),aI ((errR (Qa6 f c.ino c.name c.to)).b),aI ((errR (Qa6 f c.ino c.name c.to)).n),aS ((errR (Qa6 f c.ino c.name c.to)).text),.sl 1 false ((errR (Qa6 f c.ino c.name c.to)).names.map txA)]]) (by
  rw [lk_do hk];exact sR))
theorem Qyn (f:Fsy) (c:Cal) (okf:OkF f) (okc:OkCal c) (hp:Qam f) (hx:f.next<9223372036854775807) (T:TreeP f) (hf:midF f) (htx:c.text.length≤500000) (hk:c.kind=12):Qaf prog 40 [.agg (fsyA f),.agg (calA c)] (.tup [.agg (fsyA (doF f c).1),.agg (repA (doF f c).2)]):=by
 have hl:=hp.1;have hr:=Qad hp;have hcn:=okc.name;have hcn2:=okc.name2;have hct:=okc.text;exact Qac func40 (
 .new fun b1=>.new fun b2=>.new fun b3=>.new fun b4=>.u 2 [b2]<|
 .r 2<|.is 20 (show (c.kind==1)=false from (by rw [hk];rfl))<|.r 2<|.is 36 (show (c.kind==2)=false from (by rw [hk];rfl))<|.r 2<|.is 57 (show (c.kind==3)=false from (by rw [hk];rfl))<|.r 2<|.is 57 (show (c.kind==4)=false from (by rw [hk];rfl))<|.r 2<|.is 57 (show (c.kind==5)=false from (by rw [hk];rfl))<|.r 2<|.is 57 (show (c.kind==13)=false from (by rw [hk];rfl))<|.r 2<|.is 67 (show (c.kind==6)=false from (by rw [hk];rfl))<|.r 2<|.is 67 (show (c.kind==7)=false from (by rw [hk];rfl))<|.r 2<|.is 67 (show (c.kind==8)=false from (by rw [hk];rfl))<|.r 2<|.is 76 (show (c.kind==9)=false from (by rw [hk];rfl))<|.r 2<|.is 76 (show (c.kind==10)=false from (by rw [hk];rfl))<|.r 2<|.is 84 (show (c.kind==11)=false from (by rw [hk];rfl))<|.r 2<|.is 100 (show (c.kind==12)=true from (by rw [hk];rfl))<|.u 9 [b1,b2,b2,b2,b2]<|
 .call (Qye f c.ino c.name c.to c.name2 okf T hp hf hcn hcn2)<|
 .r 3<|.new fun b5=>.u 2 [b5]<|
 .ord [0,1,2,3,4]<|.u 2 [b5]<|
 .call (Qbh (Qa8 f c.ino c.name c.to c.name2))<|
 .u 2 [b3,b4]<|
 .f (.tup [.agg (fsyA (doF f c).1),.agg (repA (doF f c).2)]) [b3,b4] (.tup [.agg [.sl 5 false ((movF f c.ino c.name c.to c.name2).l.map nodA),aI ((movF f c.ino c.name c.to c.name2).next)],.agg [aI ((errR (Qa8 f c.ino c.name c.to c.name2)).e),aI ((errR (Qa8 f c.ino c.name c.to c.name2)).a),aI ((errR (Qa8 f c.ino c.name c.to c.name2)).b),aI ((errR (Qa8 f c.ino c.name c.to c.name2)).n),aS ((errR (Qa8 f c.ino c.name c.to c.name2)).text),.sl 1 false ((errR (Qa8 f c.ino c.name c.to c.name2)).names.map txA)]]) (by
  rw [mv_do hk];exact sR))
theorem Qym (f:Fsy) (c:Cal) (okf:OkF f) (okc:OkCal c) (hp:Qam f) (hx:f.next<9223372036854775807) (T:TreeP f) (hf:midF f) (htx:c.text.length≤500000) (hk:c.kind=13):Qaf prog 40 [.agg (fsyA f),.agg (calA c)] (.tup [.agg (fsyA (doF f c).1),.agg (repA (doF f c).2)]):=by
 have hl:=hp.1;have hr:=Qad hp;have hcn:=okc.name;have hcn2:=okc.name2;have hct:=okc.text;exact Qac func40 (let R:AV:=.tup [.agg (fsyA (doF f c).1),.agg (repA (doF f c).2)];
 .new fun b1=>.new fun b2=>.new fun b3=>.new fun b4=>.u 2 [b2]<|
 .r 2<|.is 20 (show (c.kind==1)=false from (by rw [hk];rfl))<|.r 2<|.is 36 (show (c.kind==2)=false from (by rw [hk];rfl))<|.r 2<|.is 57 (show (c.kind==3)=false from (by rw [hk];rfl))<|.r 2<|.is 57 (show (c.kind==4)=false from (by rw [hk];rfl))<|.r 2<|.is 57 (show (c.kind==5)=false from (by rw [hk];rfl))<|.r 2<|.is 57 (show (c.kind==13)=true from (by rw [hk];rfl))<|.u 2 [b1,b2]<|
 .call (Qpp f c okf okc hp htx hk)<|
 .u 4 [b3,b4]<|
 .fi R [b3,b4])
theorem Qyl (f:Fsy) (c:Cal) (okf:OkF f) (okc:OkCal c) (hp:Qam f) (hx:f.next<9223372036854775807) (T:TreeP f) (hf:midF f) (htx:c.text.length≤500000) (hk:c.kind=14):Qaf prog 40 [.agg (fsyA f),.agg (calA c)] (.tup [.agg (fsyA (doF f c).1),.agg (repA (doF f c).2)]):=by
 have hl:=hp.1;have hr:=Qad hp;have hcn:=okc.name;have hcn2:=okc.name2;have hct:=okc.text;exact Qac func40 (
 .new fun b1=>.new fun b2=>.new fun b3=>.new fun b4=>.u 2 [b2]<|
 .r 2<|.is 20 (show (c.kind==1)=false from (by rw [hk];rfl))<|.r 2<|.is 36 (show (c.kind==2)=false from (by rw [hk];rfl))<|.r 2<|.is 57 (show (c.kind==3)=false from (by rw [hk];rfl))<|.r 2<|.is 57 (show (c.kind==4)=false from (by rw [hk];rfl))<|.r 2<|.is 57 (show (c.kind==5)=false from (by rw [hk];rfl))<|.r 2<|.is 57 (show (c.kind==13)=false from (by rw [hk];rfl))<|.r 2<|.is 67 (show (c.kind==6)=false from (by rw [hk];rfl))<|.r 2<|.is 67 (show (c.kind==7)=false from (by rw [hk];rfl))<|.r 2<|.is 67 (show (c.kind==8)=false from (by rw [hk];rfl))<|.r 2<|.is 76 (show (c.kind==9)=false from (by rw [hk];rfl))<|.r 2<|.is 76 (show (c.kind==10)=false from (by rw [hk];rfl))<|.r 2<|.is 84 (show (c.kind==11)=false from (by rw [hk];rfl))<|.r 2<|.is 100 (show (c.kind==12)=false from (by rw [hk];rfl))<|.r 2<|.is 118 (show (c.kind==14)=true from (by rw [hk];rfl))<|.u 3 [b1,b2]<|
 .call (Qgr f c.ino hp)<|
 .r 3<|.new fun b5=>.u 2 [b5]<|
 .ord [0,1,2,3,4,5,6,7]<|.u 4 [b1,b5]<|
 .call (Qt7 (dirN f c.ino).l (by have:=(Qc5 hp c.ino).2;omega))<|
 .u 3 [b3,b4]<|
 .f (.tup [.agg (fsyA (doF f c).1),.agg (repA (doF f c).2)]) [b3,b4] (.tup [.agg (fsyA f),.agg [aI (dirE f c.ino),aI 0,aI 0,aI 0,aS ([]),.sl 1 false (((dirN f c.ino).l.map Ent.name).map txA)]]) (by
  rw [Zk4 hk];exact sR))
theorem Qyk (f:Fsy) (c:Cal) (okf:OkF f) (okc:OkCal c) (hp:Qam f) (hx:f.next<9223372036854775807) (T:TreeP f) (hf:midF f) (htx:c.text.length≤500000) (hk:c.kind=15):Qaf prog 40 [.agg (fsyA f),.agg (calA c)] (.tup [.agg (fsyA (doF f c).1),.agg (repA (doF f c).2)]):=by
 have hl:=hp.1;have hr:=Qad hp;have hcn:=okc.name;have hcn2:=okc.name2;have hct:=okc.text;exact Qac func40 (
 .new fun b1=>.new fun b2=>.new fun b3=>.new fun b4=>.u 2 [b2]<|
 .r 2<|.is 20 (show (c.kind==1)=false from (by rw [hk];rfl))<|.r 2<|.is 36 (show (c.kind==2)=false from (by rw [hk];rfl))<|.r 2<|.is 57 (show (c.kind==3)=false from (by rw [hk];rfl))<|.r 2<|.is 57 (show (c.kind==4)=false from (by rw [hk];rfl))<|.r 2<|.is 57 (show (c.kind==5)=false from (by rw [hk];rfl))<|.r 2<|.is 57 (show (c.kind==13)=false from (by rw [hk];rfl))<|.r 2<|.is 67 (show (c.kind==6)=false from (by rw [hk];rfl))<|.r 2<|.is 67 (show (c.kind==7)=false from (by rw [hk];rfl))<|.r 2<|.is 67 (show (c.kind==8)=false from (by rw [hk];rfl))<|.r 2<|.is 76 (show (c.kind==9)=false from (by rw [hk];rfl))<|.r 2<|.is 76 (show (c.kind==10)=false from (by rw [hk];rfl))<|.r 2<|.is 84 (show (c.kind==11)=false from (by rw [hk];rfl))<|.r 2<|.is 100 (show (c.kind==12)=false from (by rw [hk];rfl))<|.r 2<|.is 118 (show (c.kind==14)=false from (by rw [hk];rfl))<|.r 2<|.is 133 (show (c.kind==15)=true from (by rw [hk];rfl))<|.u 3 [b1]<|
 .lm 137 f.l nodA<|.r 1<|.new fun b5=>.u 1 [b5]<|
 .r 1<|let L1:Lp (Nat):=⟨fun a1=>⟨[(2,.ptr 2 b1 0),(4,.ptr 4 b3 0),(5,.ptr 5 b4 0),(16,.ptr 16 b5 0),(17,aI (a1:Int))],[(2,.box b1 28 (fsyA f)),(4,.box b3 28 [aN,aI 0]),(5,.box b4 45 [aI 0,aI 0,aI 0,aI 0,aS ([]),aN]),(16,.box b5 45 [aI 0,aI (f.l.length:Int),aI (txtS (f.l.take a1):Int),aI 0,aS ([]),aN])]⟩,fun a1=>f.l.length-a1,fun a1=>a1≤f.l.length∧txtS (f.l.take a1)≤4096*a1⟩
 .lp L1 0 ⟨Nat.zero_le _,Nat.le_refl _⟩ [(17,aI 0)] [(16,.box b5 45 [aI 0,aI (f.l.length:Int),aI 0,aI 0,aS ([]),aN])] ⟨sR,sR,sR,sR,sO,trivial⟩ ⟨sB,sB,sB,⟨_,rfl,SubB.of_eq rfl⟩,trivial⟩ fun a1 ha1=>
 (fun (k:Nat) (hH1:k≤f.l.length∧txtS (f.l.take k)≤4096*k)=>.u 4 [b1]<|
 .lm 142 f.l nodA<|.r 1<|.bd 143 ((k:Int)<(f.l.length:Int)) (fun p1=>.ord [0,1,2,3,4,5,6,7,8,9,10,11]<|.u 5 [b5,b1]<|
 .idxM f.l nodA k (m:=(k:Int)) rfl (by omega) fun x1 hx1=>
 have tlx1:=Qle hp (List.mem_of_getElem? hx1);.run 6 [rng .i64 ((txtS (f.l.take k):Int)+((x1.text).length:Int)),b5=b5] ⟨Qaj (by omega) (by omega),rfl,trivial⟩<|
 .run 3 [rng .i64 ((k:Int)+1)] ⟨Qaj (by omega) (by omega),trivial⟩<|
 .bk L1 k (k+1) ⟨by omega,by rw [show txtS (f.l.take (k+1))=txtS (f.l.take k)+x1.text.length from by unfold txtS;rw [Qak hx1];simp];have:=Qle hp (List.mem_of_getElem? hx1);omega⟩ (show f.l.length-(k+1)<f.l.length-k from (by omega)) [(17,aI ((k:Int)+1))] [(16,.box b5 45 [aI 0,aI (f.l.length:Int),aI ((txtS (f.l.take k):Int)+((x1.text).length:Int)),aI 0,aS ([]),aN])] ⟨sR,sR,sR,sR,sO,trivial⟩ ⟨sB,sB,sB,⟨_,rfl,SubB.of_eq (by rw [show txtS (f.l.take (k+1))=txtS (f.l.take k)+x1.text.length from by unfold txtS;rw [Qak hx1];simp];simp)⟩,trivial⟩)
 <| fun p1=>let J1:Jn (Unit):=⟨fun j1=>⟨[(2,.ptr 2 b1 0),(4,.ptr 4 b3 0),(5,.ptr 5 b4 0)],[(2,.box b1 28 (fsyA f)),(4,.box b3 28 (fsyA f)),(5,.box b4 45 [aI 0,aI (f.l.length:Int),aI (txtS (f.l.take k):Int),aI 0,aS ([]),aN])]⟩,fun _=>True⟩
 .cut J1 (.pick [0]<|.u 1 [b1]<|
 .fork<|.alt (.u 1 [b5]<|
 .pick [2,3]<|.u 2 [b3,b4]<|
 .jo J1 () [] [] sr3 bb3)
 <| .u 1 [b3]<|
 .pick [1,3]<|.u 2 [b5,b4]<|
 .jo J1 () [] [] sr3 bb3)
 <| fun _ _=>.f (.tup [.agg (fsyA (doF f c).1),.agg (repA (doF f c).2)]) [b3,b4] (.tup [.agg (fsyA f),.agg [aI 0,aI (f.l.length:Int),aI (txtS (f.l.take k):Int),aI 0,aS ([]),aN]]) (by
  rw [sfs_do hk,show k=f.l.length from by omega,Qav (Nat.le_refl _)];exact Sub.tups ⟨sR,Qbn _ _ _ _ _,trivial⟩)) a1 ha1)
theorem Zgf (f:Fsy) (c:Cal) (okf:OkF f) (okc:OkCal c) (hp:Qam f) (hx:f.next<9223372036854775807) (T:TreeP f) (hf:midF f) (htx:c.text.length≤500000):Qaf prog 40 [.agg (fsyA f),.agg (calA c)] (.tup [.agg (fsyA (doF f c).1),.agg (repA (doF f c).2)]):=by
 rcases (show c.kind=1∨c.kind=2∨c.kind=3∨c.kind=4∨c.kind=5∨c.kind=6∨c.kind=7∨c.kind=8∨c.kind=9∨c.kind=10∨c.kind=11∨c.kind=12∨c.kind=13∨c.kind=14∨c.kind=15∨(c.kind<1∨c.kind>15) from by omega) with h | h | h | h | h | h | h | h | h | h | h | h | h | h | h | h
 ·exact Zbk f c okf okc hp hx T hf htx h
 ·exact Zbj f c okf okc hp hx T hf htx h
 ·exact Zbi f c okf okc hp hx T hf htx h
 ·exact Zbh f c okf okc hp hx T hf htx h
 ·exact Zbg f c okf okc hp hx T hf htx h
 ·exact Zbf f c okf okc hp hx T hf htx h
 ·exact Zbe f c okf okc hp hx T hf htx h
 ·exact Zbd f c okf okc hp hx T hf htx h
 ·exact Zbc f c okf okc hp hx T hf htx h
 ·exact Qyp f c okf okc hp hx T hf htx h
 ·exact Qyo f c okf okc hp hx T hf htx h
 ·exact Qyn f c okf okc hp hx T hf htx h
 ·exact Qym f c okf okc hp hx T hf htx h
 ·exact Qyl f c okf okc hp hx T hf htx h
 ·exact Qyk f c okf okc hp hx T hf htx h
 ·exact Zbl f c okf okc hp hx T hf htx h
structure OkC0 (c:Cal):Prop where
 kind:I64 c.kind
 ino:I64 c.ino
 to:I64 c.to
 at_:I64 c.at_
 many:I64 c.many
 name:c.name.length≤140737488351232
 name2:c.name2.length≤140737488351232
 text:c.text.length≤140737488351232
def txC (c:Cal):Nat:=c.name.length+c.name2.length+c.text.length
def smS (l:List Cal) (k:Nat):Nat:=l.length+((l.take k).map txC).sum
def Qfo (l:List Cal):Prop:=smS l l.length≤2000∧l.length≤30
theorem sm_0 (l:List Cal):smS l 0=l.length:=by unfold smS;simp
theorem Zaj {l:List Cal} {k:Nat} {x:Cal} (h:l[k]?=some x):smS l (k+1)=smS l k+txC x:=by
 unfold smS;rw [Qak h];simp;omega
theorem Zkm (l:List Cal) (k:Nat):smS l k≤smS l l.length:=by
 unfold smS;have:=Qeq txC l k;rw [List.take_length];omega
theorem Zfv {l:List Cal} (h:Qfo l) {c:Cal} (hc:c∈l) (h0:OkC0 c):OkCal c:=by
 have h1:=h.1;have:txC c≤((l.take l.length).map txC).sum:=by rw [List.take_length];exact Qj8 hc
 unfold smS at h1;have e:txC c=c.name.length+c.name2.length+c.text.length:=rfl;exact ⟨h0.kind,h0.ino,h0.to,h0.at_,h0.many,by omega,by omega,by omega⟩
theorem Qx2 (l:List Cal) (hl:l.length≤8796093022207) (ok:∀ c∈l,OkC0 c):Qaf prog 13 [.sl 8 false (l.map calA)] (aB (dP (Qfo l))):=by
 exact Qac func13 (
 .r 1<|.r 2<|.lm 6 l calA<|.r 1<|.r 1<|let L1:Lp (Nat):=⟨fun a1=>⟨[(0,.sl 8 false (l.map calA)),(4,aI (a1:Int)),(3,aI (smS l a1:Int))],[]⟩,fun a1=>l.length-a1,fun a1=>a1≤l.length∧smS l a1≤500000000000000⟩
 .lp L1 0 (show 0≤l.length∧smS l 0≤500000000000000 from (by rw [sm_0];omega)) [(4,aI 0),(3,aI (l.length:Int))] [] ⟨sR,sO,Sub.of_eq (congrArg aI (by rw [sm_0])),trivial⟩ trivial fun a1 ha1=>
 (fun (k:Nat) (hH1:k≤l.length∧smS l k≤500000000000000)=>.r 3<|.lm 9 l calA<|.r 2<|.bd 11 ((k:Int)<(l.length:Int)) (fun p1=>.r 3<|.br 14 (decide ((smS l k:Int)≤2000)) (fun q2=>have p2:=decT q2;.ord [0,1,2,3,4,5,6,7,8,9,10,11,12,13,14,15,16,17,18,19,20,21,22]<|.r 3<|.idxM l calA k (m:=(k:Int)) rfl (by omega) fun x1 hx1=>
 have okx1:=ok x1 (List.mem_of_getElem? hx1);have b1x1:=okx1.name;have b2x1:=okx1.name2;have b3x1:=okx1.text;.run 6 [rng .i64 ((smS l k:Int)+((x1.name).length:Int))] ⟨Qaj (by omega) (by omega),trivial⟩<|
 .idx k (m:=(k:Int)) (xs:=l.map calA) (e:=calA x1) rfl (map_some hx1)<|
 .run 6 [rng .i64 (((smS l k:Int)+((x1.name).length:Int))+((x1.name2).length:Int))] ⟨Qaj (by omega) (by omega),trivial⟩<|
 .idx k (m:=(k:Int)) (xs:=l.map calA) (e:=calA x1) rfl (map_some hx1)<|
 .run 5 [rng .i64 ((((smS l k:Int)+((x1.name).length:Int))+((x1.name2).length:Int))+((x1.text).length:Int))] ⟨Qaj (by omega) (by omega),trivial⟩<|
 .run 3 [rng .i64 ((k:Int)+1)] ⟨Qaj (by omega) (by omega),trivial⟩<|
 .bk L1 k (k+1) (show (k+1)≤l.length∧smS l (k+1)≤500000000000000 from (by refine ⟨by omega,?_⟩;rw [Zaj hx1];unfold txC;omega)) (show l.length-(k+1)<l.length-k from (by omega)) [(4,aI ((k:Int)+1)),(3,aI ((((smS l k:Int)+((x1.name).length:Int))+((x1.name2).length:Int))+((x1.text).length:Int)))] [] ⟨sR,sO,Sub.of_eq (congrArg aI (by rw [Zaj hx1];unfold txC;omega)),trivial⟩ trivial)
 <| fun q2=>have p2:=decF q2;.r 3<|.is 41 q2<|.r 5<|.f (aB (dP (Qfo l))) [] (aB false) (by
  have hm:=Zkm l k;by_cases hk:k=l.length
  ·rw [← hk] at hm;refine sE ?_;unfold Qfo;rw [← hk];simp;omega
  ·refine sE ?_;unfold Qfo;simp;omega))
 <| fun p1=>.r 3<|.r 3<|.bd 41 ((smS l k:Int)≤2000) (fun p3=>.r 2<|.lm 43 l calA<|.r 3<|.f (aB (dP (Qfo l))) [] (aB (decide ((l.length:Int)≤30))) (by
  have hm:=Zkm l k;by_cases hk:k=l.length
  ·rw [← hk] at hm;refine sE ?_;unfold Qfo;rw [← hk];simp;omega
  ·refine sE ?_;unfold Qfo;simp;omega))
 <| fun p3=>.r 5<|.f (aB (dP (Qfo l))) [] (aB false) (by
  have hm:=Zkm l k;by_cases hk:k=l.length
  ·rw [← hk] at hm;refine sE ?_;unfold Qfo;rw [← hk];simp;omega
  ·refine sE ?_;unfold Qfo;simp;omega)) a1 ha1)
end Go.Proofs.YtahlldgocpabjaaGreat
