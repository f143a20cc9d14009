import Derived.Test.YtahlldgocpabjaaGreatMrgO
set_option maxRecDepth 100000
set_option maxHeartbeats 8000000
set_option linter.unusedVariables false
set_option linter.unusedSimpArgs false
namespace Go.Proofs.YtahlldgocpabjaaGreat
open Go Go.RowKit Copyhold
theorem Qg6 {t:Bool} (a b c d e:Int):Sub (.sl 1 t [[aI a],[aI b],[aI c],[aI d],[aI e]]) (.sl 1 false ([a,b,c,d,e].map intA)):=Sub.loose _ _ _
def addN (f:Fsy) (n:Nod):Nod:=⟨f.next,n.kind,1,n.text,n.l⟩
noncomputable def Qak (f:Fsy) (d:Int) (s:Txt) (n:Nod):Int:=Qaq [dirE f d,Qah s,Qab (isB (dirN f d).l s) 7,Qab (decide ((f.l.length:Int)≥256)||decide (((dirN f d).l.length:Int)≥256)) 12,Qab ((!(dP (nodP (addN f n))))||decide ((n.l.length:Int)>0)) 1]
theorem Qpl {f:Fsy} {n:Nod} (okf:OkF f) (okn:OkN n):OkN (addN f n):=⟨okf.1,okn.2.1,⟨by show (_:Int)≤1;omega,by show (1:Int)≤_;omega⟩,okn.2.2.2.1,okn.2.2.2.2.1,okn.2.2.2.2.2⟩
theorem Zf9 (f:Fsy) (dir:Int) (s:Txt) (n:Nod) (okf:OkF f) (hp:Qal f) (hs:s.length≤1000000) (okn:OkN n) (hx:f.next<9223372036854775807):Qaj Tryz.prog 179 [.agg (fsyA f),aI dir,aS s,.agg (nodA n)] (.tup [.agg (fsyA (if Qak f dir s n=0 then addF f dir s (addN f n) else f)),aI (Qak f dir s n)]):=by
 have hl:=hp.1
 have hr:=Qad hp
 exact Qac (F:=Tryz.f179) 400 (
 .new fun b1=>.new fun b2=>.new fun b3=>.new fun b4=>.new fun b5=>.r 1<|.run 2 [b1=b1,b2=b2] rt2<|
 .call (Qhb f dir hp)<|
 .r 3<|.new fun b6=>.run 2 [b6=b6] rt1<|
 .run 3 [b6=b6,b3=b3] rt2<|
 .call (Qfk ((dirN f dir).l) s (by have:=(Qc2 hp dir).2;omega) (Qc2 hp dir).1)<|
 .r 5<|.run 6 [b1=b1,b4=b4,b4=b4] rt3<|
 .ord [0,1,3,5,6,7,8,16,2,4,9,10,11,12,13,14,15,17,18,19,20,21,22,23,24,25,26,27,28]<|.run 6 [b3=b3,b1=b1] rt2<|
 .val 38 (show (aI ((f.l.map nodA).length:Int):AV)=aI (f.l.length:Int) from by rw [List.length_map])<|.run 2 [b4=b4] rt1<|
 .call (Qei s (by omega))<|
 .call (Qbm (isB ((dirN f dir).l) s) 7)<|
 .r 1<|.br 40 (decide ((f.l.length:Int)≥256)) (fun q1=>have p1:=decT q1;.r 5<|.call (Qbm true 12)<|
 .callS (args0:=[.agg [aI f.next,aI n.kind,aI 1,aS n.text,.sl 2 false (n.l.map entA)]]) (args:=[.agg [aI ((addN f n).ino),aI ((addN f n).kind),aI ((addN f n).links),aS ((addN f n).text),.sl 2 false ((addN f n).l.map entA)]]) sr1 (Qlj (addN f n) (Qpl okf okn))<|
 .r 2<|.br 50 (!(dP (nodP (addN f n)))) (fun q2=>have q2:=notT q2;have p2:=booF q2;.r 5<|.call (Qbm true 1)<|
 .r 1<|.callS (args0:=[.sl 1 true ([[aI (dirE f dir)],[aI (Qah s)],[aI (Qab (isB ((dirN f dir).l) s) 7)],[aI (Qab true 12)],[aI (Qab true 1)]])]) (args:=[.sl 1 false ([(dirE f dir),(Qah s),(Qab (isB ((dirN f dir).l) s) 7),(Qab true 12),(Qab true 1)].map intA)]) ⟨Qg6 (dirE f dir) (Qah s) (Qab (isB ((dirN f dir).l) s) 7) (Qab true 12) (Qab true 1),trivial⟩ (Qci [(dirE f dir),(Qah s),(Qab (isB ((dirN f dir).l) s) 7),(Qab true 12),(Qab true 1)] (by simp))<|
 .r 1<|.frz 4 [4,5,6,7,8,9,11,40,45,50,55] [5,6,7,8] [b1=b1] rt1<|
 .frz 5 [4,5,6,7,8,9,11,40,45,50,55] [6,7,8] [b2=b2] rt1<|
 .frz 6 [4,5,6,7,8,9,11,40,45,50,55] [7,8] [b3=b3] rt1<|
 .lent 3<|.r 3<|.lop (lcR Tryz.prog 7) ((184,[.agg (fsyA f),aI (Qaq [(dirE f dir),(Qah s),(Qab (isB ((dirN f dir).l) s) 7),(Qab true 12),(Qab true 1)]),.clo 217 [.ptr 7 b4 0,.dptr (fsyA f),.dptr [aI dir],.dptr [aS s]]],some 62),.box b4 84 [aI f.next,aI n.kind,aI 1,aS n.text,.sl 2 false (n.l.map entA)]) (fun (_:Unit) σ=>(σ.put (some 62) (.tup [.agg [.sl 5 false ((if Qaq [(dirE f dir),(Qah s),(Qab (isB ((dirN f dir).l) s) 7),(Qab true 12),(Qab true 1)]=0 then addF f dir s (addN f n) else f).l.map nodA),aI ((if Qaq [(dirE f dir),(Qah s),(Qab (isB ((dirN f dir).l) s) 7),(Qab true 12),(Qab true 1)]=0 then addF f dir s (addN f n) else f).next)],aI (Qaq [(dirE f dir),(Qah s),(Qab (isB ((dirN f dir).l) s) 7),(Qab true 12),(Qab true 1)])])).setB 7 gone) (Qcn (args':=[.agg (fsyA f),aI (Qaq [(dirE f dir),(Qah s),(Qab (isB ((dirN f dir).l) s) 7),(Qab true 12),(Qab true 1)]),.clo 217 [.ptr 7 b4 0,.dptr (fsyA f),.dptr [aI dir],.dptr [aS s]]]) sr3 (Qeq (Qaq [(dirE f dir),(Qah s),(Qab (isB ((dirN f dir).l) s) 7),(Qab true 12),(Qab true 1)]) f dir s (addN f n) b4 okf hp hs ⟨okf.1,hx⟩)) fun _=>
 .run 4 [b5=b5] rt1<|
 .fin (x:=.tup [.agg [.sl 5 false ((if Qaq [(dirE f dir),(Qah s),(Qab (isB ((dirN f dir).l) s) 7),(Qab true 12),(Qab true 1)]=0 then addF f dir s (addN f n) else f).l.map nodA),aI ((if Qaq [(dirE f dir),(Qah s),(Qab (isB ((dirN f dir).l) s) 7),(Qab true 12),(Qab true 1)]=0 then addF f dir s (addN f n) else f).next)],aI (Qaq [(dirE f dir),(Qah s),(Qab (isB ((dirN f dir).l) s) 7),(Qab true 12),(Qab true 1)])]) (r:=.tup [.agg (fsyA (if Qak f dir s n=0 then addF f dir s (addN f n) else f)),aI (Qak f dir s n)]) [b5=b5] rt1 (by
  have e:Qak f dir s n=Qaq [(dirE f dir),(Qah s),(Qab (isB ((dirN f dir).l) s) 7),(Qab true 12),(Qab true 1)]:=by
   unfold Qak
   simp only [q1,q2,Bool.true_or,Bool.false_or,Bool.not_true,Bool.not_false]
  rw [e]
  exact sR))
 <| fun q2=>have q2:=notF q2;have p2:=booT q2;.run 3 [b4=b4] rt1<|
 .val 53 (show (aI ((n.l.map entA).length:Int):AV)=aI (n.l.length:Int) from by rw [List.length_map])<|.r 2<|.call (Qbm (decide ((n.l.length:Int)>0)) 1)<|
 .r 1<|.callS (args0:=[.sl 1 true ([[aI (dirE f dir)],[aI (Qah s)],[aI (Qab (isB ((dirN f dir).l) s) 7)],[aI (Qab true 12)],[aI (Qab (decide ((n.l.length:Int)>0)) 1)]])]) (args:=[.sl 1 false ([(dirE f dir),(Qah s),(Qab (isB ((dirN f dir).l) s) 7),(Qab true 12),(Qab (decide ((n.l.length:Int)>0)) 1)].map intA)]) ⟨Qg6 (dirE f dir) (Qah s) (Qab (isB ((dirN f dir).l) s) 7) (Qab true 12) (Qab (decide ((n.l.length:Int)>0)) 1),trivial⟩ (Qci [(dirE f dir),(Qah s),(Qab (isB ((dirN f dir).l) s) 7),(Qab true 12),(Qab (decide ((n.l.length:Int)>0)) 1)] (by simp))<|
 .r 1<|.frz 4 [4,5,6,7,8,9,11,40,45,50] [5,6,7,8] [b1=b1] rt1<|
 .frz 5 [4,5,6,7,8,9,11,40,45,50] [6,7,8] [b2=b2] rt1<|
 .frz 6 [4,5,6,7,8,9,11,40,45,50] [7,8] [b3=b3] rt1<|
 .lent 3<|.r 3<|.lop (lcR Tryz.prog 7) ((184,[.agg (fsyA f),aI (Qaq [(dirE f dir),(Qah s),(Qab (isB ((dirN f dir).l) s) 7),(Qab true 12),(Qab (decide ((n.l.length:Int)>0)) 1)]),.clo 217 [.ptr 7 b4 0,.dptr (fsyA f),.dptr [aI dir],.dptr [aS s]]],some 62),.box b4 84 [aI f.next,aI n.kind,aI 1,aS n.text,.sl 2 false (n.l.map entA)]) (fun (_:Unit) σ=>(σ.put (some 62) (.tup [.agg [.sl 5 false ((if Qaq [(dirE f dir),(Qah s),(Qab (isB ((dirN f dir).l) s) 7),(Qab true 12),(Qab (decide ((n.l.length:Int)>0)) 1)]=0 then addF f dir s (addN f n) else f).l.map nodA),aI ((if Qaq [(dirE f dir),(Qah s),(Qab (isB ((dirN f dir).l) s) 7),(Qab true 12),(Qab (decide ((n.l.length:Int)>0)) 1)]=0 then addF f dir s (addN f n) else f).next)],aI (Qaq [(dirE f dir),(Qah s),(Qab (isB ((dirN f dir).l) s) 7),(Qab true 12),(Qab (decide ((n.l.length:Int)>0)) 1)])])).setB 7 gone) (Qcn (args':=[.agg (fsyA f),aI (Qaq [(dirE f dir),(Qah s),(Qab (isB ((dirN f dir).l) s) 7),(Qab true 12),(Qab (decide ((n.l.length:Int)>0)) 1)]),.clo 217 [.ptr 7 b4 0,.dptr (fsyA f),.dptr [aI dir],.dptr [aS s]]]) sr3 (Qeq (Qaq [(dirE f dir),(Qah s),(Qab (isB ((dirN f dir).l) s) 7),(Qab true 12),(Qab (decide ((n.l.length:Int)>0)) 1)]) f dir s (addN f n) b4 okf hp hs ⟨okf.1,hx⟩)) fun _=>
 .run 4 [b5=b5] rt1<|
 .fin (x:=.tup [.agg [.sl 5 false ((if Qaq [(dirE f dir),(Qah s),(Qab (isB ((dirN f dir).l) s) 7),(Qab true 12),(Qab (decide ((n.l.length:Int)>0)) 1)]=0 then addF f dir s (addN f n) else f).l.map nodA),aI ((if Qaq [(dirE f dir),(Qah s),(Qab (isB ((dirN f dir).l) s) 7),(Qab true 12),(Qab (decide ((n.l.length:Int)>0)) 1)]=0 then addF f dir s (addN f n) else f).next)],aI (Qaq [(dirE f dir),(Qah s),(Qab (isB ((dirN f dir).l) s) 7),(Qab true 12),(Qab (decide ((n.l.length:Int)>0)) 1)])]) (r:=.tup [.agg (fsyA (if Qak f dir s n=0 then addF f dir s (addN f n) else f)),aI (Qak f dir s n)]) [b5=b5] rt1 (by
  have e:Qak f dir s n=Qaq [(dirE f dir),(Qah s),(Qab (isB ((dirN f dir).l) s) 7),(Qab true 12),(Qab (decide ((n.l.length:Int)>0)) 1)]:=by
   unfold Qak
   simp only [q1,q2,Bool.true_or,Bool.false_or,Bool.not_true,Bool.not_false]
  rw [e]
  exact sR))
 <| fun q1=>have p1:=decF q1;.run 3 [b6=b6] rt1<|
 .val 43 (show (aI (((dirN f dir).l.map entA).length:Int):AV)=aI (((dirN f dir).l).length:Int) from by rw [List.length_map])<|.r 2<|.call (Qbm (decide ((((dirN f dir).l).length:Int)≥256)) 12)<|
 .callS (args0:=[.agg [aI f.next,aI n.kind,aI 1,aS n.text,.sl 2 false (n.l.map entA)]]) (args:=[.agg [aI ((addN f n).ino),aI ((addN f n).kind),aI ((addN f n).links),aS ((addN f n).text),.sl 2 false ((addN f n).l.map entA)]]) sr1 (Qlj (addN f n) (Qpl okf okn))<|
 .r 2<|.br 50 (!(dP (nodP (addN f n)))) (fun q3=>have q3:=notT q3;have p3:=booF q3;.r 5<|.call (Qbm true 1)<|
 .r 1<|.callS (args0:=[.sl 1 true ([[aI (dirE f dir)],[aI (Qah s)],[aI (Qab (isB ((dirN f dir).l) s) 7)],[aI (Qab (decide ((((dirN f dir).l).length:Int)≥256)) 12)],[aI (Qab true 1)]])]) (args:=[.sl 1 false ([(dirE f dir),(Qah s),(Qab (isB ((dirN f dir).l) s) 7),(Qab (decide ((((dirN f dir).l).length:Int)≥256)) 12),(Qab true 1)].map intA)]) ⟨Qg6 (dirE f dir) (Qah s) (Qab (isB ((dirN f dir).l) s) 7) (Qab (decide ((((dirN f dir).l).length:Int)≥256)) 12) (Qab true 1),trivial⟩ (Qci [(dirE f dir),(Qah s),(Qab (isB ((dirN f dir).l) s) 7),(Qab (decide ((((dirN f dir).l).length:Int)≥256)) 12),(Qab true 1)] (by simp))<|
 .r 1<|.frz 4 [4,5,6,7,8,9,11,40,50,55] [5,6,7,8] [b1=b1] rt1<|
 .frz 5 [4,5,6,7,8,9,11,40,50,55] [6,7,8] [b2=b2] rt1<|
 .frz 6 [4,5,6,7,8,9,11,40,50,55] [7,8] [b3=b3] rt1<|
 .lent 3<|.r 3<|.lop (lcR Tryz.prog 7) ((184,[.agg (fsyA f),aI (Qaq [(dirE f dir),(Qah s),(Qab (isB ((dirN f dir).l) s) 7),(Qab (decide ((((dirN f dir).l).length:Int)≥256)) 12),(Qab true 1)]),.clo 217 [.ptr 7 b4 0,.dptr (fsyA f),.dptr [aI dir],.dptr [aS s]]],some 62),.box b4 84 [aI f.next,aI n.kind,aI 1,aS n.text,.sl 2 false (n.l.map entA)]) (fun (_:Unit) σ=>(σ.put (some 62) (.tup [.agg [.sl 5 false ((if Qaq [(dirE f dir),(Qah s),(Qab (isB ((dirN f dir).l) s) 7),(Qab (decide ((((dirN f dir).l).length:Int)≥256)) 12),(Qab true 1)]=0 then addF f dir s (addN f n) else f).l.map nodA),aI ((if Qaq [(dirE f dir),(Qah s),(Qab (isB ((dirN f dir).l) s) 7),(Qab (decide ((((dirN f dir).l).length:Int)≥256)) 12),(Qab true 1)]=0 then addF f dir s (addN f n) else f).next)],aI (Qaq [(dirE f dir),(Qah s),(Qab (isB ((dirN f dir).l) s) 7),(Qab (decide ((((dirN f dir).l).length:Int)≥256)) 12),(Qab true 1)])])).setB 7 gone) (Qcn (args':=[.agg (fsyA f),aI (Qaq [(dirE f dir),(Qah s),(Qab (isB ((dirN f dir).l) s) 7),(Qab (decide ((((dirN f dir).l).length:Int)≥256)) 12),(Qab true 1)]),.clo 217 [.ptr 7 b4 0,.dptr (fsyA f),.dptr [aI dir],.dptr [aS s]]]) sr3 (Qeq (Qaq [(dirE f dir),(Qah s),(Qab (isB ((dirN f dir).l) s) 7),(Qab (decide ((((dirN f dir).l).length:Int)≥256)) 12),(Qab true 1)]) f dir s (addN f n) b4 okf hp hs ⟨okf.1,hx⟩)) fun _=>
 .run 4 [b5=b5] rt1<|
 .fin (x:=.tup [.agg [.sl 5 false ((if Qaq [(dirE f dir),(Qah s),(Qab (isB ((dirN f dir).l) s) 7),(Qab (decide ((((dirN f dir).l).length:Int)≥256)) 12),(Qab true 1)]=0 then addF f dir s (addN f n) else f).l.map nodA),aI ((if Qaq [(dirE f dir),(Qah s),(Qab (isB ((dirN f dir).l) s) 7),(Qab (decide ((((dirN f dir).l).length:Int)≥256)) 12),(Qab true 1)]=0 then addF f dir s (addN f n) else f).next)],aI (Qaq [(dirE f dir),(Qah s),(Qab (isB ((dirN f dir).l) s) 7),(Qab (decide ((((dirN f dir).l).length:Int)≥256)) 12),(Qab true 1)])]) (r:=.tup [.agg (fsyA (if Qak f dir s n=0 then addF f dir s (addN f n) else f)),aI (Qak f dir s n)]) [b5=b5] rt1 (by
  have e:Qak f dir s n=Qaq [(dirE f dir),(Qah s),(Qab (isB ((dirN f dir).l) s) 7),(Qab (decide ((((dirN f dir).l).length:Int)≥256)) 12),(Qab true 1)]:=by
   unfold Qak
   simp only [q1,q3,Bool.true_or,Bool.false_or,Bool.not_true,Bool.not_false]
  rw [e]
  exact sR))
 <| fun q3=>have q3:=notF q3;have p3:=booT q3;.run 3 [b4=b4] rt1<|
 .val 53 (show (aI ((n.l.map entA).length:Int):AV)=aI (n.l.length:Int) from by rw [List.length_map])<|.r 2<|.call (Qbm (decide ((n.l.length:Int)>0)) 1)<|
 .r 1<|.callS (args0:=[.sl 1 true ([[aI (dirE f dir)],[aI (Qah s)],[aI (Qab (isB ((dirN f dir).l) s) 7)],[aI (Qab (decide ((((dirN f dir).l).length:Int)≥256)) 12)],[aI (Qab (decide ((n.l.length:Int)>0)) 1)]])]) (args:=[.sl 1 false ([(dirE f dir),(Qah s),(Qab (isB ((dirN f dir).l) s) 7),(Qab (decide ((((dirN f dir).l).length:Int)≥256)) 12),(Qab (decide ((n.l.length:Int)>0)) 1)].map intA)]) ⟨Qg6 (dirE f dir) (Qah s) (Qab (isB ((dirN f dir).l) s) 7) (Qab (decide ((((dirN f dir).l).length:Int)≥256)) 12) (Qab (decide ((n.l.length:Int)>0)) 1),trivial⟩ (Qci [(dirE f dir),(Qah s),(Qab (isB ((dirN f dir).l) s) 7),(Qab (decide ((((dirN f dir).l).length:Int)≥256)) 12),(Qab (decide ((n.l.length:Int)>0)) 1)] (by simp))<|
 .r 1<|.frz 4 [4,5,6,7,8,9,11,40,50] [5,6,7,8] [b1=b1] rt1<|
 .frz 5 [4,5,6,7,8,9,11,40,50] [6,7,8] [b2=b2] rt1<|
 .frz 6 [4,5,6,7,8,9,11,40,50] [7,8] [b3=b3] rt1<|
 .lent 3<|.r 3<|.lop (lcR Tryz.prog 7) ((184,[.agg (fsyA f),aI (Qaq [(dirE f dir),(Qah s),(Qab (isB ((dirN f dir).l) s) 7),(Qab (decide ((((dirN f dir).l).length:Int)≥256)) 12),(Qab (decide ((n.l.length:Int)>0)) 1)]),.clo 217 [.ptr 7 b4 0,.dptr (fsyA f),.dptr [aI dir],.dptr [aS s]]],some 62),.box b4 84 [aI f.next,aI n.kind,aI 1,aS n.text,.sl 2 false (n.l.map entA)]) (fun (_:Unit) σ=>(σ.put (some 62) (.tup [.agg [.sl 5 false ((if Qaq [(dirE f dir),(Qah s),(Qab (isB ((dirN f dir).l) s) 7),(Qab (decide ((((dirN f dir).l).length:Int)≥256)) 12),(Qab (decide ((n.l.length:Int)>0)) 1)]=0 then addF f dir s (addN f n) else f).l.map nodA),aI ((if Qaq [(dirE f dir),(Qah s),(Qab (isB ((dirN f dir).l) s) 7),(Qab (decide ((((dirN f dir).l).length:Int)≥256)) 12),(Qab (decide ((n.l.length:Int)>0)) 1)]=0 then addF f dir s (addN f n) else f).next)],aI (Qaq [(dirE f dir),(Qah s),(Qab (isB ((dirN f dir).l) s) 7),(Qab (decide ((((dirN f dir).l).length:Int)≥256)) 12),(Qab (decide ((n.l.length:Int)>0)) 1)])])).setB 7 gone) (Qcn (args':=[.agg (fsyA f),aI (Qaq [(dirE f dir),(Qah s),(Qab (isB ((dirN f dir).l) s) 7),(Qab (decide ((((dirN f dir).l).length:Int)≥256)) 12),(Qab (decide ((n.l.length:Int)>0)) 1)]),.clo 217 [.ptr 7 b4 0,.dptr (fsyA f),.dptr [aI dir],.dptr [aS s]]]) sr3 (Qeq (Qaq [(dirE f dir),(Qah s),(Qab (isB ((dirN f dir).l) s) 7),(Qab (decide ((((dirN f dir).l).length:Int)≥256)) 12),(Qab (decide ((n.l.length:Int)>0)) 1)]) f dir s (addN f n) b4 okf hp hs ⟨okf.1,hx⟩)) fun _=>
 .run 4 [b5=b5] rt1<|
 .fin (x:=.tup [.agg [.sl 5 false ((if Qaq [(dirE f dir),(Qah s),(Qab (isB ((dirN f dir).l) s) 7),(Qab (decide ((((dirN f dir).l).length:Int)≥256)) 12),(Qab (decide ((n.l.length:Int)>0)) 1)]=0 then addF f dir s (addN f n) else f).l.map nodA),aI ((if Qaq [(dirE f dir),(Qah s),(Qab (isB ((dirN f dir).l) s) 7),(Qab (decide ((((dirN f dir).l).length:Int)≥256)) 12),(Qab (decide ((n.l.length:Int)>0)) 1)]=0 then addF f dir s (addN f n) else f).next)],aI (Qaq [(dirE f dir),(Qah s),(Qab (isB ((dirN f dir).l) s) 7),(Qab (decide ((((dirN f dir).l).length:Int)≥256)) 12),(Qab (decide ((n.l.length:Int)>0)) 1)])]) (r:=.tup [.agg (fsyA (if Qak f dir s n=0 then addF f dir s (addN f n) else f)),aI (Qak f dir s n)]) [b5=b5] rt1 (by
  have e:Qak f dir s n=Qaq [(dirE f dir),(Qah s),(Qab (isB ((dirN f dir).l) s) 7),(Qab (decide ((((dirN f dir).l).length:Int)≥256)) 12),(Qab (decide ((n.l.length:Int)>0)) 1)]:=by
   unfold Qak
   simp only [q1,q3,Bool.true_or,Bool.false_or,Bool.not_true,Bool.not_false]
  rw [e]
  exact sR)) Tryz.func179 rfl (by kernel_rfl) (by kernel_rfl)
def Qhh:Nod:=⟨1,2,0,[],[]⟩
def newF:Fsy:=⟨[Qhh],2⟩
theorem Qt2 {k:Nat} {t:Bool} {e e':List AV} (h:Qdh e e'):Sub (.sl k t [e]) (.sl k false [e']):=
 (Sub.sl2 (t:=t) (xs:=[e]) (ys:=[e']) rfl (fun i a b ha hb=>by
  match i,ha,hb with
  | 0,ha,hb=>simp at ha hb;rw [← ha,← hb];exact h
  | i+1,ha,_=>simp at ha)).trans (Sub.loose _ _ _)
theorem Qt6:OkN Qhh:=⟨⟨by decide,by decide⟩,⟨by decide,by decide⟩,⟨by decide,by decide⟩,by show (0:Nat)≤_;omega,by show (0:Nat)≤_;omega,fun e h=>by cases h⟩
theorem Qos:OkF newF:=⟨⟨by decide,by decide⟩,by show (1:Nat)≤_;omega,fun n h=>by obtain rfl:=List.mem_singleton.1 h;exact Qt6⟩
theorem Qz2:Qbs newF.l:=by simp [newF,Qbs,Qxl]
theorem Qen:Qal newF:=Qbj.2 ⟨by decide,by decide,fun n h=>by
 obtain rfl:=List.mem_singleton.1 h
 exact ⟨⟨by decide,by decide,by decide,.inl ⟨rfl,rfl,Qb8⟩⟩,by decide⟩,Qz2⟩
theorem Zib {k:Nat} {x:Nod} (h:newF.l[k]?=some x):x=Qhh:=by
 have:=List.mem_of_getElem? h
 exact List.mem_singleton.1 this
theorem Zed:newF.l.length=1:=rfl
def Qcc (n:Nod):Bool:=n.kind==2&&decide ((n.l.length:Int)>0)
theorem Ql3 (n:Nod) (hl:n.l.length≤8796093022207):Qaj Tryz.prog 218 [.agg (nodA n)] (aB (Qcc n)):=by
 exact Qac (F:=Tryz.f218) 400 (
 .new fun b1=>.r 1<|.run 4 [b1=b1] rt1<|
 .br 6 (n.kind==2) (fun q1=>have p1:=beqT q1;.run 3 [b1=b1] rt1<|
 .val 9 (show (aI ((n.l.map entA).length:Int):AV)=aI (n.l.length:Int) from by rw [List.length_map])<|.r 3<|.fin (x:=aB (decide ((n.l.length:Int)>0))) (r:=aB (Qcc n)) [] trivial (by exact Sub.of_eq (congrArg aB (by unfold Qcc;simp_all))))
 <| fun q1=>have p1:=beqF q1;.r 6<|.fin (x:=aB false) (r:=aB (Qcc n)) [] trivial (by exact Sub.of_eq (congrArg aB (by unfold Qcc;simp_all)))) Tryz.func218 rfl (by kernel_rfl) (by kernel_rfl)
theorem Qyv :Qaj Tryz.prog 78 [] (.agg (fsyA newF)):=by
 exact Qac (F:=Tryz.f78) 400 (
 .new fun b1=>.run 4 [b1=b1] rt1<|
 .fin (x:=.agg [.sl 5 true ([[aI 1,aI 2,aI 0,aS ([]),aN]]),aI 2]) (r:=.agg (fsyA newF)) [b1=b1] rt1 (by exact Sub.aggs ⟨Qt2 ⟨sR,sR,sR,sR,Sub.nil _ _,trivial⟩,sR,trivial⟩)) Tryz.func78 rfl (by kernel_rfl) (by kernel_rfl)
end Go.Proofs.YtahlldgocpabjaaGreat

namespace Go.Proofs.YtahlldgocpabjaaGreat
open Go Go.RowKit Copyhold
open Copyhold.Name (Srt insE delE getE isAt)
def atF (f:Fsy) (i:Int):Option Nod:=f.l.find? (isNo i)
theorem at_B (f:Fsy) (i:Int):Qar f i=(atF f i).isSome:=Qu8 f i
theorem at_N (f:Fsy) (i:Int):Qaa f i=(atF f i).getD nod0:=rfl
theorem Qcy {f:Fsy} {i:Int} {n:Nod} (h:atF f i=some n):n.ino=i:=by simpa [isNo] using List.find?_some h
theorem Qdg {f:Fsy} {i:Int} {n:Nod} (h:atF f i=some n):n∈f.l:=List.mem_of_find?_eq_some h
theorem Qtp {f:Fsy} {n:Nod} (hr:Qbs f.l) (h:n∈f.l):atF f n.ino=some n:=Ql7 hr h rfl
theorem Qfo {f:Fsy} {i:Int} {n:Nod} (h:atF f i=some n):Qar f i=true∧Qaa f i=n:=⟨by rw [at_B,h];rfl,by rw [at_N,h];rfl⟩
theorem Qtq {f:Fsy} {i:Int} (h:atF f i=none):Qar f i=false∧Qaa f i=nod0:=⟨by rw [at_B,h];rfl,by rw [at_N,h];rfl⟩
theorem Qe8 {f:Fsy} {i:Int} (h:Qar f i=true):atF f i=some (Qaa f i):=by
 rw [at_B] at h
 cases hc:atF f i with
 | none=>rw [hc] at h;cases h
 | some n=>rw [at_N,hc];rfl
theorem Qgr {f:Fsy} {i:Int} (h:Qar f i=false):atF f i=none:=by
 rw [at_B] at h
 cases hc:atF f i with
 | none=>rfl
 | some n=>rw [hc] at h;cases h
theorem Zgk {a b:Option Nod} {i:Int} (ha:∀ n,a=some n→n.ino=i) (h1:a.isSome=b.isSome) (h2:a.getD nod0=b.getD nod0):a=b:=by
 cases a<;>cases b<;>simp_all
theorem Qmm {f:Fsy} {n:Nod} {j:Int} (hr:Qbs f.l):atF (putF f n) j=if j=n.ino then some n else atF f j:=by
 by_cases hj:j=n.ino
 ·rw [if_pos hj,hj]
  obtain ⟨h1,h2⟩:=Qpa (n:=n) hr
  rw [Qe8 h1,h2]
 ·rw [if_neg hj]
  obtain ⟨h1,h2⟩:=Qmw (n:=n) hr hj
  exact Zgk (i:=j) (fun n=>Qcy) (by rw [← at_B,← at_B,h1]) (by rw [← at_N,← at_N,h2])
theorem Qvn {f:Fsy} {i j:Int} (hr:Qbs f.l):atF (outF f i) j=if j=i then none else atF f j:=by
 obtain ⟨h1,h2⟩:=Ze2 (i:=i) (j:=j) hr
 by_cases hj:j=i
 ·rw [if_pos hj];rw [if_pos hj] at h1;exact Qgr h1
 ·rw [if_neg hj];rw [if_neg hj] at h1 h2
  exact Zgk (i:=j) (fun n=>Qcy) (by rw [← at_B,← at_B,h1]) (by rw [← at_N,← at_N,h2])
theorem Qkk:∀ {a b:List Nod},Qbs a→Qbs b→(∀ x,x∈a↔x∈b)→a=b
 | [],[],_,_,_=>rfl
 | [],y :: s,_,_,h=>absurd ((h y).2 (by simp)) (by simp)
 | x :: r,[],_,_,h=>absurd ((h x).1 (by simp)) (by simp)
 | x :: r,y :: s,ha,hb,h=>by
  obtain ⟨ha1,ha2⟩:=List.pairwise_cons.1 ha
  obtain ⟨hb1,hb2⟩:=List.pairwise_cons.1 hb
  have e:x=y:=by
   rcases List.mem_cons.1 ((h x).1 (by simp)) with e | e
   ·exact e
   ·rcases List.mem_cons.1 ((h y).2 (by simp)) with e2 | e2
    ·exact e2.symm
    ·have g1:y.ino<x.ino:=hb1 x e
     have g2:x.ino<y.ino:=ha1 y e2
     omega
  subst e
  rw [Qkk ha2 hb2 fun z=>⟨fun hz=>?_,fun hz=>?_⟩]
  ·rcases List.mem_cons.1 ((h z).1 (by simp [hz])) with e | e
   ·subst e;have g:z.ino<z.ino:=ha1 z hz;omega
   ·exact e
  ·rcases List.mem_cons.1 ((h z).2 (by simp [hz])) with e | e
   ·subst e;have g:z.ino<z.ino:=hb1 z hz;omega
   ·exact e
theorem Qs4 {f g:Fsy} (hf:Qbs f.l) (hg:Qbs g.l) (h:∀ i,atF f i=atF g i) (hn:f.next=g.next):f=g:=by
 have e:f.l=g.l:=Qkk hf hg fun x=>⟨fun hx=>by
  have:=Qtp hf hx;rw [h] at this;exact Qdg this,fun hx=>by
  have:=Qtp hg hx;rw [← h] at this;exact Qdg this⟩
 cases f;cases g;simp_all
theorem Qbn {f:Fsy} (h:Qal f) {i:Int} {n:Nod} (hn:atF f i=some n):nodP n∧n.ino<f.next∧n.ino=i:=by
 have:=(Qbj.1 h).2.2.1 n (Qdg hn)
 exact ⟨this.1,this.2,Qcy hn⟩
theorem Zdx {l:List Nod} {n:Nod} (h:thN l n.ino=true):(putN l n).length=l.length:=by
 have:=Qfh h
 unfold putN
 rw [if_pos h]
 simp only [List.length_append,List.length_cons,List.length_take,List.length_drop]
 omega
theorem Qsn {f:Fsy} {n:Nod} (hr:Qbs f.l) (h:Qar f n.ino=true):(putF f n).l.length=f.l.length:=Zdx (by rw [Ze3 hr] at h;exact h)
theorem Qkm {f:Fsy} {n:Nod} (h:n.ino<f.next):(putF f n).next=f.next:=by
 show (if n.ino+1>f.next then n.ino+1 else f.next)=f.next
 rw [if_neg (by omega)]
theorem Qld {f:Fsy} {n:Nod} (h:n.ino=f.next):(putF f n).next=f.next+1:=by
 show (if n.ino+1>f.next then n.ino+1 else f.next)=_
 rw [if_pos (by omega),h]
theorem Qqa {f:Fsy} {n:Nod} (h:Qal f) (hn:nodP n) (hb:Qar f n.ino=true):Qal (putF f n):=by
 obtain ⟨h1,h2,h3,h4⟩:=Qbj.1 h
 have hnx:f.next≤(putF f n).next∧n.ino+1≤(putF f n).next:=by
  show f.next≤(if n.ino+1>f.next then n.ino+1 else f.next)∧n.ino+1≤(if n.ino+1>f.next then n.ino+1 else f.next)
  split<;>omega
 refine Qbj.2 ⟨by rw [Qsn h4 hb];exact h1,by omega,fun x hx=>?_,Qg2 h4⟩
 rcases Qsx hx with rfl | hx
 ·exact ⟨hn,by omega⟩
 ·have:=h3 x hx
  exact ⟨this.1,by omega⟩
theorem Zal {a b:List Ent} (h:lI a=lI b):a=b:=by rw [← lI_O a,← lI_O b,h]
theorem Zak (l:List Ent):(lI l).length=l.length:=by simp [lI]
noncomputable def delL (l:List Ent) (s:Txt):List Ent:=if isB l s=true then l.take (posI l s)++l.drop (posI l s+1) else l
def Qf8 (l:List Ent) (s:Txt):Int:=if isB l s=true then 0 else 6
theorem Qut {l:List Ent} (h:Srt (lI l)) (s:Txt):lI (delL l s)=delE (lI l) s:=by
 unfold delL
 split
 ·rename_i hi
  rw [← Name.take_del h hi]
  simp [lI,posI,List.map_take,List.map_drop]
 ·rename_i hi
  exact (Name.del_none (by simpa [isB] using hi)).symm
theorem Qdf {l:List Ent} {s:Txt} {n:Int} (h:Qah s=0) (hn:1≤n) (hi:isB l s=false) (hl:l.length<256):entE l s n=0:=by
 unfold entE
 rw [if_neg (by rw [h];decide),if_neg (by omega),if_neg (by rw [hi];decide),if_neg (by omega)]
theorem Qqq {l:List Ent} {s:Txt} {n:Int} (h:Srt (lI l)) (he:entE l s n=0):lI (entL l s n)=insE (lI l) (s,n):=by
 unfold entL
 rw [if_pos he,← Name.take_ins h]
 simp [lI,posI,List.map_take,List.map_drop]
theorem Zbx {l:List Ent} {s:Txt} {n:Int} (h:Srt (lI l)) (he:entE l s n=0) (hi:isB l s=false):delL (entL l s n) s=l:=by
 have hs:Srt (lI (entL l s n)):=by rw [Qqq h he];exact Name.srt_ins h hi
 apply Zal
 rw [Qut hs,Qqq h he,Name.del_ins hi]
theorem Qo4 {l:List Ent} {s t:Txt} {n:Int} (h:Srt (lI l)) (he:entE l s n=0) (hi:isB l s=false):getE (lI (entL l s n)) t=if t=s then some n else getE (lI l) t:=by
 rw [Qqq h he,Name.get_ins hi]
theorem get_del {l:List Ent} {s t:Txt} (h:Srt (lI l)):getE (lI (delL l s)) t=if t=s then none else getE (lI l) t:=by
 rw [Qut h,Name.get_del]
theorem Qe6 (l:List Ent) (s:Txt):isB l s=(getE (lI l) s).isSome:=Name.get_some
theorem Qew (l:List Ent) (s:Txt):getI l s=(getE (lI l) s).getD 0:=rfl
theorem Qg0 {l:List Ent}:Name.rightE (lI l)=true↔rowP l:=by rw [Qt5,lI_O]
theorem Qpc {l:List Ent} {s:Txt} {n:Int} (h:rowP l) (hc:Qah s=0) (hn:1≤n) (hi:isB l s=false) (hl:l.length<256):rowP (entL l s n):=by
 rw [← Qg0,Qqq (Qcs h) (Qdf hc hn hi hl)]
 exact Name.right_ins (Qg0.2 h) (Qjn.2 (Qcj.1 hc)) hn hi (by rw [Zak];exact hl)
theorem Zbv {l:List Ent} {s:Txt} (h:rowP l):rowP (delL l s):=by
 have h2:=Qg0.2 h
 rw [← Qg0,Qut (Qcs h)]
 obtain ⟨h3,h4,h5⟩:=(Name.rightE_iff _).1 h2
 exact (Name.rightE_iff _).2 ⟨Nat.le_trans (List.length_filter_le _ _) h3,fun x hx=>h4 x (List.mem_filter.1 hx).1,Name.srt_del h5 s⟩
theorem Ql9 {l:List Ent} {s:Txt} {n:Int}:(entL l s n).length≤l.length+1:=by
 unfold entL
 split
 ·simp only [List.length_append,List.length_cons,List.length_take,List.length_drop];omega
 ·omega
theorem Qtc {l:List Ent} {s:Txt}:(delL l s).length≤l.length:=by
 unfold delL
 split
 ·simp only [List.length_append,List.length_take,List.length_drop];omega
 ·omega
theorem Qvo {f:Fsy} {i:Int} (h:dirE f i=0):∃ d,atF f i=some d∧d.kind=2∧dirN f i=d∧Qaa f i=d∧Qar f i=true:=by
 unfold dirE at h
 split at h
 ·rename_i hb
  split at h
  ·rename_i hk
   exact ⟨Qaa f i,Qe8 hb,hk,(Qvd hb hk).2,rfl,hb⟩
  ·cases h
 ·cases h
theorem Qq9 {f:Fsy} {i:Int} {d:Nod} (h:atF f i=some d) (hk:d.kind=2):dirE f i=0∧dirN f i=d:=by
 obtain ⟨h1,h2⟩:=Qfo h
 have:=Qvd h1 (by rw [h2];exact hk)
 rw [h2] at this
 exact this
theorem Qc3 {n:Nod} (h:nodP n) (hk:n.kind=2):n.text=[]∧rowP n.l:=by
 rcases h.2.2.2 with ⟨_,h1,h2⟩ | ⟨h1,_⟩
 ·exact ⟨h1,h2⟩
 ·omega
theorem Qfn {n:Nod} (h:nodP n) (hk:¬ n.kind=2):n.l=[]:=by
 rcases h.2.2.2 with ⟨h1,_⟩ | ⟨_,_,h1⟩
 ·exact absurd h1 hk
 ·exact h1
theorem Qin {f:Fsy} {i:Int} {s:Txt} (hp:Qal f):Qaz f i s=0↔∃ d j n,atF f i=some d∧d.kind=2∧Qah s=0∧getE (lI d.l) s=some j∧atF f j=some n:=by
 constructor
 ·intro h
  unfold Qaz at h
  rw [Qhj] at h
  split at h
  ·rename_i h1
   split at h
   ·rename_i h2
    obtain ⟨d,g1,g2,g3,g4⟩:=Qvo h1
    cases hb:Qar f (Qe4 f i s) with
    | false=>rw [hb] at h;cases h
    | true=>
     have hl:=Qe8 hb
     unfold Qe4 at hl
     rw [g3,Qew] at hl
     cases hg:getE (lI d.l) s with
     | none=>rw [hg] at hl;rw [show (none:Option Int).getD 0=0 from rfl,Qgr (Zbg hp)] at hl;cases hl
     | some j=>rw [hg] at hl;exact ⟨d,j,_,g1,g2,h2,hg,hl⟩
   ·exact absurd h (by assumption)
  ·exact absurd h (by assumption)
 ·rintro ⟨d,j,n,h1,h2,h3,h4,h5⟩
  obtain ⟨g1,g2⟩:=Qq9 h1 h2
  unfold Qaz
  rw [Qhj,if_pos g1,if_pos h3]
  have:Qar f (Qe4 f i s)=true:=by unfold Qe4;rw [g2,Qew,h4];exact (Qfo h5).1
  rw [this]
  rfl
theorem Qe3 {f:Fsy} {i:Int} {s:Txt} {d n:Nod} {j:Int} (h1:atF f i=some d) (h2:d.kind=2) (h3:Qah s=0) (h4:getE (lI d.l) s=some j) (h5:atF f j=some n):Qaz f i s=0∧lookN f i s=n:=by
 obtain ⟨g1,g2⟩:=Qq9 h1 h2
 have hi:Qe4 f i s=j:=by unfold Qe4;rw [g2,Qew,h4];rfl
 have he:Qaz f i s=0:=by
  unfold Qaz
  rw [Qhj,if_pos g1,if_pos h3,hi,(Qfo h5).1]
  rfl
 exact ⟨he,by rw [Qov he,hi,(Qfo h5).2]⟩
theorem Qlq {f:Fsy} {i:Int} {s:Txt} {d:Nod} (hp:Qal f) (h1:atF f i=some d) (h2:d.kind=2) (h3:Qah s=0) (h4:getE (lI d.l) s=none):Qaz f i s=6:=by
 obtain ⟨g1,g2⟩:=Qq9 h1 h2
 have hi:Qe4 f i s=0:=by unfold Qe4;rw [g2,Qew,h4];rfl
 unfold Qaz
 rw [Qhj,if_pos g1,if_pos h3,hi,Zbg hp]
 rfl
end Go.Proofs.YtahlldgocpabjaaGreat
