import Derived.Test.YtahlldgocpabjaaGreatMrgQ
set_option maxRecDepth 100000
set_option maxHeartbeats 8000000
set_option linter.unusedVariables false
set_option linter.unusedSimpArgs false
namespace Go.Proofs.YtahlldgocpabjaaGreat
open Go Go.RowKit Copyhold Go.Proofs.Tryz
theorem Qhs {t:Bool} (a b c d e:Int):Sub (.sl 1 t [[aI a],[aI b],[aI c],[aI d],[aI e]]) (.sl 1 false ([a,b,c,d,e].map intA)):=Sub.loose _ _ _
def addN (f:Fsy) (n:Nod):Nod:=⟨f.next,n.kind,1,n.text,n.l⟩
noncomputable def Qaq (f:Fsy) (d:Int) (s:Txt) (n:Nod):Int:=Qat [dirE f d,Qah s,Qae (isB (dirN f d).l s) 7,Qae (decide ((f.l.length:Int)≥256)||decide (((dirN f d).l.length:Int)≥256)) 12,Qae ((!(dP (nodP (addN f n))))||decide ((n.l.length:Int)>0)) 1]
theorem Qq1 {f:Fsy} {n:Nod} (okf:OkF f) (okn:OkN n):OkN (addN f n):=⟨okf.1,okn.2.1,⟨by show (_:Int)≤1;omega,by show (1:Int)≤_;omega⟩,okn.2.2.2.1,okn.2.2.2.2.1,okn.2.2.2.2.2⟩
theorem Zi8 (f:Fsy) (dir:Int) (s:Txt) (n:Nod) (okf:OkF f) (hp:Qam f) (hs:s.length≤1000000) (okn:OkN n) (hx:f.next<9223372036854775807):Qaf prog 179 [.agg (fsyA f),aI dir,aS s,.agg (nodA n)] (.tup [.agg (fsyA (if Qaq f dir s n=0 then addF f dir s (addN f n) else f)),aI (Qaq f dir s n)]):=by
 have hl:=hp.1;have hr:=Qad hp;exact Qac func179 (
 .new fun b1=>.new fun b2=>.new fun b3=>.new fun b4=>.new fun b5=>.r 1<|.u 2 [b1,b2]<|
 .call (Qhx f dir hp)<|
 .r 3<|.new fun b6=>.u 2 [b6]<|
 .u 3 [b6,b3]<|
 .call (Qfv ((dirN f dir).l) s (by have:=(Qc5 hp dir).2;omega) (Qc5 hp dir).1)<|
 .r 5<|.u 6 [b1,b4,b4]<|
 .ord [0,1,3,5,6,7,8,16,2,4,9,10,11,12,13,14,15,17,18,19,20,21,22,23,24,25,26,27,28]<|.u 6 [b3,b1]<|
 .lm 38 f.l nodA<|.u 2 [b4]<|
 .call (Qen s (by omega))<|
 .call (Qbl (isB ((dirN f dir).l) s) 7)<|
 .r 1<|.br 40 (decide ((f.l.length:Int)≥256)) (fun q1=>have p1:=decT q1;.r 5<|.call (Qbl true 12)<|
 .cs (args0:=[.agg [aI f.next,aI n.kind,aI 1,aS n.text,.sl 2 false (n.l.map entA)]]) (Qih (addN f n) (Qq1 okf okn)) sr1<|
 .r 2<|.br 50 (!(dP (nodP (addN f n)))) (fun q2=>have q2:=notT q2;have p2:=booF q2;.r 5<|.call (Qbl true 1)<|
 .r 1<|.cs (args0:=[.sl 1 true ([[aI (dirE f dir)],[aI (Qah s)],[aI (Qae (isB ((dirN f dir).l) s) 7)],[aI (Qae true 12)],[aI (Qae true 1)]])]) (Qcc [(dirE f dir),(Qah s),(Qae (isB ((dirN f dir).l) s) 7),(Qae true 12),(Qae true 1)] (by simp)) ⟨Qhs (dirE f dir) (Qah s) (Qae (isB ((dirN f dir).l) s) 7) (Qae true 12) (Qae true 1),trivial⟩<|
 .r 1<|.frz 4 [4,5,6,7,8,9,11,40,45,50,55] [5,6,7,8] [b1=b1] rt1<|
 .frz 5 [4,5,6,7,8,9,11,40,45,50,55] [6,7,8] [b2=b2] rt1<|
 .frz 6 [4,5,6,7,8,9,11,40,45,50,55] [7,8] [b3=b3] rt1<|
 .lent 3<|.r 3<|.lop (lcR prog 7) ((184,[.agg (fsyA f),aI (Qat [(dirE f dir),(Qah s),(Qae (isB ((dirN f dir).l) s) 7),(Qae true 12),(Qae true 1)]),.clo 217 [.ptr 7 b4 0,.dptr (fsyA f),.dptr [aI dir],.dptr [aS s]]],some 62),.box b4 84 [aI f.next,aI n.kind,aI 1,aS n.text,.sl 2 false (n.l.map entA)]) (fun (_:Unit) σ=>(σ.put (some 62) (.tup [.agg [.sl 5 false ((if Qat [(dirE f dir),(Qah s),(Qae (isB ((dirN f dir).l) s) 7),(Qae true 12),(Qae true 1)]=0 then addF f dir s (addN f n) else f).l.map nodA),aI ((if Qat [(dirE f dir),(Qah s),(Qae (isB ((dirN f dir).l) s) 7),(Qae true 12),(Qae true 1)]=0 then addF f dir s (addN f n) else f).next)],aI (Qat [(dirE f dir),(Qah s),(Qae (isB ((dirN f dir).l) s) 7),(Qae true 12),(Qae true 1)])])).setB 7 gone) (Qci (args':=[.agg (fsyA f),aI (Qat [(dirE f dir),(Qah s),(Qae (isB ((dirN f dir).l) s) 7),(Qae true 12),(Qae true 1)]),.clo 217 [.ptr 7 b4 0,.dptr (fsyA f),.dptr [aI dir],.dptr [aS s]]]) sr3 (Qe2 (Qat [(dirE f dir),(Qah s),(Qae (isB ((dirN f dir).l) s) 7),(Qae true 12),(Qae true 1)]) f dir s (addN f n) b4 okf hp hs ⟨okf.1,hx⟩)) fun _=>
 .u 4 [b5]<|
 .f (.tup [.agg (fsyA (if Qaq f dir s n=0 then addF f dir s (addN f n) else f)),aI (Qaq f dir s n)]) [b5] (.tup [.agg [.sl 5 false ((if Qat [(dirE f dir),(Qah s),(Qae (isB ((dirN f dir).l) s) 7),(Qae true 12),(Qae true 1)]=0 then addF f dir s (addN f n) else f).l.map nodA),aI ((if Qat [(dirE f dir),(Qah s),(Qae (isB ((dirN f dir).l) s) 7),(Qae true 12),(Qae true 1)]=0 then addF f dir s (addN f n) else f).next)],aI (Qat [(dirE f dir),(Qah s),(Qae (isB ((dirN f dir).l) s) 7),(Qae true 12),(Qae true 1)])]) (by
  have e:Qaq f dir s n=Qat [(dirE f dir),(Qah s),(Qae (isB ((dirN f dir).l) s) 7),(Qae true 12),(Qae true 1)]:=by
   unfold Qaq;simp only [q1,q2,Bool.true_or,Bool.false_or,Bool.not_true,Bool.not_false]
  rw [e];exact sR))
 <| fun q2=>have q2:=notF q2;have p2:=booT q2;.u 3 [b4]<|
 .lm 53 n.l entA<|.r 2<|.call (Qbl (decide ((n.l.length:Int)>0)) 1)<|
 .r 1<|.cs (args0:=[.sl 1 true ([[aI (dirE f dir)],[aI (Qah s)],[aI (Qae (isB ((dirN f dir).l) s) 7)],[aI (Qae true 12)],[aI (Qae (decide ((n.l.length:Int)>0)) 1)]])]) (Qcc [(dirE f dir),(Qah s),(Qae (isB ((dirN f dir).l) s) 7),(Qae true 12),(Qae (decide ((n.l.length:Int)>0)) 1)] (by simp)) ⟨Qhs (dirE f dir) (Qah s) (Qae (isB ((dirN f dir).l) s) 7) (Qae true 12) (Qae (decide ((n.l.length:Int)>0)) 1),trivial⟩<|
 .r 1<|.frz 4 [4,5,6,7,8,9,11,40,45,50] [5,6,7,8] [b1=b1] rt1<|
 .frz 5 [4,5,6,7,8,9,11,40,45,50] [6,7,8] [b2=b2] rt1<|
 .frz 6 [4,5,6,7,8,9,11,40,45,50] [7,8] [b3=b3] rt1<|
 .lent 3<|.r 3<|.lop (lcR prog 7) ((184,[.agg (fsyA f),aI (Qat [(dirE f dir),(Qah s),(Qae (isB ((dirN f dir).l) s) 7),(Qae true 12),(Qae (decide ((n.l.length:Int)>0)) 1)]),.clo 217 [.ptr 7 b4 0,.dptr (fsyA f),.dptr [aI dir],.dptr [aS s]]],some 62),.box b4 84 [aI f.next,aI n.kind,aI 1,aS n.text,.sl 2 false (n.l.map entA)]) (fun (_:Unit) σ=>(σ.put (some 62) (.tup [.agg [.sl 5 false ((if Qat [(dirE f dir),(Qah s),(Qae (isB ((dirN f dir).l) s) 7),(Qae true 12),(Qae (decide ((n.l.length:Int)>0)) 1)]=0 then addF f dir s (addN f n) else f).l.map nodA),aI ((if Qat [(dirE f dir),(Qah s),(Qae (isB ((dirN f dir).l) s) 7),(Qae true 12),(Qae (decide ((n.l.length:Int)>0)) 1)]=0 then addF f dir s (addN f n) else f).next)],aI (Qat [(dirE f dir),(Qah s),(Qae (isB ((dirN f dir).l) s) 7),(Qae true 12),(Qae (decide ((n.l.length:Int)>0)) 1)])])).setB 7 gone) (Qci (args':=[.agg (fsyA f),aI (Qat [(dirE f dir),(Qah s),(Qae (isB ((dirN f dir).l) s) 7),(Qae true 12),(Qae (decide ((n.l.length:Int)>0)) 1)]),.clo 217 [.ptr 7 b4 0,.dptr (fsyA f),.dptr [aI dir],.dptr [aS s]]]) sr3 (Qe2 (Qat [(dirE f dir),(Qah s),(Qae (isB ((dirN f dir).l) s) 7),(Qae true 12),(Qae (decide ((n.l.length:Int)>0)) 1)]) f dir s (addN f n) b4 okf hp hs ⟨okf.1,hx⟩)) fun _=>
 .u 4 [b5]<|
 .f (.tup [.agg (fsyA (if Qaq f dir s n=0 then addF f dir s (addN f n) else f)),aI (Qaq f dir s n)]) [b5] (.tup [.agg [.sl 5 false ((if Qat [(dirE f dir),(Qah s),(Qae (isB ((dirN f dir).l) s) 7),(Qae true 12),(Qae (decide ((n.l.length:Int)>0)) 1)]=0 then addF f dir s (addN f n) else f).l.map nodA),aI ((if Qat [(dirE f dir),(Qah s),(Qae (isB ((dirN f dir).l) s) 7),(Qae true 12),(Qae (decide ((n.l.length:Int)>0)) 1)]=0 then addF f dir s (addN f n) else f).next)],aI (Qat [(dirE f dir),(Qah s),(Qae (isB ((dirN f dir).l) s) 7),(Qae true 12),(Qae (decide ((n.l.length:Int)>0)) 1)])]) (by
  have e:Qaq f dir s n=Qat [(dirE f dir),(Qah s),(Qae (isB ((dirN f dir).l) s) 7),(Qae true 12),(Qae (decide ((n.l.length:Int)>0)) 1)]:=by
   unfold Qaq;simp only [q1,q2,Bool.true_or,Bool.false_or,Bool.not_true,Bool.not_false]
  rw [e];exact sR))
 <| fun q1=>have p1:=decF q1;.u 3 [b6]<|
 .lm 43 ((dirN f dir).l) entA<|.r 2<|.call (Qbl (decide ((((dirN f dir).l).length:Int)≥256)) 12)<|
 .cs (args0:=[.agg [aI f.next,aI n.kind,aI 1,aS n.text,.sl 2 false (n.l.map entA)]]) (Qih (addN f n) (Qq1 okf okn)) sr1<|
 .r 2<|.br 50 (!(dP (nodP (addN f n)))) (fun q3=>have q3:=notT q3;have p3:=booF q3;.r 5<|.call (Qbl true 1)<|
 .r 1<|.cs (args0:=[.sl 1 true ([[aI (dirE f dir)],[aI (Qah s)],[aI (Qae (isB ((dirN f dir).l) s) 7)],[aI (Qae (decide ((((dirN f dir).l).length:Int)≥256)) 12)],[aI (Qae true 1)]])]) (Qcc [(dirE f dir),(Qah s),(Qae (isB ((dirN f dir).l) s) 7),(Qae (decide ((((dirN f dir).l).length:Int)≥256)) 12),(Qae true 1)] (by simp)) ⟨Qhs (dirE f dir) (Qah s) (Qae (isB ((dirN f dir).l) s) 7) (Qae (decide ((((dirN f dir).l).length:Int)≥256)) 12) (Qae true 1),trivial⟩<|
 .r 1<|.frz 4 [4,5,6,7,8,9,11,40,50,55] [5,6,7,8] [b1=b1] rt1<|
 .frz 5 [4,5,6,7,8,9,11,40,50,55] [6,7,8] [b2=b2] rt1<|
 .frz 6 [4,5,6,7,8,9,11,40,50,55] [7,8] [b3=b3] rt1<|
 .lent 3<|.r 3<|.lop (lcR prog 7) ((184,[.agg (fsyA f),aI (Qat [(dirE f dir),(Qah s),(Qae (isB ((dirN f dir).l) s) 7),(Qae (decide ((((dirN f dir).l).length:Int)≥256)) 12),(Qae true 1)]),.clo 217 [.ptr 7 b4 0,.dptr (fsyA f),.dptr [aI dir],.dptr [aS s]]],some 62),.box b4 84 [aI f.next,aI n.kind,aI 1,aS n.text,.sl 2 false (n.l.map entA)]) (fun (_:Unit) σ=>(σ.put (some 62) (.tup [.agg [.sl 5 false ((if Qat [(dirE f dir),(Qah s),(Qae (isB ((dirN f dir).l) s) 7),(Qae (decide ((((dirN f dir).l).length:Int)≥256)) 12),(Qae true 1)]=0 then addF f dir s (addN f n) else f).l.map nodA),aI ((if Qat [(dirE f dir),(Qah s),(Qae (isB ((dirN f dir).l) s) 7),(Qae (decide ((((dirN f dir).l).length:Int)≥256)) 12),(Qae true 1)]=0 then addF f dir s (addN f n) else f).next)],aI (Qat [(dirE f dir),(Qah s),(Qae (isB ((dirN f dir).l) s) 7),(Qae (decide ((((dirN f dir).l).length:Int)≥256)) 12),(Qae true 1)])])).setB 7 gone) (Qci (args':=[.agg (fsyA f),aI (Qat [(dirE f dir),(Qah s),(Qae (isB ((dirN f dir).l) s) 7),(Qae (decide ((((dirN f dir).l).length:Int)≥256)) 12),(Qae true 1)]),.clo 217 [.ptr 7 b4 0,.dptr (fsyA f),.dptr [aI dir],.dptr [aS s]]]) sr3 (Qe2 (Qat [(dirE f dir),(Qah s),(Qae (isB ((dirN f dir).l) s) 7),(Qae (decide ((((dirN f dir).l).length:Int)≥256)) 12),(Qae true 1)]) f dir s (addN f n) b4 okf hp hs ⟨okf.1,hx⟩)) fun _=>
 .u 4 [b5]<|
 .f (.tup [.agg (fsyA (if Qaq f dir s n=0 then addF f dir s (addN f n) else f)),aI (Qaq f dir s n)]) [b5] (.tup [.agg [.sl 5 false ((if Qat [(dirE f dir),(Qah s),(Qae (isB ((dirN f dir).l) s) 7),(Qae (decide ((((dirN f dir).l).length:Int)≥256)) 12),(Qae true 1)]=0 then addF f dir s (addN f n) else f).l.map nodA),aI ((if Qat [(dirE f dir),(Qah s),(Qae (isB ((dirN f dir).l) s) 7),(Qae (decide ((((dirN f dir).l).length:Int)≥256)) 12),(Qae true 1)]=0 then addF f dir s (addN f n) else f).next)],aI (Qat [(dirE f dir),(Qah s),(Qae (isB ((dirN f dir).l) s) 7),(Qae (decide ((((dirN f dir).l).length:Int)≥256)) 12),(Qae true 1)])]) (by
  have e:Qaq f dir s n=Qat [(dirE f dir),(Qah s),(Qae (isB ((dirN f dir).l) s) 7),(Qae (decide ((((dirN f dir).l).length:Int)≥256)) 12),(Qae true 1)]:=by
   unfold Qaq;simp only [q1,q3,Bool.true_or,Bool.false_or,Bool.not_true,Bool.not_false]
  rw [e];exact sR))
 <| fun q3=>have q3:=notF q3;have p3:=booT q3;.u 3 [b4]<|
 .lm 53 n.l entA<|.r 2<|.call (Qbl (decide ((n.l.length:Int)>0)) 1)<|
 .r 1<|.cs (args0:=[.sl 1 true ([[aI (dirE f dir)],[aI (Qah s)],[aI (Qae (isB ((dirN f dir).l) s) 7)],[aI (Qae (decide ((((dirN f dir).l).length:Int)≥256)) 12)],[aI (Qae (decide ((n.l.length:Int)>0)) 1)]])]) (Qcc [(dirE f dir),(Qah s),(Qae (isB ((dirN f dir).l) s) 7),(Qae (decide ((((dirN f dir).l).length:Int)≥256)) 12),(Qae (decide ((n.l.length:Int)>0)) 1)] (by simp)) ⟨Qhs (dirE f dir) (Qah s) (Qae (isB ((dirN f dir).l) s) 7) (Qae (decide ((((dirN f dir).l).length:Int)≥256)) 12) (Qae (decide ((n.l.length:Int)>0)) 1),trivial⟩<|
 .r 1<|.frz 4 [4,5,6,7,8,9,11,40,50] [5,6,7,8] [b1=b1] rt1<|
 .frz 5 [4,5,6,7,8,9,11,40,50] [6,7,8] [b2=b2] rt1<|
 .frz 6 [4,5,6,7,8,9,11,40,50] [7,8] [b3=b3] rt1<|
 .lent 3<|.r 3<|.lop (lcR prog 7) ((184,[.agg (fsyA f),aI (Qat [(dirE f dir),(Qah s),(Qae (isB ((dirN f dir).l) s) 7),(Qae (decide ((((dirN f dir).l).length:Int)≥256)) 12),(Qae (decide ((n.l.length:Int)>0)) 1)]),.clo 217 [.ptr 7 b4 0,.dptr (fsyA f),.dptr [aI dir],.dptr [aS s]]],some 62),.box b4 84 [aI f.next,aI n.kind,aI 1,aS n.text,.sl 2 false (n.l.map entA)]) (fun (_:Unit) σ=>(σ.put (some 62) (.tup [.agg [.sl 5 false ((if Qat [(dirE f dir),(Qah s),(Qae (isB ((dirN f dir).l) s) 7),(Qae (decide ((((dirN f dir).l).length:Int)≥256)) 12),(Qae (decide ((n.l.length:Int)>0)) 1)]=0 then addF f dir s (addN f n) else f).l.map nodA),aI ((if Qat [(dirE f dir),(Qah s),(Qae (isB ((dirN f dir).l) s) 7),(Qae (decide ((((dirN f dir).l).length:Int)≥256)) 12),(Qae (decide ((n.l.length:Int)>0)) 1)]=0 then addF f dir s (addN f n) else f).next)],aI (Qat [(dirE f dir),(Qah s),(Qae (isB ((dirN f dir).l) s) 7),(Qae (decide ((((dirN f dir).l).length:Int)≥256)) 12),(Qae (decide ((n.l.length:Int)>0)) 1)])])).setB 7 gone) (Qci (args':=[.agg (fsyA f),aI (Qat [(dirE f dir),(Qah s),(Qae (isB ((dirN f dir).l) s) 7),(Qae (decide ((((dirN f dir).l).length:Int)≥256)) 12),(Qae (decide ((n.l.length:Int)>0)) 1)]),.clo 217 [.ptr 7 b4 0,.dptr (fsyA f),.dptr [aI dir],.dptr [aS s]]]) sr3 (Qe2 (Qat [(dirE f dir),(Qah s),(Qae (isB ((dirN f dir).l) s) 7),(Qae (decide ((((dirN f dir).l).length:Int)≥256)) 12),(Qae (decide ((n.l.length:Int)>0)) 1)]) f dir s (addN f n) b4 okf hp hs ⟨okf.1,hx⟩)) fun _=>
 .u 4 [b5]<|
 .f (.tup [.agg (fsyA (if Qaq f dir s n=0 then addF f dir s (addN f n) else f)),aI (Qaq f dir s n)]) [b5] (.tup [.agg [.sl 5 false ((if Qat [(dirE f dir),(Qah s),(Qae (isB ((dirN f dir).l) s) 7),(Qae (decide ((((dirN f dir).l).length:Int)≥256)) 12),(Qae (decide ((n.l.length:Int)>0)) 1)]=0 then addF f dir s (addN f n) else f).l.map nodA),aI ((if Qat [(dirE f dir),(Qah s),(Qae (isB ((dirN f dir).l) s) 7),(Qae (decide ((((dirN f dir).l).length:Int)≥256)) 12),(Qae (decide ((n.l.length:Int)>0)) 1)]=0 then addF f dir s (addN f n) else f).next)],aI (Qat [(dirE f dir),(Qah s),(Qae (isB ((dirN f dir).l) s) 7),(Qae (decide ((((dirN f dir).l).length:Int)≥256)) 12),(Qae (decide ((n.l.length:Int)>0)) 1)])]) (by
  have e:Qaq f dir s n=Qat [(dirE f dir),(Qah s),(Qae (isB ((dirN f dir).l) s) 7),(Qae (decide ((((dirN f dir).l).length:Int)≥256)) 12),(Qae (decide ((n.l.length:Int)>0)) 1)]:=by
   unfold Qaq;simp only [q1,q3,Bool.true_or,Bool.false_or,Bool.not_true,Bool.not_false]
  rw [e];exact sR))
def Qh4:Nod:=⟨1,2,0,[],[]⟩
def newF:Fsy:=⟨[Qh4],2⟩
theorem Qv1 {k:Nat} {t:Bool} {e e':List AV} (h:Qc2 e e'):Sub (.sl k t [e]) (.sl k false [e']):=
 (Sub.sl2 (t:=t) (xs:=[e]) (ys:=[e']) rfl (fun i a b ha hb=>by
  match i,ha,hb with
  | 0,ha,hb=>simp at ha hb;rw [← ha,← hb];exact h
  | i+1,ha,_=>simp at ha)).trans (Sub.loose _ _ _)
theorem Qv7:OkN Qh4:=⟨⟨by decide,by decide⟩,⟨by decide,by decide⟩,⟨by decide,by decide⟩,by show (0:Nat)≤_;omega,by show (0:Nat)≤_;omega,fun e h=>by cases h⟩
theorem Qp2:OkF newF:=⟨⟨by decide,by decide⟩,by show (1:Nat)≤_;omega,fun n h=>by obtain rfl:=List.mem_singleton.1 h;exact Qv7⟩
theorem Zcf:Qbq newF.l:=by simp [newF,Qbq,Qzt]
theorem Qev:Qam newF:=Qbg.2 ⟨by decide,by decide,fun n h=>by
 obtain rfl:=List.mem_singleton.1 h;exact ⟨⟨by decide,by decide,by decide,.inl ⟨rfl,rfl,Qb2⟩⟩,by decide⟩,Zcf⟩
theorem Zlh {k:Nat} {x:Nod} (h:newF.l[k]?=some x):x=Qh4:=by
 have:=List.mem_of_getElem? h;exact List.mem_singleton.1 this
theorem Zg3:newF.l.length=1:=rfl
def Qcw (n:Nod):Bool:=n.kind==2&&decide ((n.l.length:Int)>0)
theorem Qm6 (n:Nod) (hl:n.l.length≤8796093022207):Qaf prog 218 [.agg (nodA n)] (aB (Qcw n)):=by
 exact Qac func218 (
 .new fun b1=>.r 1<|.u 4 [b1]<|
 .be 6 n.kind 2 (fun p1=>.u 3 [b1]<|
 .lm 9 n.l entA<|.r 3<|.f (aB (Qcw n)) [] (aB (decide ((n.l.length:Int)>0))) (by exact Sub.of_eq (congrArg aB (by unfold Qcw;simp_all))))
 <| fun p1=>.r 6<|.f (aB (Qcw n)) [] (aB false) (by exact Sub.of_eq (congrArg aB (by unfold Qcw;simp_all))))
theorem Za3 :Qaf prog 78 [] (.agg (fsyA newF)):=by
 exact Qac func78 (let R:AV:=.agg (fsyA newF);
 .new fun b1=>.u 4 [b1]<|
 .f R [b1] (.agg [.sl 5 true ([[aI 1,aI 2,aI 0,aS ([]),aN]]),aI 2]) (by exact Sub.aggs ⟨Qv1 ⟨sR,sR,sR,sR,Sub.nil _ _,trivial⟩,sR,trivial⟩))
end Go.Proofs.YtahlldgocpabjaaGreat

namespace Go.Proofs.YtahlldgocpabjaaGreat
open Go Go.RowKit Copyhold Go.Proofs.Tryz
open Copyhold.Name (Srt insE delE getE isAt)
def atF (f:Fsy) (i:Int):Option Nod:=f.l.find? (isNo i)
theorem at_B (f:Fsy) (i:Int):Qau f i=(atF f i).isSome:=Qw6 f i
theorem at_N (f:Fsy) (i:Int):Qaa f i=(atF f i).getD nod0:=rfl
theorem Qc1 {f:Fsy} {i:Int} {n:Nod} (h:atF f i=some n):n.ino=i:=by simpa [isNo] using List.find?_some h
theorem Qdi {f:Fsy} {i:Int} {n:Nod} (h:atF f i=some n):n∈f.l:=List.mem_of_find?_eq_some h
theorem Qvq {f:Fsy} {n:Nod} (hr:Qbq f.l) (h:n∈f.l):atF f n.ino=some n:=Qna hr h rfl
theorem Qfl {f:Fsy} {i:Int} {n:Nod} (h:atF f i=some n):Qau f i=true∧Qaa f i=n:=⟨by rw [at_B,h];rfl,by rw [at_N,h];rfl⟩
theorem Qtf {f:Fsy} {i:Int} (h:atF f i=none):Qau f i=false∧Qaa f i=nod0:=⟨by rw [at_B,h];rfl,by rw [at_N,h];rfl⟩
theorem Qfk {f:Fsy} {i:Int} (h:Qau f i=true):atF f i=some (Qaa f i):=by
 rw [at_B] at h;cases hc:atF f i with
 | none=>rw [hc] at h;cases h
 | some n=>rw [at_N,hc];rfl
theorem Qg8 {f:Fsy} {i:Int} (h:Qau f i=false):atF f i=none:=by
 rw [at_B] at h;cases hc:atF f i with
 | none=>rfl
 | some n=>rw [hc] at h;cases h
theorem Zji {a b:Option Nod} {i:Int} (ha:∀ n,a=some n→n.ino=i) (h1:a.isSome=b.isSome) (h2:a.getD nod0=b.getD nod0):a=b:=by
 cases a<;>cases b<;>simp_all
theorem Qnq {f:Fsy} {n:Nod} {j:Int} (hr:Qbq f.l):atF (putF f n) j=if j=n.ino then some n else atF f j:=by
 by_cases hj:j=n.ino
 ·rw [if_pos hj,hj];obtain ⟨h1,h2⟩:=Qqk (n:=n) hr;rw [Qfk h1,h2]
 ·rw [if_neg hj];obtain ⟨h1,h2⟩:=Qn0 (n:=n) hr hj;exact Zji (i:=j) (fun n=>Qc1) (by rw [← at_B,← at_B,h1]) (by rw [← at_N,← at_N,h2])
theorem Qxq {f:Fsy} {i j:Int} (hr:Qbq f.l):atF (outF f i) j=if j=i then none else atF f j:=by
 obtain ⟨h1,h2⟩:=Zhv (i:=i) (j:=j) hr;by_cases hj:j=i
 ·rw [if_pos hj];rw [if_pos hj] at h1;exact Qg8 h1
 ·rw [if_neg hj];rw [if_neg hj] at h1 h2;exact Zji (i:=j) (fun n=>Qc1) (by rw [← at_B,← at_B,h1]) (by rw [← at_N,← at_N,h2])
theorem Qli:∀ {a b:List Nod},Qbq a→Qbq b→(∀ x,x∈a↔x∈b)→a=b
 | [],[],_,_,_=>rfl
 | [],y :: s,_,_,h=>absurd ((h y).2 (by simp)) (by simp)
 | x :: r,[],_,_,h=>absurd ((h x).1 (by simp)) (by simp)
 | x :: r,y :: s,ha,hb,h=>by
  obtain ⟨ha1,ha2⟩:=List.pairwise_cons.1 ha;obtain ⟨hb1,hb2⟩:=List.pairwise_cons.1 hb;have e:x=y:=by
   rcases List.mem_cons.1 ((h x).1 (by simp)) with e | e
   ·exact e
   ·rcases List.mem_cons.1 ((h y).2 (by simp)) with e2 | e2
    ·exact e2.symm
    ·have g1:y.ino<x.ino:=hb1 x e;have g2:x.ino<y.ino:=ha1 y e2;omega
  subst e;rw [Qli ha2 hb2 fun z=>⟨fun hz=>?_,fun hz=>?_⟩]
  ·rcases List.mem_cons.1 ((h z).1 (by simp [hz])) with e | e
   ·subst e;have g:z.ino<z.ino:=ha1 z hz;omega
   ·exact e
  ·rcases List.mem_cons.1 ((h z).2 (by simp [hz])) with e | e
   ·subst e;have g:z.ino<z.ino:=hb1 z hz;omega
   ·exact e
theorem Qu3 {f g:Fsy} (hf:Qbq f.l) (hg:Qbq g.l) (h:∀ i,atF f i=atF g i) (hn:f.next=g.next):f=g:=by
 have e:f.l=g.l:=Qli hf hg fun x=>⟨fun hx=>by
  have:=Qvq hf hx;rw [h] at this;exact Qdi this,fun hx=>by
  have:=Qvq hg hx;rw [← h] at this;exact Qdi this⟩
 cases f;cases g;simp_all
theorem Qbm {f:Fsy} (h:Qam f) {i:Int} {n:Nod} (hn:atF f i=some n):nodP n∧n.ino<f.next∧n.ino=i:=by
 have:=(Qbg.1 h).2.2.1 n (Qdi hn);exact ⟨this.1,this.2,Qc1 hn⟩
theorem Zgh {l:List Nod} {n:Nod} (h:thN l n.ino=true):(putN l n).length=l.length:=by
 have:=Qft h;unfold putN;rw [if_pos h];simp only [List.length_append,List.length_cons,List.length_take,List.length_drop];omega
theorem Quk {f:Fsy} {n:Nod} (hr:Qbq f.l) (h:Qau f n.ino=true):(putF f n).l.length=f.l.length:=Zgh (by rw [Zhw hr] at h;exact h)
theorem Qll {f:Fsy} {n:Nod} (h:n.ino<f.next):(putF f n).next=f.next:=by
 show (if n.ino+1>f.next then n.ino+1 else f.next)=f.next;rw [if_neg (by omega)]
theorem Qme {f:Fsy} {n:Nod} (h:n.ino=f.next):(putF f n).next=f.next+1:=by
 show (if n.ino+1>f.next then n.ino+1 else f.next)=_;rw [if_pos (by omega),h]
theorem Qrt {f:Fsy} {n:Nod} (h:Qam f) (hn:nodP n) (hb:Qau f n.ino=true):Qam (putF f n):=by
 obtain ⟨h1,h2,h3,h4⟩:=Qbg.1 h;have hnx:f.next≤(putF f n).next∧n.ino+1≤(putF f n).next:=by
  show f.next≤(if n.ino+1>f.next then n.ino+1 else f.next)∧n.ino+1≤(if n.ino+1>f.next then n.ino+1 else f.next)
  split<;>omega
 refine Qbg.2 ⟨by rw [Quk h4 hb];exact h1,by omega,fun x hx=>?_,Qhm h4⟩;rcases Quv hx with rfl | hx
 ·exact ⟨hn,by omega⟩
 ·have:=h3 x hx;exact ⟨this.1,by omega⟩
theorem Zc1 {a b:List Ent} (h:lI a=lI b):a=b:=by rw [← lI_O a,← lI_O b,h]
theorem Zc0 (l:List Ent):(lI l).length=l.length:=by simp [lI]
noncomputable def delL (l:List Ent) (s:Txt):List Ent:=if isB l s=true then l.take (posI l s)++l.drop (posI l s+1) else l
def Qgd (l:List Ent) (s:Txt):Int:=if isB l s=true then 0 else 6
theorem Qwu {l:List Ent} (h:Srt (lI l)) (s:Txt):lI (delL l s)=delE (lI l) s:=by
 unfold delL
 split
 ·rename_i hi;rw [← Name.take_del h hi];simp [lI,posI,List.map_take,List.map_drop]
 ·rename_i hi;exact (Name.del_none (by simpa [isB] using hi)).symm
theorem Qdh {l:List Ent} {s:Txt} {n:Int} (h:Qah s=0) (hn:1≤n) (hi:isB l s=false) (hl:l.length<256):entE l s n=0:=by
 unfold entE;rw [if_neg (by rw [h];decide),if_neg (by omega),if_neg (by rw [hi];decide),if_neg (by omega)]
theorem Qr9 {l:List Ent} {s:Txt} {n:Int} (h:Srt (lI l)) (he:entE l s n=0):lI (entL l s n)=insE (lI l) (s,n):=by
 unfold entL;rw [if_pos he,← Name.take_ins h];simp [lI,posI,List.map_take,List.map_drop]
theorem Zeb {l:List Ent} {s:Txt} {n:Int} (h:Srt (lI l)) (he:entE l s n=0) (hi:isB l s=false):delL (entL l s n) s=l:=by
 have hs:Srt (lI (entL l s n)):=by rw [Qr9 h he];exact Name.srt_ins h hi
 apply Zc1;rw [Qwu hs,Qr9 h he,Name.del_ins hi]
theorem Qqd {l:List Ent} {s t:Txt} {n:Int} (h:Srt (lI l)) (he:entE l s n=0) (hi:isB l s=false):getE (lI (entL l s n)) t=if t=s then some n else getE (lI l) t:=by
 rw [Qr9 h he,Name.get_ins hi]
theorem get_del {l:List Ent} {s t:Txt} (h:Srt (lI l)):getE (lI (delL l s)) t=if t=s then none else getE (lI l) t:=by
 rw [Qwu h,Name.get_del]
theorem Qee (l:List Ent) (s:Txt):isB l s=(getE (lI l) s).isSome:=Name.get_some
theorem Qe9 (l:List Ent) (s:Txt):getI l s=(getE (lI l) s).getD 0:=rfl
theorem Qhk {l:List Ent}:Name.rightE (lI l)=true↔rowP l:=by rw [Qv6,lI_O]
theorem Qqn {l:List Ent} {s:Txt} {n:Int} (h:rowP l) (hc:Qah s=0) (hn:1≤n) (hi:isB l s=false) (hl:l.length<256):rowP (entL l s n):=by
 rw [← Qhk,Qr9 (Qcu h) (Qdh hc hn hi hl)];exact Name.right_ins (Qhk.2 h) (Qkp.2 (Qcd.1 hc)) hn hi (by rw [Zc0];exact hl)
theorem Zd9 {l:List Ent} {s:Txt} (h:rowP l):rowP (delL l s):=by
 have h2:=Qhk.2 h;rw [← Qhk,Qwu (Qcu h)];obtain ⟨h3,h4,h5⟩:=(Name.rightE_iff _).1 h2;exact (Name.rightE_iff _).2 ⟨Nat.le_trans (List.length_filter_le _ _) h3,fun x hx=>h4 x (List.mem_filter.1 hx).1,Name.srt_del h5 s⟩
theorem Qnc {l:List Ent} {s:Txt} {n:Int}:(entL l s n).length≤l.length+1:=by
 unfold entL
 split
 ·simp only [List.length_append,List.length_cons,List.length_take,List.length_drop];omega
 ·omega
theorem Qvb {l:List Ent} {s:Txt}:(delL l s).length≤l.length:=by
 unfold delL
 split
 ·simp only [List.length_append,List.length_take,List.length_drop];omega
 ·omega
theorem Qtg {f:Fsy} {i:Int} (h:dirE f i=0):∃ d,atF f i=some d∧d.kind=2∧dirN f i=d∧Qaa f i=d∧Qau f i=true:=by
 unfold dirE at h
 split at h
 ·rename_i hb
  split at h
  ·rename_i hk;exact ⟨Qaa f i,Qfk hb,hk,(Qxc hb hk).2,rfl,hb⟩
  ·cases h
 ·cases h
theorem Qo3 {f:Fsy} {i:Int} {d:Nod} (h:atF f i=some d) (hk:d.kind=2):dirE f i=0∧dirN f i=d:=by
 obtain ⟨h1,h2⟩:=Qfl h;have:=Qxc h1 (by rw [h2];exact hk);rw [h2] at this;exact this
theorem Qc6 {n:Nod} (h:nodP n) (hk:n.kind=2):n.text=[]∧rowP n.l:=by
 rcases h.2.2.2 with ⟨_,h1,h2⟩ | ⟨h1,_⟩
 ·exact ⟨h1,h2⟩
 ·omega
theorem Qew {n:Nod} (h:nodP n) (hk:¬ n.kind=2):n.l=[]:=by
 rcases h.2.2.2 with ⟨h1,_⟩ | ⟨_,_,h1⟩
 ·exact absurd h1 hk
 ·exact h1
theorem Qjj {f:Fsy} {i:Int} {s:Txt} (hp:Qam f):Qa3 f i s=0↔∃ d j n,atF f i=some d∧d.kind=2∧Qah s=0∧getE (lI d.l) s=some j∧atF f j=some n:=by
 constructor
 ·intro h;unfold Qa3 at h;rw [Qh7] at h
  split at h
  ·rename_i h1
   split at h
   ·rename_i h2;obtain ⟨d,g1,g2,g3,g4⟩:=Qtg h1;cases hb:Qau f (Qfh f i s) with
    | false=>rw [hb] at h;cases h
    | true=>
     have hl:=Qfk hb;unfold Qfh at hl;rw [g3,Qe9] at hl;cases hg:getE (lI d.l) s with
     | none=>rw [hg] at hl;rw [show (none:Option Int).getD 0=0 from rfl,Qg8 (Zdt hp)] at hl;cases hl
     | some j=>rw [hg] at hl;exact ⟨d,j,_,g1,g2,h2,hg,hl⟩
   ·exact absurd h (by assumption)
  ·exact absurd h (by assumption)
 ·rintro ⟨d,j,n,h1,h2,h3,h4,h5⟩;obtain ⟨g1,g2⟩:=Qo3 h1 h2;unfold Qa3;rw [Qh7,if_pos g1,if_pos h3];have:Qau f (Qfh f i s)=true:=by unfold Qfh;rw [g2,Qe9,h4];exact (Qfl h5).1
  rw [this];rfl
theorem Qfg {f:Fsy} {i:Int} {s:Txt} {d n:Nod} {j:Int} (h1:atF f i=some d) (h2:d.kind=2) (h3:Qah s=0) (h4:getE (lI d.l) s=some j) (h5:atF f j=some n):Qa3 f i s=0∧lookN f i s=n:=by
 obtain ⟨g1,g2⟩:=Qo3 h1 h2;have hi:Qfh f i s=j:=by unfold Qfh;rw [g2,Qe9,h4];rfl
 have he:Qa3 f i s=0:=by
  unfold Qa3;rw [Qh7,if_pos g1,if_pos h3,hi,(Qfl h5).1];rfl
 exact ⟨he,by rw [Qp4 he,hi,(Qfl h5).2]⟩
theorem Qmq {f:Fsy} {i:Int} {s:Txt} {d:Nod} (hp:Qam f) (h1:atF f i=some d) (h2:d.kind=2) (h3:Qah s=0) (h4:getE (lI d.l) s=none):Qa3 f i s=6:=by
 obtain ⟨g1,g2⟩:=Qo3 h1 h2;have hi:Qfh f i s=0:=by unfold Qfh;rw [g2,Qe9,h4];rfl
 unfold Qa3;rw [Qh7,if_pos g1,if_pos h3,hi,Zdt hp];rfl
end Go.Proofs.YtahlldgocpabjaaGreat
