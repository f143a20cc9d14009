import Derived.Test.YtahlldgocpabjaaGreatAl
import Derived.Test.YtahlldgocpabjaaGreatMrgM
import Derived.Test.YtahlldgocpabjaaGreatMrgL
set_option maxRecDepth 100000
set_option maxHeartbeats 8000000
set_option linter.unusedVariables false
set_option linter.unusedSimpArgs false
namespace Go.Proofs.YtahlldgocpabjaaGreat
open Go Go.RowKit Copyhold Go.Proofs.Tryz
theorem Qjc {t:Bool} (a b c d e:Int):Sub (.sl 1 t [[aI a],[aI b],[aI c],[aI d],[aI e]]) (.sl 1 false ([a,b,c,d,e].map intA)):=W2r _ _ _
def addN (f:Fsy) (n:Nod):Nod:=⟨f.next,n.kind,1,n.text,n.l⟩
noncomputable def Qaw (f:Fsy) (d:Int) (s:Txt) (n:Nod):Int:=Qax [dirE f d,Qak s,Qag (isB (dirN f d).l s) 7,Qag (decide ((f.l.length:Int)≥256)||decide (((dirN f d).l.length:Int)≥256)) 12,Qag ((!(dP (nodP (addN f n))))||decide ((n.l.length:Int)>0)) 1]
theorem Qsy {f:Fsy} {n:Nod} (okf:OkF f) (okn:OkN n):OkN (addN f n):=⟨okf.1,okn.2.1,⟨by show (_:Int)≤1;omega,by show (1:Int)≤_;omega⟩,okn.2.2.2.1,okn.2.2.2.2.1,okn.2.2.2.2.2⟩
theorem Zls (f:Fsy) (dir:Int) (s:Txt) (n:Nod) (okf:OkF f) (hp:Qan f) (hs:s.length≤1000000) (okn:OkN n) (hx:f.next<9223372036854775807):Qai prog 179 [.agg (fsyA f),aI dir,aS s,.agg (nodA n)] (.tup [.agg (fsyA (if Qaw f dir s n=0 then addF f dir s (addN f n) else f)),aI (Qaw f dir s n)]):=by
 have hl:=hp.1;have hr:=Qaf hp;exact Qae func179 (
 .new fun b1=>.new fun b2=>.new fun b3=>.new fun b4=>.new fun b5=>.r 1<|.u 2 [b1,b2]<|
 .call (Qjg f dir hp)<|
 .r 3<|.new fun b6=>.u 2 [b6]<|
 .u 3 [b6,b3]<|
 .call (Qgs ((dirN f dir).l) s (by have:=(Qdo hp dir).2;omega) (Qdo hp dir).1)<|
 .r 5<|.u 6 [b1,b4,b4]<|
 .ord [0,1,3,5,6,7,8,16,2,4,9,10,11,12,13,14,15,17,18,19,20,21,22,23,24,25,26,27,28]<|.u 6 [b3,b1]<|
 .lm 38 f.l nodA<|.u 2 [b4]<|
 .call (Qff s (by omega))<|
 .call (Qbw (isB ((dirN f dir).l) s) 7)<|
 .r 1<|.br 40 (decide ((f.l.length:Int)≥256)) (fun q1=>have p1:=decT q1;.r 5<|.call (Qbw true 12)<|
 .cs (args0:=[.agg [aI f.next,aI n.kind,aI 1,aS n.text,.sl 2 false (n.l.map entA)]]) (Qn1 (addN f n) (Qsy okf okn)) sr1<|
 .r 2<|.br 50 (!(dP (nodP (addN f n)))) (fun q2=>have q2:=notT q2;have p2:=booF q2;.r 5<|.call (Qbw true 1)<|
 .r 1<|.cs (args0:=[.sl 1 true ([[aI (dirE f dir)],[aI (Qak s)],[aI (Qag (isB ((dirN f dir).l) s) 7)],[aI (Qag true 12)],[aI (Qag true 1)]])]) (Qcu [(dirE f dir),(Qak s),(Qag (isB ((dirN f dir).l) s) 7),(Qag true 12),(Qag true 1)] (by simp)) ⟨Qjc (dirE f dir) (Qak s) (Qag (isB ((dirN f dir).l) s) 7) (Qag true 12) (Qag true 1),trivial⟩<|
 .r 1<|.frz 4 [4,5,6,7,8,9,11,40,45,50,55] [5,6,7,8] [b1=b1] rt1<|
 .frz 5 [4,5,6,7,8,9,11,40,45,50,55] [6,7,8] [b2=b2] rt1<|
 .frz 6 [4,5,6,7,8,9,11,40,45,50,55] [7,8] [b3=b3] rt1<|
 .lent 3<|.r 3<|.lop (lcR prog 7) ((184,[.agg (fsyA f),aI (Qax [(dirE f dir),(Qak s),(Qag (isB ((dirN f dir).l) s) 7),(Qag true 12),(Qag true 1)]),.clo 217 [.ptr 7 b4 0,.dptr (fsyA f),.dptr [aI dir],.dptr [aS s]]],some 62),.box b4 84 [aI f.next,aI n.kind,aI 1,aS n.text,.sl 2 false (n.l.map entA)]) (fun (_:Unit) σ=>(σ.put (some 62) (.tup [.agg [.sl 5 false ((if Qax [(dirE f dir),(Qak s),(Qag (isB ((dirN f dir).l) s) 7),(Qag true 12),(Qag true 1)]=0 then addF f dir s (addN f n) else f).l.map nodA),aI ((if Qax [(dirE f dir),(Qak s),(Qag (isB ((dirN f dir).l) s) 7),(Qag true 12),(Qag true 1)]=0 then addF f dir s (addN f n) else f).next)],aI (Qax [(dirE f dir),(Qak s),(Qag (isB ((dirN f dir).l) s) 7),(Qag true 12),(Qag true 1)])])).setB 7 gone) (Qc4 (args':=[.agg (fsyA f),aI (Qax [(dirE f dir),(Qak s),(Qag (isB ((dirN f dir).l) s) 7),(Qag true 12),(Qag true 1)]),.clo 217 [.ptr 7 b4 0,.dptr (fsyA f),.dptr [aI dir],.dptr [aS s]]]) sr3 (Qfv (Qax [(dirE f dir),(Qak s),(Qag (isB ((dirN f dir).l) s) 7),(Qag true 12),(Qag true 1)]) f dir s (addN f n) b4 okf hp hs ⟨okf.1,hx⟩)) fun _=>
 .u 4 [b5]<|
 .f (.tup [.agg (fsyA (if Qaw f dir s n=0 then addF f dir s (addN f n) else f)),aI (Qaw f dir s n)]) [b5] (.tup [.agg [.sl 5 false ((if Qax [(dirE f dir),(Qak s),(Qag (isB ((dirN f dir).l) s) 7),(Qag true 12),(Qag true 1)]=0 then addF f dir s (addN f n) else f).l.map nodA),aI ((if Qax [(dirE f dir),(Qak s),(Qag (isB ((dirN f dir).l) s) 7),(Qag true 12),(Qag true 1)]=0 then addF f dir s (addN f n) else f).next)],aI (Qax [(dirE f dir),(Qak s),(Qag (isB ((dirN f dir).l) s) 7),(Qag true 12),(Qag true 1)])]) (by
  have e:Qaw f dir s n=Qax [(dirE f dir),(Qak s),(Qag (isB ((dirN f dir).l) s) 7),(Qag true 12),(Qag true 1)]:=by
   unfold Qaw;simp only [q1,q2,W02,W0u,W0x,W0t]
  rw [e];exact sR))
 <| fun q2=>have q2:=notF q2;have p2:=booT q2;.u 3 [b4]<|
 .lm 53 n.l entA<|.r 2<|.call (Qbw (decide ((n.l.length:Int)>0)) 1)<|
 .r 1<|.cs (args0:=[.sl 1 true ([[aI (dirE f dir)],[aI (Qak s)],[aI (Qag (isB ((dirN f dir).l) s) 7)],[aI (Qag true 12)],[aI (Qag (decide ((n.l.length:Int)>0)) 1)]])]) (Qcu [(dirE f dir),(Qak s),(Qag (isB ((dirN f dir).l) s) 7),(Qag true 12),(Qag (decide ((n.l.length:Int)>0)) 1)] (by simp)) ⟨Qjc (dirE f dir) (Qak s) (Qag (isB ((dirN f dir).l) s) 7) (Qag true 12) (Qag (decide ((n.l.length:Int)>0)) 1),trivial⟩<|
 .r 1<|.frz 4 [4,5,6,7,8,9,11,40,45,50] [5,6,7,8] [b1=b1] rt1<|
 .frz 5 [4,5,6,7,8,9,11,40,45,50] [6,7,8] [b2=b2] rt1<|
 .frz 6 [4,5,6,7,8,9,11,40,45,50] [7,8] [b3=b3] rt1<|
 .lent 3<|.r 3<|.lop (lcR prog 7) ((184,[.agg (fsyA f),aI (Qax [(dirE f dir),(Qak s),(Qag (isB ((dirN f dir).l) s) 7),(Qag true 12),(Qag (decide ((n.l.length:Int)>0)) 1)]),.clo 217 [.ptr 7 b4 0,.dptr (fsyA f),.dptr [aI dir],.dptr [aS s]]],some 62),.box b4 84 [aI f.next,aI n.kind,aI 1,aS n.text,.sl 2 false (n.l.map entA)]) (fun (_:Unit) σ=>(σ.put (some 62) (.tup [.agg [.sl 5 false ((if Qax [(dirE f dir),(Qak s),(Qag (isB ((dirN f dir).l) s) 7),(Qag true 12),(Qag (decide ((n.l.length:Int)>0)) 1)]=0 then addF f dir s (addN f n) else f).l.map nodA),aI ((if Qax [(dirE f dir),(Qak s),(Qag (isB ((dirN f dir).l) s) 7),(Qag true 12),(Qag (decide ((n.l.length:Int)>0)) 1)]=0 then addF f dir s (addN f n) else f).next)],aI (Qax [(dirE f dir),(Qak s),(Qag (isB ((dirN f dir).l) s) 7),(Qag true 12),(Qag (decide ((n.l.length:Int)>0)) 1)])])).setB 7 gone) (Qc4 (args':=[.agg (fsyA f),aI (Qax [(dirE f dir),(Qak s),(Qag (isB ((dirN f dir).l) s) 7),(Qag true 12),(Qag (decide ((n.l.length:Int)>0)) 1)]),.clo 217 [.ptr 7 b4 0,.dptr (fsyA f),.dptr [aI dir],.dptr [aS s]]]) sr3 (Qfv (Qax [(dirE f dir),(Qak s),(Qag (isB ((dirN f dir).l) s) 7),(Qag true 12),(Qag (decide ((n.l.length:Int)>0)) 1)]) f dir s (addN f n) b4 okf hp hs ⟨okf.1,hx⟩)) fun _=>
 .u 4 [b5]<|
 .f (.tup [.agg (fsyA (if Qaw f dir s n=0 then addF f dir s (addN f n) else f)),aI (Qaw f dir s n)]) [b5] (.tup [.agg [.sl 5 false ((if Qax [(dirE f dir),(Qak s),(Qag (isB ((dirN f dir).l) s) 7),(Qag true 12),(Qag (decide ((n.l.length:Int)>0)) 1)]=0 then addF f dir s (addN f n) else f).l.map nodA),aI ((if Qax [(dirE f dir),(Qak s),(Qag (isB ((dirN f dir).l) s) 7),(Qag true 12),(Qag (decide ((n.l.length:Int)>0)) 1)]=0 then addF f dir s (addN f n) else f).next)],aI (Qax [(dirE f dir),(Qak s),(Qag (isB ((dirN f dir).l) s) 7),(Qag true 12),(Qag (decide ((n.l.length:Int)>0)) 1)])]) (by
  have e:Qaw f dir s n=Qax [(dirE f dir),(Qak s),(Qag (isB ((dirN f dir).l) s) 7),(Qag true 12),(Qag (decide ((n.l.length:Int)>0)) 1)]:=by
   unfold Qaw;simp only [q1,q2,W02,W0u,W0x,W0t]
  rw [e];exact sR))
 <| fun q1=>have p1:=decF q1;.u 3 [b6]<|
 .lm 43 ((dirN f dir).l) entA<|.r 2<|.call (Qbw (decide ((((dirN f dir).l).length:Int)≥256)) 12)<|
 .cs (args0:=[.agg [aI f.next,aI n.kind,aI 1,aS n.text,.sl 2 false (n.l.map entA)]]) (Qn1 (addN f n) (Qsy okf okn)) sr1<|
 .r 2<|.br 50 (!(dP (nodP (addN f n)))) (fun q3=>have q3:=notT q3;have p3:=booF q3;.r 5<|.call (Qbw true 1)<|
 .r 1<|.cs (args0:=[.sl 1 true ([[aI (dirE f dir)],[aI (Qak s)],[aI (Qag (isB ((dirN f dir).l) s) 7)],[aI (Qag (decide ((((dirN f dir).l).length:Int)≥256)) 12)],[aI (Qag true 1)]])]) (Qcu [(dirE f dir),(Qak s),(Qag (isB ((dirN f dir).l) s) 7),(Qag (decide ((((dirN f dir).l).length:Int)≥256)) 12),(Qag true 1)] (by simp)) ⟨Qjc (dirE f dir) (Qak s) (Qag (isB ((dirN f dir).l) s) 7) (Qag (decide ((((dirN f dir).l).length:Int)≥256)) 12) (Qag true 1),trivial⟩<|
 .r 1<|.frz 4 [4,5,6,7,8,9,11,40,50,55] [5,6,7,8] [b1=b1] rt1<|
 .frz 5 [4,5,6,7,8,9,11,40,50,55] [6,7,8] [b2=b2] rt1<|
 .frz 6 [4,5,6,7,8,9,11,40,50,55] [7,8] [b3=b3] rt1<|
 .lent 3<|.r 3<|.lop (lcR prog 7) ((184,[.agg (fsyA f),aI (Qax [(dirE f dir),(Qak s),(Qag (isB ((dirN f dir).l) s) 7),(Qag (decide ((((dirN f dir).l).length:Int)≥256)) 12),(Qag true 1)]),.clo 217 [.ptr 7 b4 0,.dptr (fsyA f),.dptr [aI dir],.dptr [aS s]]],some 62),.box b4 84 [aI f.next,aI n.kind,aI 1,aS n.text,.sl 2 false (n.l.map entA)]) (fun (_:Unit) σ=>(σ.put (some 62) (.tup [.agg [.sl 5 false ((if Qax [(dirE f dir),(Qak s),(Qag (isB ((dirN f dir).l) s) 7),(Qag (decide ((((dirN f dir).l).length:Int)≥256)) 12),(Qag true 1)]=0 then addF f dir s (addN f n) else f).l.map nodA),aI ((if Qax [(dirE f dir),(Qak s),(Qag (isB ((dirN f dir).l) s) 7),(Qag (decide ((((dirN f dir).l).length:Int)≥256)) 12),(Qag true 1)]=0 then addF f dir s (addN f n) else f).next)],aI (Qax [(dirE f dir),(Qak s),(Qag (isB ((dirN f dir).l) s) 7),(Qag (decide ((((dirN f dir).l).length:Int)≥256)) 12),(Qag true 1)])])).setB 7 gone) (Qc4 (args':=[.agg (fsyA f),aI (Qax [(dirE f dir),(Qak s),(Qag (isB ((dirN f dir).l) s) 7),(Qag (decide ((((dirN f dir).l).length:Int)≥256)) 12),(Qag true 1)]),.clo 217 [.ptr 7 b4 0,.dptr (fsyA f),.dptr [aI dir],.dptr [aS s]]]) sr3 (Qfv (Qax [(dirE f dir),(Qak s),(Qag (isB ((dirN f dir).l) s) 7),(Qag (decide ((((dirN f dir).l).length:Int)≥256)) 12),(Qag true 1)]) f dir s (addN f n) b4 okf hp hs ⟨okf.1,hx⟩)) fun _=>
 .u 4 [b5]<|
 .f (.tup [.agg (fsyA (if Qaw f dir s n=0 then addF f dir s (addN f n) else f)),aI (Qaw f dir s n)]) [b5] (.tup [.agg [.sl 5 false ((if Qax [(dirE f dir),(Qak s),(Qag (isB ((dirN f dir).l) s) 7),(Qag (decide ((((dirN f dir).l).length:Int)≥256)) 12),(Qag true 1)]=0 then addF f dir s (addN f n) else f).l.map nodA),aI ((if Qax [(dirE f dir),(Qak s),(Qag (isB ((dirN f dir).l) s) 7),(Qag (decide ((((dirN f dir).l).length:Int)≥256)) 12),(Qag true 1)]=0 then addF f dir s (addN f n) else f).next)],aI (Qax [(dirE f dir),(Qak s),(Qag (isB ((dirN f dir).l) s) 7),(Qag (decide ((((dirN f dir).l).length:Int)≥256)) 12),(Qag true 1)])]) (by
  have e:Qaw f dir s n=Qax [(dirE f dir),(Qak s),(Qag (isB ((dirN f dir).l) s) 7),(Qag (decide ((((dirN f dir).l).length:Int)≥256)) 12),(Qag true 1)]:=by
   unfold Qaw;simp only [q1,q3,W02,W0u,W0x,W0t]
  rw [e];exact sR))
 <| fun q3=>have q3:=notF q3;have p3:=booT q3;.u 3 [b4]<|
 .lm 53 n.l entA<|.r 2<|.call (Qbw (decide ((n.l.length:Int)>0)) 1)<|
 .r 1<|.cs (args0:=[.sl 1 true ([[aI (dirE f dir)],[aI (Qak s)],[aI (Qag (isB ((dirN f dir).l) s) 7)],[aI (Qag (decide ((((dirN f dir).l).length:Int)≥256)) 12)],[aI (Qag (decide ((n.l.length:Int)>0)) 1)]])]) (Qcu [(dirE f dir),(Qak s),(Qag (isB ((dirN f dir).l) s) 7),(Qag (decide ((((dirN f dir).l).length:Int)≥256)) 12),(Qag (decide ((n.l.length:Int)>0)) 1)] (by simp)) ⟨Qjc (dirE f dir) (Qak s) (Qag (isB ((dirN f dir).l) s) 7) (Qag (decide ((((dirN f dir).l).length:Int)≥256)) 12) (Qag (decide ((n.l.length:Int)>0)) 1),trivial⟩<|
 .r 1<|.frz 4 [4,5,6,7,8,9,11,40,50] [5,6,7,8] [b1=b1] rt1<|
 .frz 5 [4,5,6,7,8,9,11,40,50] [6,7,8] [b2=b2] rt1<|
 .frz 6 [4,5,6,7,8,9,11,40,50] [7,8] [b3=b3] rt1<|
 .lent 3<|.r 3<|.lop (lcR prog 7) ((184,[.agg (fsyA f),aI (Qax [(dirE f dir),(Qak s),(Qag (isB ((dirN f dir).l) s) 7),(Qag (decide ((((dirN f dir).l).length:Int)≥256)) 12),(Qag (decide ((n.l.length:Int)>0)) 1)]),.clo 217 [.ptr 7 b4 0,.dptr (fsyA f),.dptr [aI dir],.dptr [aS s]]],some 62),.box b4 84 [aI f.next,aI n.kind,aI 1,aS n.text,.sl 2 false (n.l.map entA)]) (fun (_:Unit) σ=>(σ.put (some 62) (.tup [.agg [.sl 5 false ((if Qax [(dirE f dir),(Qak s),(Qag (isB ((dirN f dir).l) s) 7),(Qag (decide ((((dirN f dir).l).length:Int)≥256)) 12),(Qag (decide ((n.l.length:Int)>0)) 1)]=0 then addF f dir s (addN f n) else f).l.map nodA),aI ((if Qax [(dirE f dir),(Qak s),(Qag (isB ((dirN f dir).l) s) 7),(Qag (decide ((((dirN f dir).l).length:Int)≥256)) 12),(Qag (decide ((n.l.length:Int)>0)) 1)]=0 then addF f dir s (addN f n) else f).next)],aI (Qax [(dirE f dir),(Qak s),(Qag (isB ((dirN f dir).l) s) 7),(Qag (decide ((((dirN f dir).l).length:Int)≥256)) 12),(Qag (decide ((n.l.length:Int)>0)) 1)])])).setB 7 gone) (Qc4 (args':=[.agg (fsyA f),aI (Qax [(dirE f dir),(Qak s),(Qag (isB ((dirN f dir).l) s) 7),(Qag (decide ((((dirN f dir).l).length:Int)≥256)) 12),(Qag (decide ((n.l.length:Int)>0)) 1)]),.clo 217 [.ptr 7 b4 0,.dptr (fsyA f),.dptr [aI dir],.dptr [aS s]]]) sr3 (Qfv (Qax [(dirE f dir),(Qak s),(Qag (isB ((dirN f dir).l) s) 7),(Qag (decide ((((dirN f dir).l).length:Int)≥256)) 12),(Qag (decide ((n.l.length:Int)>0)) 1)]) f dir s (addN f n) b4 okf hp hs ⟨okf.1,hx⟩)) fun _=>
 .u 4 [b5]<|
 .f (.tup [.agg (fsyA (if Qaw f dir s n=0 then addF f dir s (addN f n) else f)),aI (Qaw f dir s n)]) [b5] (.tup [.agg [.sl 5 false ((if Qax [(dirE f dir),(Qak s),(Qag (isB ((dirN f dir).l) s) 7),(Qag (decide ((((dirN f dir).l).length:Int)≥256)) 12),(Qag (decide ((n.l.length:Int)>0)) 1)]=0 then addF f dir s (addN f n) else f).l.map nodA),aI ((if Qax [(dirE f dir),(Qak s),(Qag (isB ((dirN f dir).l) s) 7),(Qag (decide ((((dirN f dir).l).length:Int)≥256)) 12),(Qag (decide ((n.l.length:Int)>0)) 1)]=0 then addF f dir s (addN f n) else f).next)],aI (Qax [(dirE f dir),(Qak s),(Qag (isB ((dirN f dir).l) s) 7),(Qag (decide ((((dirN f dir).l).length:Int)≥256)) 12),(Qag (decide ((n.l.length:Int)>0)) 1)])]) (by
  have e:Qaw f dir s n=Qax [(dirE f dir),(Qak s),(Qag (isB ((dirN f dir).l) s) 7),(Qag (decide ((((dirN f dir).l).length:Int)≥256)) 12),(Qag (decide ((n.l.length:Int)>0)) 1)]:=by
   unfold Qaw;simp only [q1,q3,W02,W0u,W0x,W0t]
  rw [e];exact sR))
def Qjm:Nod:=⟨1,2,0,[],[]⟩
def newF:Fsy:=⟨[Qjm],2⟩
theorem Qyp {k:Nat} {t:Bool} {e e':List AV} (h:Qdl e e'):Sub (.sl k t [e]) (.sl k false [e']):=
 (Sub.sl2 (t:=t) (xs:=[e]) (ys:=[e']) rfl (fun i a b ha hb=>by
  match i,ha,hb with
  | 0,ha,hb=>simp at ha hb;rw [← ha,← hb];exact h
  | i+1,ha,_=>simp at ha)).trans (W2r _ _ _)
theorem Qyv:OkN Qjm:=⟨⟨by decide,by decide⟩,⟨by decide,by decide⟩,⟨by decide,by decide⟩,by show (0:Nat)≤_;omega,by show (0:Nat)≤_;omega,fun e h=>by cases h⟩
theorem Qrs:OkF newF:=⟨⟨by decide,by decide⟩,by show (1:Nat)≤_;omega,fun n h=>by obtain rfl:=W0z.1 h;exact Qyv⟩
theorem Zfj:Qb1 newF.l:=by simp [newF,Qb1,Qvx]
theorem Qfl:Qan newF:=Qbx.2 ⟨by decide,by decide,fun n h=>by
 obtain rfl:=W0z.1 h;exact ⟨⟨by decide,by decide,by decide,.inl ⟨rfl,rfl,Qck⟩⟩,by decide⟩,Zfj⟩
theorem Zn0 {k:Nat} {x:Nod} (h:newF.l[k]?=some x):x=Qjm:=by
 have:=W0h h;exact W0z.1 this
theorem Zjw:newF.l.length=1:=rfl
def Qdd (n:Nod):Bool:=n.kind==2&&decide ((n.l.length:Int)>0)
theorem Qoq (n:Nod) (hl:n.l.length≤8796093022207):Qai prog 218 [.agg (nodA n)] (aB (Qdd n)):=by
 exact Qae func218 (
 .new fun b1=>.r 1<|.u 4 [b1]<|
 .be 6 n.kind 2 (fun p1=>.u 3 [b1]<|
 .lm 9 n.l entA<|.r 3<|.f (aB (Qdd n)) [] (aB (decide ((n.l.length:Int)>0))) (by exact W2p (W1z aB (by unfold Qdd;simp_all))))
 <| fun p1=>.r 6<|.f (aB (Qdd n)) [] (aB false) (by exact W2p (W1z aB (by unfold Qdd;simp_all))))
theorem Zec :Qai prog 78 [] (.agg (fsyA newF)):=by
 exact Qae func78 (let R:AV:=.agg (fsyA newF);
 .new fun b1=>.u 4 [b1]<|
 .f R [b1] (.agg [.sl 5 true ([[aI 1,aI 2,aI 0,aS ([]),aN]]),aI 2]) (by exact W2t ⟨Qyp ⟨sR,sR,sR,sR,Sub.nil _ _,trivial⟩,sR,trivial⟩))
end Go.Proofs.YtahlldgocpabjaaGreat

namespace Go.Proofs.YtahlldgocpabjaaGreat
open Go Go.RowKit Copyhold Go.Proofs.Tryz
open Copyhold.Name (Srt insE delE getE isAt)
def atF (f:Fsy) (i:Int):Option Nod:=f.l.find? (isNo i)
theorem at_B (f:Fsy) (i:Int):Qav f i=(atF f i).isSome:=Qz0 f i
theorem at_N (f:Fsy) (i:Int):Qaa f i=(atF f i).getD nod0:=rfl
theorem Qc7 {f:Fsy} {i:Int} {n:Nod} (h:atF f i=some n):n.ino=i:=by simpa [isNo] using List.find?_some h
theorem Qdk {f:Fsy} {i:Int} {n:Nod} (h:atF f i=some n):n∈f.l:=W1o h
theorem Zc0 {f:Fsy} {n:Nod} (hr:Qb1 f.l) (h:n∈f.l):atF f n.ino=some n:=Qov hr h rfl
theorem Qfr {f:Fsy} {i:Int} {n:Nod} (h:atF f i=some n):Qav f i=true∧Qaa f i=n:=⟨by rw [at_B,h];rfl,by rw [at_N,h];rfl⟩
theorem Qvq {f:Fsy} {i:Int} (h:atF f i=none):Qav f i=false∧Qaa f i=nod0:=⟨by rw [at_B,h];rfl,by rw [at_N,h];rfl⟩
theorem Qgb {f:Fsy} {i:Int} (h:Qav f i=true):atF f i=some (Qaa f i):=by
 rw [at_B] at h;cases hc:atF f i with
 | none=>rw [hc] at h;cases h
 | some n=>rw [at_N,hc];rfl
theorem Qil {f:Fsy} {i:Int} (h:Qav f i=false):atF f i=none:=by
 rw [at_B] at h;cases hc:atF f i with
 | none=>rfl
 | some n=>rw [hc] at h;cases h
theorem Zl1 {a b:Option Nod} {i:Int} (ha:∀ n,a=some n→n.ino=i) (h1:a.isSome=b.isSome) (h2:a.getD nod0=b.getD nod0):a=b:=by
 cases a<;>cases b<;>simp_all
theorem Qmm {f:Fsy} {n:Nod} {j:Int} (hr:Qb1 f.l):atF (putF f n) j=if j=n.ino then some n else atF f j:=by
 by_cases hj:j=n.ino
 ·rw [W1y hj,hj];obtain ⟨h1,h2⟩:=Qsd (n:=n) hr;rw [Qgb h1,h2]
 ·rw [W1x hj];obtain ⟨h1,h2⟩:=Qpk (n:=n) hr hj;exact Zl1 (i:=j) (fun n=>Qc7) (by rw [← at_B,← at_B,h1]) (by rw [← at_N,← at_N,h2])
theorem Zam {f:Fsy} {i j:Int} (hr:Qb1 f.l):atF (outF f i) j=if j=i then none else atF f j:=by
 obtain ⟨h1,h2⟩:=Zkh (i:=i) (j:=j) hr;by_cases hj:j=i
 ·rw [W1y hj];rw [W1y hj] at h1;exact Qil h1
 ·rw [W1x hj];rw [W1x hj] at h1 h2;exact Zl1 (i:=j) (fun n=>Qc7) (by rw [← at_B,← at_B,h1]) (by rw [← at_N,← at_N,h2])
theorem Qmz:∀ {a b:List Nod},Qb1 a→Qb1 b→(∀ x,x∈a↔x∈b)→a=b
 | [],[],_,_,_=>rfl
 | [],y :: s,_,_,h=>absurd ((h y).2 (by simp)) (by simp)
 | x :: r,[],_,_,h=>absurd ((h x).1 (by simp)) (by simp)
 | x :: r,y :: s,ha,hb,h=>by
  obtain ⟨ha1,ha2⟩:=W1l.1 ha;obtain ⟨hb1,hb2⟩:=W1l.1 hb;have e:x=y:=by
   rcases W0y.1 ((h x).1 (by simp)) with e | e
   ·exact e
   ·rcases W0y.1 ((h y).2 (by simp)) with e2 | e2
    ·exact e2.symm
    ·have g1:y.ino<x.ino:=hb1 x e;have g2:x.ino<y.ino:=ha1 y e2;omega
  subst e;rw [Qmz ha2 hb2 fun z=>⟨fun hz=>?_,fun hz=>?_⟩]
  ·rcases W0y.1 ((h z).1 (by simp [hz])) with e | e
   ·subst e;have g:z.ino<z.ino:=ha1 z hz;omega
   ·exact e
  ·rcases W0y.1 ((h z).2 (by simp [hz])) with e | e
   ·subst e;have g:z.ino<z.ino:=hb1 z hz;omega
   ·exact e
theorem Ql0 {f g:Fsy} (hf:Qb1 f.l) (hg:Qb1 g.l) (h:∀ i,atF f i=atF g i) (hn:f.next=g.next):f=g:=by
 have e:f.l=g.l:=Qmz hf hg fun x=>⟨fun hx=>by
  have:=Zc0 hf hx;rw [h] at this;exact Qdk this,fun hx=>by
  have:=Zc0 hg hx;rw [← h] at this;exact Qdk this⟩
 cases f;cases g;simp_all
theorem Qbh {f:Fsy} (h:Qan f) {i:Int} {n:Nod} (hn:atF f i=some n):nodP n∧n.ino<f.next∧n.ino=i:=by
 have:=(Qbx.1 h).2.2.1 n (Qdk hn);exact ⟨this.1,this.2,Qc7 hn⟩
theorem Zjh {l:List Nod} {n:Nod} (h:thN l n.ino=true):(putN l n).length=l.length:=by
 have:=Qgo h;unfold putN;rw [W1y h];simp only [W0e,W0b,W0g,W0p];omega
theorem Qrg {f:Fsy} {n:Nod} (hr:Qb1 f.l) (h:Qav f n.ino=true):(putF f n).l.length=f.l.length:=Zjh (by rw [Zki hr] at h;exact h)
theorem Qki {f:Fsy} {n:Nod} (h:n.ino<f.next):(putF f n).next=f.next:=by
 show (if n.ino+1>f.next then n.ino+1 else f.next)=f.next;rw [W1x (by omega)]
theorem Qnu {f:Fsy} {n:Nod} (h:n.ino=f.next):(putF f n).next=f.next+1:=by
 show (if n.ino+1>f.next then n.ino+1 else f.next)=_;rw [W1y (by omega),h]
theorem Qt4 {f:Fsy} {n:Nod} (h:Qan f) (hn:nodP n) (hb:Qav f n.ino=true):Qan (putF f n):=by
 obtain ⟨h1,h2,h3,h4⟩:=Qbx.1 h;have hnx:f.next≤(putF f n).next∧n.ino+1≤(putF f n).next:=by
  show f.next≤(if n.ino+1>f.next then n.ino+1 else f.next)∧n.ino+1≤(if n.ino+1>f.next then n.ino+1 else f.next)
  split<;>omega
 refine Qbx.2 ⟨by rw [Qrg h4 hb];exact h1,by omega,fun x hx=>?_,Qi3 h4⟩;rcases Qxd hx with rfl | hx
 ·exact ⟨hn,by omega⟩
 ·have:=h3 x hx;exact ⟨this.1,by omega⟩
theorem Zf6 {a b:List Ent} (h:lI a=lI b):a=b:=by rw [← lI_O a,← lI_O b,h]
theorem Zf5 (l:List Ent):(lI l).length=l.length:=by simp [lI]
noncomputable def delL (l:List Ent) (s:Txt):List Ent:=if isB l s=true then l.take (posI l s)++l.drop (posI l s+1) else l
def Qhv (l:List Ent) (s:Txt):Int:=if isB l s=true then 0 else 6
theorem Qzm {l:List Ent} (h:Srt (lI l)) (s:Txt):lI (delL l s)=delE (lI l) s:=by
 unfold delL
 split
 ·rename_i hi;rw [← Name.take_del h hi];simp [lI,posI,W17,W2f]
 ·rename_i hi;exact (Name.del_none (by simpa [isB] using hi)).symm
theorem Qd1 {l:List Ent} {s:Txt} {n:Int} (h:Qak s=0) (hn:1≤n) (hi:isB l s=false) (hl:l.length<256):entE l s n=0:=by
 unfold entE;rw [W1x (by rw [h];decide),W1x (by omega),W1x (by rw [hi];decide),W1x (by omega)]
theorem Quk {l:List Ent} {s:Txt} {n:Int} (h:Srt (lI l)) (he:entE l s n=0):lI (entL l s n)=insE (lI l) (s,n):=by
 unfold entL;rw [W1y he,← Name.take_ins h];simp [lI,posI,W17,W2f]
theorem Zhg {l:List Ent} {s:Txt} {n:Int} (h:Srt (lI l)) (he:entE l s n=0) (hi:isB l s=false):delL (entL l s n) s=l:=by
 have hs:Srt (lI (entL l s n)):=by rw [Quk h he];exact Name.srt_ins h hi
 apply Zf6;rw [Qzm hs,Quk h he,Name.del_ins hi]
theorem Qr6 {l:List Ent} {s t:Txt} {n:Int} (h:Srt (lI l)) (he:entE l s n=0) (hi:isB l s=false):getE (lI (entL l s n)) t=if t=s then some n else getE (lI l) t:=by
 rw [Quk h he,Name.get_ins hi]
theorem get_del {l:List Ent} {s t:Txt} (h:Srt (lI l)):getE (lI (delL l s)) t=if t=s then none else getE (lI l) t:=by
 rw [Qzm h,Name.get_del]
theorem Qer (l:List Ent) (s:Txt):isB l s=(getE (lI l) s).isSome:=Name.get_some
theorem Qeb (l:List Ent) (s:Txt):getI l s=(getE (lI l) s).getD 0:=rfl
theorem Qi0 {l:List Ent}:Name.rightE (lI l)=true↔rowP l:=by rw [Qyu,lI_O]
theorem Qsf {l:List Ent} {s:Txt} {n:Int} (h:rowP l) (hc:Qak s=0) (hn:1≤n) (hi:isB l s=false) (hl:l.length<256):rowP (entL l s n):=by
 rw [← Qi0,Quk (Qdc h) (Qd1 hc hn hi hl)];exact Name.right_ins (Qi0.2 h) (Ql4.2 (Qcw.1 hc)) hn hi (by rw [Zf5];exact hl)
theorem Zhe {l:List Ent} {s:Txt} (h:rowP l):rowP (delL l s):=by
 have h2:=Qi0.2 h;rw [← Qi0,Qzm (Qdc h)];obtain ⟨h3,h4,h5⟩:=(Name.rightE_iff _).1 h2;exact (Name.rightE_iff _).2 ⟨W1a (W2h _ _) h3,fun x hx=>h4 x (W1m.1 hx).1,Name.srt_del h5 s⟩
theorem Qoy {l:List Ent} {s:Txt} {n:Int}:(entL l s n).length≤l.length+1:=by
 unfold entL
 split
 ·simp only [W0e,W0b,W0g,W0p];omega
 ·omega
theorem Qxy {l:List Ent} {s:Txt}:(delL l s).length≤l.length:=by
 unfold delL
 split
 ·simp only [W0e,W0g,W0p];omega
 ·omega
theorem Qvr {f:Fsy} {i:Int} (h:dirE f i=0):∃ d,atF f i=some d∧d.kind=2∧dirN f i=d∧Qaa f i=d∧Qav f i=true:=by
 unfold dirE at h
 split at h
 ·rename_i hb
  split at h
  ·rename_i hk;exact ⟨Qaa f i,Qgb hb,hk,(Qz7 hb hk).2,rfl,hb⟩
  ·cases h
 ·cases h
theorem Qoz {f:Fsy} {i:Int} {d:Nod} (h:atF f i=some d) (hk:d.kind=2):dirE f i=0∧dirN f i=d:=by
 obtain ⟨h1,h2⟩:=Qfr h;have:=Qz7 h1 (by rw [h2];exact hk);rw [h2] at this;exact this
theorem Qdp {n:Nod} (h:nodP n) (hk:n.kind=2):n.text=[]∧rowP n.l:=by
 rcases h.2.2.2 with ⟨_,h1,h2⟩ | ⟨h1,_⟩
 ·exact ⟨h1,h2⟩
 ·omega
theorem Qgz {n:Nod} (h:nodP n) (hk:¬ n.kind=2):n.l=[]:=by
 rcases h.2.2.2 with ⟨h1,_⟩ | ⟨_,_,h1⟩
 ·exact absurd h1 hk
 ·exact h1
theorem Qi8 {f:Fsy} {i:Int} {s:Txt} (hp:Qan f):Qa4 f i s=0↔∃ d j n,atF f i=some d∧d.kind=2∧Qak s=0∧getE (lI d.l) s=some j∧atF f j=some n:=by
 constructor
 ·intro h;unfold Qa4 at h;rw [Qjr] at h
  split at h
  ·rename_i h1
   split at h
   ·rename_i h2;obtain ⟨d,g1,g2,g3,g4⟩:=Qvr h1;cases hb:Qav f (Qd3 f i s) with
    | false=>rw [hb] at h;cases h
    | true=>
     have hl:=Qgb hb;unfold Qd3 at hl;rw [g3,Qeb] at hl;cases hg:getE (lI d.l) s with
     | none=>rw [hg] at hl;rw [show (none:Option Int).getD 0=0 from rfl,Qil (Zgy hp)] at hl;cases hl
     | some j=>rw [hg] at hl;exact ⟨d,j,_,g1,g2,h2,hg,hl⟩
   ·exact absurd h (by assumption)
  ·exact absurd h (by assumption)
 ·rintro ⟨d,j,n,h1,h2,h3,h4,h5⟩;obtain ⟨g1,g2⟩:=Qoz h1 h2;unfold Qa4;rw [Qjr,W1y g1,W1y h3];have:Qav f (Qd3 f i s)=true:=by unfold Qd3;rw [g2,Qeb,h4];exact (Qfr h5).1
  rw [this];rfl
theorem Qfm {f:Fsy} {i:Int} {s:Txt} {d n:Nod} {j:Int} (h1:atF f i=some d) (h2:d.kind=2) (h3:Qak s=0) (h4:getE (lI d.l) s=some j) (h5:atF f j=some n):Qa4 f i s=0∧lookN f i s=n:=by
 obtain ⟨g1,g2⟩:=Qoz h1 h2;have hi:Qd3 f i s=j:=by unfold Qd3;rw [g2,Qeb,h4];rfl
 have he:Qa4 f i s=0:=by
  unfold Qa4;rw [Qjr,W1y g1,W1y h3,hi,(Qfr h5).1];rfl
 exact ⟨he,by rw [Qru he,hi,(Qfr h5).2]⟩
theorem Qoa {f:Fsy} {i:Int} {s:Txt} {d:Nod} (hp:Qan f) (h1:atF f i=some d) (h2:d.kind=2) (h3:Qak s=0) (h4:getE (lI d.l) s=none):Qa4 f i s=6:=by
 obtain ⟨g1,g2⟩:=Qoz h1 h2;have hi:Qd3 f i s=0:=by unfold Qd3;rw [g2,Qeb,h4];rfl
 unfold Qa4;rw [Qjr,W1y g1,W1y h3,hi,Zgy hp];rfl
end Go.Proofs.YtahlldgocpabjaaGreat

namespace Go.Proofs.YtahlldgocpabjaaGreat
open Go Go.RowKit Copyhold Go.Proofs.Tryz
def namK (z:Int) (n:Nod):Nat:=if n.kind=2 then cntE z n else 0
def nam (f:Fsy) (z:Int):Nat:=(f.l.map (namK z)).sum
theorem Zht (z:Int):∀ (l:List Ent) (L:List (Int × Nat)),cntG (Zcq L l) z=cntG L z+l.countP (isE z)
 | [],L=>rfl
 | e :: r,L=>by
  show cntG (Zcq (cntI L e.ino) r) z=_;rw [Zht z r,Zmp,List.countP_cons];unfold isE;by_cases h:e.ino=z<;>simp [h]<;>omega
theorem Zhp (z:Int):∀ (l:List Nod) (L:List (Int × Nat)),cntG (Zhq L l) z=cntG L z+(l.map (namK z)).sum
 | [],L=>rfl
 | n :: r,L=>by
  show cntG (Zhq (if n.kind=2 then Zcq L n.l else L) r) z=_;rw [Zhp z r];simp only [W1u,List.sum_cons,namK]
  split
  ·rw [Zht];unfold cntE;omega
  ·omega
theorem Qo1 (f:Fsy) (z:Int):cntG (Qhx f) z=nam f z:=by
 unfold Qhx nam;rw [Zhp];simp [cntG]
theorem Zaf:∀ {L:List (Int × Nat)} {z:Int},1≤cntG L z→∃ p∈L,p.1=z
 | p :: r,z,h=>by
  unfold cntG at h
  split at h
  ·rename_i e;exact ⟨p,by simp,e⟩
  ·obtain ⟨q,hq,e⟩:=Zaf h;exact ⟨q,by simp [hq],e⟩
theorem Zhr:∀ {L:List (Int × Nat)} (y:Int),(∀ p∈L,1≤p.2)→∀ p∈cntI L y,1≤p.2
 | [],y,_,p,hp=>by obtain rfl:=W0z.1 hp;exact W0m _
 | q :: r,y,h,p,hp=>by
  unfold cntI at hp
  split at hp
  ·rcases W0y.1 hp with rfl | hp
   ·show 1≤q.2+1;omega
   ·exact h p (by simp [hp])
  ·rcases W0y.1 hp with rfl | hp
   ·exact h p (by simp)
   ·exact Zhr y (fun p hp=>h p (by simp [hp])) p hp
theorem Zae:∀ {L:List (Int × Nat)} (y:Int),(L.map (·.1)).Nodup→((cntI L y).map (·.1)).Nodup∧∀ z,z∈(cntI L y).map (·.1)→z=y∨z∈L.map (·.1)
 | [],y,_=>⟨by simp [cntI],fun z hz=>.inl (by simpa [cntI] using hz)⟩
 | q :: r,y,h=>by
  unfold cntI
  split
  ·exact ⟨h,fun z hz=>.inr hz⟩
  ·rename_i hne;obtain ⟨h1,h2⟩:=List.nodup_cons.1 h;obtain ⟨g1,g2⟩:=Zae y h2;refine ⟨List.nodup_cons.2 ⟨fun hm=>?_,g1⟩,fun z hz=>?_⟩
   ·rcases g2 _ hm with e | e
    ·exact hne e
    ·exact h1 e
   ·rcases W0y.1 hz with e | hz
    ·exact .inr (by simp [e])
    ·rcases g2 z hz with e | e
     ·exact .inl e
     ·exact .inr (by simp only [W1u];exact W12 _ e)
def Qlg (L:List (Int × Nat)):Prop:=(∀ p∈L,1≤p.2)∧(L.map (·.1)).Nodup
theorem Qlg.step {L:List (Int × Nat)} (h:Qlg L) (y:Int):Qlg (cntI L y):=⟨Zhr y h.1,(Zae y h.2).1⟩
theorem Qlg.ents:∀ {l:List Ent} {L:List (Int × Nat)},Qlg L→Qlg (Zcq L l)
 | [],_,h=>h
 | e :: r,_,h=>Qlg.ents (l:=r) (h.step e.ino)
theorem Qlg.nodes:∀ {l:List Nod} {L:List (Int × Nat)},Qlg L→Qlg (Zhq L l)
 | [],_,h=>h
 | n :: r,L,h=>by
  show Qlg (Zhq (if n.kind=2 then Zcq L n.l else L) r);refine Qlg.nodes ?_
  split
  ·exact h.ents
  ·exact h
theorem Zab (f:Fsy):Qlg (Qhx f):=Qlg.nodes ⟨fun p h=>(by cases h),List.nodup_nil⟩
theorem Zhs:∀ {L:List (Int × Nat)} {p:Int × Nat},(L.map (·.1)).Nodup→p∈L→cntG L p.1=p.2
 | q :: r,p,h,hp=>by
  obtain ⟨h1,h2⟩:=List.nodup_cons.1 h;unfold cntG;rcases W0y.1 hp with rfl | hp
  ·simp
  ·rw [W1x (fun e:q.1=p.1=>h1 (by show q.1∈r.map (·.1);rw [e];exact List.mem_map_of_mem hp))];exact Zhs h2 hp
theorem Qva {f:Fsy} {z:Int}:(∃ p∈Qhx f,p.1=z)↔1≤nam f z:=by
 rw [← Qo1];refine ⟨fun ⟨p,hp,e⟩=>?_,Zaf⟩;rw [← e,Zhs (Zab f).2 hp];exact (Zab f).1 p hp
theorem Qlk {α:Type} {g:α→Nat}:∀ {l:List α} {x:α},x∈l→g x≤(l.map g).sum
 | y :: r,x,h=>by
  have hs:((y :: r).map g).sum=g y+(r.map g).sum:=by simp
  rw [hs];rcases W0y.1 h with e | h
  ·rw [e];omega
  ·have:=Qlk (g:=g) h;omega
theorem Zdj {α:Type} {g:α→Nat}:∀ {l:List α} {x y:α},x∈l→y∈l→x ≠ y→g x+g y≤(l.map g).sum
 | z :: r,x,y,hx,hy,hne=>by
  have hs:((z :: r).map g).sum=g z+(r.map g).sum:=by simp
  rw [hs];rcases W0y.1 hx with ex | hx<;>rcases W0y.1 hy with ey | hy
  ·exact absurd (ex.trans ey.symm) hne
  ·have:=Qlk (g:=g) hy;rw [ex];omega
  ·have:=Qlk (g:=g) hx;rw [ey];omega
  ·have:=Zdj (g:=g) hx hy hne;omega
theorem Qym {α:Type} {g:α→Nat}:∀ {l:List α},1≤(l.map g).sum→∃ x∈l,1≤g x
 | z :: r,h=>by
  have hs:((z :: r).map g).sum=g z+(r.map g).sum:=by simp
  rw [hs] at h;by_cases hz:1≤g z
  ·exact ⟨z,by simp,hz⟩
  ·obtain ⟨x,hx,hg⟩:=Qym (g:=g) (l:=r) (by omega);exact ⟨x,by simp [hx],hg⟩
theorem Qce {f:Fsy} {i:Int} {d:Nod} (h:atF f i=some d) (hk:d.kind=2):Qa9 f i=d.l.map Ent.ino:=by
 have:=(Qfr h).2;unfold Qa9;rw [this,W1y hk]
theorem Qe4 {f:Fsy} {i z:Int} (h:z∈Qa9 f i):∃ d,atF f i=some d∧d.kind=2∧∃ e∈d.l,e.ino=z:=by
 have h0:=h;unfold Qa9 at h
 split at h
 ·rename_i hk;have hb:Qav f i=true:=by
   cases hb:Qav f i with
   | true=>rfl
   | false=>exact absurd hk (Qu2 hb)
  obtain ⟨e,he,hz⟩:=W1j.1 h;exact ⟨_,Qgb hb,hk,e,he,hz⟩
 ·cases h
theorem Qid {f:Fsy} {i z:Int} {d:Nod} {e:Ent} (h:atF f i=some d) (hk:d.kind=2) (he:e∈d.l) (hz:e.ino=z):z∈Qa9 f i:=by
 rw [Qce h hk];exact W1j.2 ⟨e,he,hz⟩
theorem Qkp {z:Int} {d:Nod}:1≤namK z d↔d.kind=2∧∃ e∈d.l,e.ino=z:=by
 unfold namK cntE
 split
 ·rename_i hk;rw [show (1≤d.l.countP (isE z))=(0<d.l.countP (isE z)) from rfl,List.countP_pos_iff];simp [isE,hk]
 ·rename_i hk;simp [hk]
theorem Qlu {f:Fsy} {z:Int} (hr:Qb1 f.l):1≤nam f z↔∃ i,z∈Qa9 f i:=by
 constructor
 ·intro h;obtain ⟨d,hd,hg⟩:=Qym h;obtain ⟨hk,e,he,hz⟩:=Qkp.1 hg;exact ⟨d.ino,Qid (Zc0 hr hd) hk he hz⟩
 ·rintro ⟨i,h⟩;obtain ⟨d,hd,hk,e,he,hz⟩:=Qe4 h;exact W1a (Qkp.2 ⟨hk,e,he,hz⟩) (Qlk (Qdk hd))
theorem Zfm {f:Fsy} {z i j:Int} (hi:z∈Qa9 f i) (hj:z∈Qa9 f j) (h1:nam f z=1):i=j:=by
 obtain ⟨d,hd,hk,e,he,hz⟩:=Qe4 hi;obtain ⟨d',hd',hk',e',he',hz'⟩:=Qe4 hj;by_cases hne:d=d'
 ·rw [← Qc7 hd,← Qc7 hd',hne]
 ·have:=Zdj (g:=namK z) (Qdk hd) (Qdk hd') hne;have:=Qkp.2 ⟨hk,e,he,hz⟩;have:=Qkp.2 ⟨hk',e',he',hz'⟩;unfold nam at h1;omega
structure TreeP (f:Fsy):Prop where
 rows:Qan f
 root:∃ n,atF f 1=some n∧n.kind=2∧n.links=0
 cnt:∀ i n,atF f i=some n→n.links=(nam f i:Int)
 kid:∀ i z,z∈Qa9 f i→(∃ n,atF f z=some n)∧¬ z=1
 pos:∀ i n,atF f i=some n→¬ i=1→1≤n.links
 dir:∀ i n,atF f i=some n→n.kind=2→¬ i=1→n.links=1∧Reach f 1 i
theorem Qi1 {f:Fsy} {a b:Int} (h:Reach f a b):∃ q,(q=a∨Reach f a q)∧b∈Qa9 f q:=by
 induction h with
 | one h=>exact ⟨_,.inl rfl,h⟩
 | @more i y z h _ ih=>
  obtain ⟨q,hq,hk⟩:=ih;refine ⟨q,.inr ?_,hk⟩;rcases hq with rfl | hq
  ·exact .one h
  ·exact .more h hq
theorem Qhb {f:Fsy} {a b:Int} (h:Reach f a b):∃ y,y∈Qa9 f a:=by
 cases h with
 | one h=>exact ⟨_,h⟩
 | more h _=>exact ⟨_,h⟩
inductive RT (f:Fsy):Int→Prop where
 | base {z:Int}:z∈Qa9 f 1→RT f z
 | step {p z:Int}:RT f p→z∈Qa9 f p→RT f z
theorem rt_of {f:Fsy} {a b:Int} (h:Reach f a b):(a=1∨RT f a)→RT f b:=by
 induction h with
 | one h=>
  rintro (rfl | hr)
  ·exact .base h
  ·exact .step hr h
 | more h _ ih=>
  rintro (rfl | hr)
  ·exact ih (.inr (.base h))
  ·exact ih (.inr (.step hr h))
theorem TreeP.no1 {f:Fsy} (h:TreeP f) {i:Int}:¬ Reach f i 1:=fun hr=>by
 obtain ⟨q,_,hk⟩:=Qi1 hr;exact (h.kid q 1 hk).2 rfl
theorem TreeP.reach {f:Fsy} (h:TreeP f) {i:Int} {n:Nod} (hn:atF f i=some n) (hi:¬ i=1):Reach f 1 i:=by
 by_cases hk:n.kind=2
 ·exact (h.dir i n hn hk hi).2
 ·have hp:=h.pos i n hn hi;rw [h.cnt i n hn] at hp;obtain ⟨q,hq⟩:=(Qlu (Qaf h.rows)).1 (show 1≤nam f i by omega);by_cases h1:q=1
  ·subst h1;exact .one hq
  ·obtain ⟨d,hd,hdk,_⟩:=Qe4 hq;exact (h.dir q d hd hdk h1).2.snoc hq
theorem TreeP.one {f:Fsy} (h:TreeP f) {i:Int} {n:Nod} (hn:atF f i=some n) (hk:n.kind=2) (hi:¬ i=1):nam f i=1:=by
 have h1:=(h.dir i n hn hk hi).1;rw [h.cnt i n hn] at h1;omega
theorem TreeP.acyc {f:Fsy} (h:TreeP f) {w:Int}:¬ Reach f w w:=by
 have key:∀ w,RT f w→¬ Reach f w w:=by
  intro w hw
  induction hw with
  | @base z hz=>
   intro hr;obtain ⟨q,hq,hk⟩:=Qi1 hr;obtain ⟨y,hy⟩:=Qhb hr;obtain ⟨d,hd,hdk,_⟩:=Qe4 hy;have hz1:=(h.kid 1 z hz).2;have e:=Zfm hk hz (h.one hd hdk hz1);subst e;rcases hq with e | hq
   ·exact hz1 e.symm
   ·exact h.no1 hq
  | @step p z hp hz ih=>
   intro hr;obtain ⟨q,hq,hk⟩:=Qi1 hr;obtain ⟨y,hy⟩:=Qhb hr;obtain ⟨d,hd,hdk,_⟩:=Qe4 hy;have hz1:=(h.kid p z hz).2;have e:=Zfm hk hz (h.one hd hdk hz1);subst e;rcases hq with e | hq
   ·rw [← e] at hr;exact ih hr
   ·exact ih (.more hz hq)
 intro hr;obtain ⟨q,_,hk⟩:=Qi1 hr;obtain ⟨⟨n,hn⟩,h1⟩:=h.kid q w hk;exact key w (rt_of (h.reach hn h1) (.inl rfl)) hr
theorem Qk2 {f:Fsy} {n:Nod} (h:f.l[0]?=some n) (hn:n.ino=1) (hr:Qb1 f.l):atF f 1=some n:=by
 have:=Zc0 hr (W0h h)
 rwa [hn] at this
theorem Zom {f:Fsy} {n0 n:Nod} {i:Int} (h0:f.l[0]?=some n0) (h1:n0.ino=1) (hn:atF f i=some n) (hi:¬ i=1):n∈f.l.drop 1:=by
 obtain ⟨j,hj⟩:=W0w (Qdk hn);cases j with
 | zero=>
  rw [h0] at hj;obtain rfl:=W0c hj;exact absurd ((Qc7 hn).symm.trans h1) hi
 | succ j=>exact W0h (i:=j) (by rw [W08,Nat.add_comm];exact hj)
theorem Zo4 {f:Fsy} {n0 n:Nod} {i:Int} (hr:Qb1 f.l) (h0:f.l[0]?=some n0) (h1:n0.ino=1) (hn:n∈f.l.drop 1):atF f n.ino=some n∧¬ n.ino=1:=by
 obtain ⟨j,hj⟩:=W0w hn;rw [W08] at hj;refine ⟨Zc0 hr (W0h hj),fun e=>?_⟩;have h:=W1d.1 hr;have l0:=Qap h0;have lj:=Qap hj;have g:=h 0 (1+j) l0 lj (by omega);have e0:f.l[0]=n0:=W0c ((W0d l0).symm.trans h0);have ej:f.l[1+j]=n:=W0c ((W0d lj).symm.trans hj);rw [e0,ej] at g;omega
theorem Zbl {f:Fsy}:rightT f↔TreeP f:=by
 constructor
 ·rintro ⟨h1,⟨n0,h2,h3,h4,h5⟩,h6,h7⟩;have hr:=Qaf h1;have key:∀ i n,atF f i=some n→¬ i=1→nodeT f 0 n:=fun i n hn hi=>by
   obtain ⟨j,hj⟩:=W0w (Zom h2 h3 hn hi);exact h7 j n hj
  have h1k:∀ z,1≤nam f z→keyT f z:=fun z hz=>by
   obtain ⟨p,hp,e⟩:=Qva.2 hz;exact e ▸ h6 p hp
  refine ⟨h1,⟨n0,Qk2 h2 h3 hr,h4,h5⟩,fun i n hn=>?_,fun i z hz=>?_,fun i n hn hi=>(key i n hn hi).1,fun i n hn hk hi=>?_⟩
  ·by_cases hi:i=1
   ·subst hi;rw [Qk2 h2 h3 hr] at hn;obtain rfl:=W0c hn;have:¬ 1≤nam f 1:=fun h=>(h1k 1 h).2 rfl;omega
   ·have:=(key i n hn hi).2.1;rw [Qo1,Qc7 hn] at this;exact this
  ·have:=h1k z ((Qlu hr).2 ⟨i,hz⟩);exact ⟨⟨_,Qgb this.1⟩,this.2⟩
  ·have:=(key i n hn hi).2.2 hk;rw [Qc7 hn] at this;exact ⟨this.1,Qh6.1 this.2⟩
 ·intro h;have hr:=Qaf h.rows;obtain ⟨n0,g1,g2,g3⟩:=h.root;obtain ⟨m0,hm0⟩:∃ m,f.l[0]?=some m:=by
   cases hl:f.l with
   | nil=>have:=Qdk g1;rw [hl] at this;cases this
   | cons x r=>exact ⟨x,rfl⟩
  have hm1:m0=n0:=by
   obtain ⟨j,hj⟩:=W0w (Qdk g1);cases j with
   | zero=>rw [hm0] at hj;exact W0c hj
   | succ j=>
    have hp:=W1d.1 hr;have l0:=Qap hm0;have lj:=Qap hj;have g:=hp 0 (j+1) l0 lj (by omega);have e0:f.l[0]=m0:=W0c ((W0d l0).symm.trans hm0);have ej:f.l[j+1]=n0:=W0c ((W0d lj).symm.trans hj);rw [e0,ej] at g;have:=Qc7 g1;have:=((Qbx.1 h.rows).2.2.1 m0 (W0h hm0)).1.1;have g':m0.ino<n0.ino:=g;omega
  subst hm1;have hi0:m0.ino=1:=Qc7 g1;refine ⟨h.rows,⟨m0,hm0,hi0,g2,g3⟩,fun p hp=>?_,fun j n hj=>?_⟩
  ·obtain ⟨i,hi⟩:=(Qlu hr).1 (Qva.1 ⟨p,hp,rfl⟩);obtain ⟨⟨n,hn⟩,h2⟩:=h.kid i p.1 hi;exact ⟨(Qfr hn).1,h2⟩
  ·obtain ⟨a1,a2⟩:=Zo4 (i:=0) hr hm0 hi0 (W0h hj);exact ⟨h.pos _ n a1 a2,by rw [Qo1];exact h.cnt _ n a1,fun hk=>⟨(h.dir _ n a1 hk a2).1,Qh6.2 (h.dir _ n a1 hk a2).2⟩⟩
end Go.Proofs.YtahlldgocpabjaaGreat

namespace Go.Proofs.YtahlldgocpabjaaGreat
open Go Go.RowKit Copyhold Go.Proofs.Tryz
open Copyhold.Name (Srt insE delE getE isAt)
theorem Qri {l:List Ent} {s:Txt} (h:Srt (lI l)) (hi:isB l s=true):posI l s<l.length:=by
 obtain ⟨x,hx,_⟩:=Name.get_pos h hi;have:=Qap hx;rw [Zf5] at this;exact this
theorem Zgp {l:List Ent} {s:Txt} {x:Ent} (h:Srt (lI l)) (hi:isB l s=true) (hx:l[posI l s]?=some x):getI l s=x.ino:=by
 obtain ⟨y,hy,_,hg⟩:=Name.get_pos h hi;rw [Qeb,hg];have:(lI l)[Name.pos (lI l) s]?=some ((x.name,x.ino):NEnt):=by
  unfold lI at hy ⊢;rw [W0v];have hx':l[Name.pos (lI l) s]?=some x:=hx;unfold lI at hx';rw [hx'];rfl
 rw [this] at hy;obtain rfl:=W0c hy;rfl
theorem Zb9 (l:List Ent) (s:Txt) (hl:l.length≤256) (hr:Name.Srt (lI l)):Qai prog 224 [.sl 2 false (l.map entA),aS s] (.tup [.sl 2 false ((delL l s).map entA),aI (getI l s),aI (Qhv l s)]):=by
 exact Qae func224 (
 .r 3<|.r 2<|.call (Qn2 l s (by omega) hr)<|
 .r 5<|.r 2<|.br 17 (!(isB l s)) (fun q1=>have q1:=notT q1;have p1:=booF q1;.r 4<|.f (.tup [.sl 2 false ((delL l s).map entA),aI (getI l s),aI (Qhv l s)]) [] (.tup [.sl 2 false (l.map entA),aI 0,aI 6]) (by
  have e:delL l s=l:=W1x (by rw [q1];decide);have e2:Qhv l s=6:=W1x (by rw [q1];decide);rw [e,e2,Qr7 q1];exact W2s ⟨by first | exact sR | exact W2r _ _ _,sR,sR,trivial⟩))
 <| fun q1=>have q1:=notF q1;have p1:=booT q1;have hlt:=Qri hr q1;.r 2<|.lm 20 l entA<|.mk0 24 l.length (show (l.length:Int)=((l.length:Nat):Int) from by omega) (by have hq:=Qbt l s;simp<;>omega) (by have hq:=Qbt l s;simp<;>omega) fun V1=>
 .r 1<|.r 3<|.slc 2 false (l.map entA) none (some (posI l s:Int)) none 0 (posI l s) false (.inl ⟨rfl,rfl⟩) (.inr rfl) (.inl ⟨rfl,fun h=>by cases h⟩) (by have hq:=Qbt l s;first | omega | (rw [W0a];omega) | (simp<;>omega)) (by have hq:=Qbt l s;first | omega | (rw [W0a];omega) | (simp<;>omega))<|
 .app 24 V1 ([]:List (List AV)) (((l.map entA).take (posI l s)).drop 0) (by have hq:=Qbt l s;simp<;>omega) (by have hq:=Qbt l s;simp<;>omega) fun V2=>
 .r 1<|.pick [0,1,2,3,4,6,7,8,9]<|.run 4 [rng .i64 ((posI l s:Int)+1)] ⟨Qah,trivial⟩<|
 .slc 2 false (l.map entA) (some ((posI l s:Int)+1)) none none (posI l s+1) ((l.map entA).length) false (.inr (W1z some (by omega))) (.inl ⟨rfl,rfl⟩) (.inl ⟨rfl,fun h=>by cases h⟩) (by have hq:=Qbt l s;first | omega | (rw [W0a];omega) | (simp<;>omega)) (by have hq:=Qbt l s;first | omega | (rw [W0a];omega) | (simp<;>omega))<|
 .r 2<|.idxM l entA (posI l s) (m:=(posI l s:Int)) rfl (Qri hr (by assumption)) fun x1 hx1=>
 .r 1<|.fork<|.alt (.app 24 V2 (([]:List (List AV))++(((l.map entA).take (posI l s)).drop 0)) (((l.map entA).take ((l.map entA).length)).drop (posI l s+1)) (by have hq:=Qbt l s;simp<;>omega) (by have hq:=Qbt l s;simp<;>omega) fun V3=>
 .pick [10,11,12,13]<|.r 4<|.frz 21 [4,5,6] [] [V3=V3,(([]:List (List AV))++(((l.map entA).take (posI l s)).drop 0)).length+(((l.map entA).take ((l.map entA).length)).drop (posI l s+1)).length=((([]:List (List AV))++(((l.map entA).take (posI l s)).drop 0))++(((l.map entA).take ((l.map entA).length)).drop (posI l s+1))).length] ⟨rfl,(by first | rfl | (simp;done) | (simp;omega)),trivial⟩<|
 .f (.tup [.sl 2 false ((delL l s).map entA),aI (getI l s),aI (Qhv l s)]) [] (.tup [.sl 2 false ((([]:List (List AV))++(((l.map entA).take (posI l s)).drop 0))++(((l.map entA).take ((l.map entA).length)).drop (posI l s+1))),aI x1.ino,aI 0]) (by
  have e:delL l s=l.take (posI l s)++l.drop (posI l s+1):=W1y q1;have e2:Qhv l s=0:=W1y q1;rw [e,e2,Zgp hr q1 hx1];exact W2s ⟨W2p (W1z (AV.sl 2 false) (by simp [entA,W17,W2f,Qat])),sR,sR,trivial⟩))
 <| .r 1<|.pick [5,11,12,13]<|.app 24 V2 (([]:List (List AV))++(((l.map entA).take (posI l s)).drop 0)) (((l.map entA).take ((l.map entA).length)).drop (posI l s+1)) (by have hq:=Qbt l s;simp<;>omega) (by have hq:=Qbt l s;simp<;>omega) fun V4=>
 .r 3<|.frz 21 [4,5,6] [] [V4=V4,(([]:List (List AV))++(((l.map entA).take (posI l s)).drop 0)).length+(((l.map entA).take ((l.map entA).length)).drop (posI l s+1)).length=((([]:List (List AV))++(((l.map entA).take (posI l s)).drop 0))++(((l.map entA).take ((l.map entA).length)).drop (posI l s+1))).length] ⟨rfl,(by first | rfl | (simp;done) | (simp;omega)),trivial⟩<|
 .f (.tup [.sl 2 false ((delL l s).map entA),aI (getI l s),aI (Qhv l s)]) [] (.tup [.sl 2 false ((([]:List (List AV))++(((l.map entA).take (posI l s)).drop 0))++(((l.map entA).take ((l.map entA).length)).drop (posI l s+1))),aI x1.ino,aI 0]) (by
  have e:delL l s=l.take (posI l s)++l.drop (posI l s+1):=W1y q1;have e2:Qhv l s=0:=W1y q1;rw [e,e2,Zgp hr q1 hx1];exact W2s ⟨W2p (W1z (AV.sl 2 false) (by simp [entA,W17,W2f,Qat])),sR,sR,trivial⟩))
noncomputable def leaveF (f:Fsy) (d:Int) (s:Txt):Fsy:=putF f (Qbr (Qaa f d) (delL (Qaa f d).l s))
noncomputable def Qhr (n:Nod):Nod:=⟨n.ino,n.kind,n.links-1,n.text,n.l⟩
noncomputable def Qbm (f:Fsy) (d:Int) (s:Txt) (n:Nod):Fsy:=if n.links-1<1 then outF (leaveF f d s) n.ino else putF (leaveF f d s) (Qhr n)
theorem Qjz (f:Fsy) (dir:Int) (s:Txt) (okf:OkF f) (hp:Qan f) (hs:s.length≤1000000):Qai prog 191 [.agg (fsyA f),aI dir,aS s] (.agg (fsyA (leaveF f dir s))):=by
 have hl:=hp.1;have hr:=Qaf hp;exact Qae func191 (let R:AV:=.agg (fsyA (leaveF f dir s));
 .new fun b1=>.new fun b2=>.u 2 [b1]<|
 .call (Qcp f dir (by omega) hr)<|
 .r 3<|.new fun b3=>.u 2 [b3]<|
 .u 3 [b3]<|
 .call (Zb9 ((Qaa f dir).l) s (Qfa hp dir).2 (Qfa hp dir).1)<|
 .u 6 [b3]<|
 .u 2 [b1,b3]<|
 .cs (args0:=[.agg (fsyA f),.agg [aI ((Qaa f dir).ino),aI ((Qaa f dir).kind),aI ((Qaa f dir).links),aS ((Qaa f dir).text),.sl 2 false ((delL ((Qaa f dir).l) s).map entA)]]) (Qfz f (Qbr (Qaa f dir) (delL (Qaa f dir).l s)) (Qcg okf hp dir) (by omega) hr) sr2<|
 .u 1 [b2]<|
 .fi R [b2])
theorem Qzl (f:Fsy) (d:Int) (s:Txt):(leaveF f d s).l.length≤f.l.length+1:=Qnv _ _
theorem Qqg {f:Fsy} (h:Qan f) (d:Int) (s:Txt):Qb1 (leaveF f d s).l:=Qi3 (Qaf h)
theorem Qvp (f:Fsy) (dir:Int) (s:Txt) (n:Nod) (okf:OkF f) (hp:Qan f) (hs:s.length≤1000000) (hn:I64 n.ino∧n.ino<9223372036854775807) (hk:0≤n.links∧n.links≤1000):Qai prog 190 [.agg (fsyA f),aI dir,aS s,.agg (nodA n)] (.agg (fsyA (Qbm f dir s n))):=by
 have hl:=hp.1;have hr:=Qaf hp;exact Qae func190 (
 .new fun b1=>.new fun b2=>.new fun b3=>.u 3 [b1]<|
 .call (Qjz f dir s okf hp (by omega))<|
 .u 1 [b1]<|
 .run 5 [b2=b2,rng .i64 (n.links-1),b2=b2] ⟨rfl,Qah,rfl,trivial⟩<|
 .u 3 [b2]<|
 .bd 19 ((n.links-1)<1) (fun p1=>.u 3 [b1,b2]<|
 .call (Zjm (leaveF f dir s) n.ino (by have:=Qzl f dir s;omega) (Qqg hp dir s))<|
 .u 1 [b3]<|
 .f (.agg (fsyA (Qbm f dir s n))) [b3] (.agg [.sl 5 false ((outF (leaveF f dir s) n.ino).l.map nodA),aI ((outF (leaveF f dir s) n.ino).next)]) (by
  have e:Qbm f dir s n=_:=W1y (by omega);rw [e];exact sR))
 <| fun p1=>.u 2 [b1,b2]<|
 .cs (args0:=[.agg [.sl 5 false ((leaveF f dir s).l.map nodA),aI ((leaveF f dir s).next)],.agg [aI n.ino,aI n.kind,aI (n.links-1),aS n.text,.sl 2 false (n.l.map entA)]]) (Qfz (leaveF f dir s) (Qhr n) hn (by have:=Qzl f dir s;omega) (Qqg hp dir s)) sr2<|
 .u 1 [b3]<|
 .f (.agg (fsyA (Qbm f dir s n))) [b3] (.agg [.sl 5 false ((putF (leaveF f dir s) (Qhr n)).l.map nodA),aI ((putF (leaveF f dir s) (Qhr n)).next)]) (by
  have e:Qbm f dir s n=_:=W1x (by omega);rw [e];exact sR))
end Go.Proofs.YtahlldgocpabjaaGreat
