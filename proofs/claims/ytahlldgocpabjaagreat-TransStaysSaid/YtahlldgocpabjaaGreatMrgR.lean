import Derived.Test.YtahlldgocpabjaaGreatMrgQ
import Derived.Test.YtahlldgocpabjaaGreatMrgP
set_option maxRecDepth 100000
set_option maxHeartbeats 8000000
set_option linter.unusedVariables false
set_option linter.unusedSimpArgs false
namespace Go.Proofs.YtahlldgocpabjaaGreat
open Go Go.RowKit Copyhold
theorem Qnt {t:Bool} (a b c d e g:Int):Sub (.sl 1 t [[aI a],[aI b],[aI c],[aI d],[aI e],[aI g]]) (.sl 1 false ([a,b,c,d,e,g].map intA)):=Sub.loose _ _ _
theorem Qw5 {t:Bool} (a b c d:Int):Sub (.sl 1 t [[aI a],[aI b],[aI c],[aI d]]) (.sl 1 false ([a,b,c,d].map intA)):=Sub.loose _ _ _
noncomputable def Qec (n:Nod):Nod:=⟨n.ino,n.kind,n.links+1,n.text,n.l⟩
noncomputable def Qdm (f:Fsy) (d:Int) (s:Txt) (i:Int) (n:Nod):Fsy:=putF (enterF f d s i) (Qec n)
noncomputable def Qa5 (f:Fsy) (d:Int) (s:Txt) (i:Int):Int:=Qaq [dirE f d,Qab (!(Qar f i)) 6,Qab ((Qaa f i).kind==2) 9,Qah s,Qab (isB (dirN f d).l s) 7,Qab (decide (((dirN f d).l.length:Int)≥256)||decide ((Qaa f i).links≥64)) 12]
noncomputable def Qc1 (f:Fsy) (d:Int) (s:Txt) (i:Int):Fsy:=if Qa5 f d s i=0 then Qdm f d s i (Qaa f i) else f
theorem Qdt {f:Fsy} (hp:Qal f) (i:Int):0≤(Qaa f i).links∧(Qaa f i).links≤64:=by
 by_cases h:Qar f i=true
 ·have:=((Qbj.1 hp).2.2.1 _ (Qey h)).1
  exact ⟨this.2.1,this.2.2.1⟩
 ·rw [(Qtq (Qgr (by simpa using h))).2];decide
theorem Qw3 (f:Fsy) (dir:Int) (s:Txt) (i:Int) (n:Nod) (b:Nat) (okf:OkF f) (hp:Qal f) (hs:s.length≤1000000) (hi:I64 i) (hn:I64 n.ino∧n.ino<9223372036854775807) (hk:0≤n.links∧n.links≤1000):Qrw Tryz.prog 185 [.ptr 12 b 0,.dptr (fsyA f),.dptr [aI dir],.dptr [aS s],.dptr [aI i]] (.box b 84 (nodA n)) (.agg (fsyA (Qdm f dir s i n))):=by
 have hl:=hp.1
 have hr:=Qad hp
 exact Qik (q:=12) (F:=Tryz.f185) 400 (
 .new fun b1=>.run 5 [b=b,rng .i64 (n.links+1),b=b] ⟨rfl,Qas (by omega) (by omega),rfl,trivial⟩<|
 .ord [0,1,2,3,5,4,6,7]<|.run 5 [b=b] rt1<|
 .call (Qf2 f dir s i okf hp (by omega) hi)<|
 .callS (args0:=[.agg [.sl 5 false ((enterF f dir s i).l.map nodA),aI ((enterF f dir s i).next)],.agg [aI n.ino,aI n.kind,aI (n.links+1),aS n.text,.sl 2 false (n.l.map entA)]]) (args:=[.agg [.sl 5 false ((enterF f dir s i).l.map nodA),aI ((enterF f dir s i).next)],.agg [aI ((Qec n).ino),aI ((Qec n).kind),aI ((Qec n).links),aS ((Qec n).text),.sl 2 false ((Qec n).l.map entA)]]) sr2 (Qes (enterF f dir s i) (Qec n) hn (by have:=Qks f dir s i;omega) (Qg9 hp dir s i))<|
 .run 1 [b1=b1] rt1<|
 .fin (x:=.agg [.sl 5 false ((putF (enterF f dir s i) (Qec n)).l.map nodA),aI ((putF (enterF f dir s i) (Qec n)).next)]) (r:=.agg (fsyA (Qdm f dir s i n))) [b1=b1] rt1 (by exact sR)) Tryz.func185 rfl (by kernel_rfl) (by kernel_rfl)
theorem Qjv (e:Int) (f:Fsy) (dir:Int) (s:Txt) (i:Int) (n:Nod) (b:Nat) (okf:OkF f) (hp:Qal f) (hs:s.length≤1000000) (hi:I64 i) (hn:I64 n.ino∧n.ino<9223372036854775807) (hk:0≤n.links∧n.links≤1000):Qrw Tryz.prog 184 [.agg (fsyA f),aI e,.clo 185 [.ptr 12 b 0,.dptr (fsyA f),.dptr [aI dir],.dptr [aS s],.dptr [aI i]]] (.box b 84 (nodA n)) (.tup [.agg (fsyA (if e=0 then Qdm f dir s i n else f)),aI e]):=by
 exact Qik (q:=12) (F:=Tryz.f184) 400 (
 .new fun b1=>.new fun b2=>.r 1<|.r 2<|.br 9 (e != 0) (fun q1=>have p1:=bneT q1;.run 4 [b1=b1,b2=b2] rt2<|
 .fin (x:=.tup [.agg (fsyA f),aI e]) (r:=.tup [.agg (fsyA (if e=0 then Qdm f dir s i n else f)),aI e]) [b2=b2] rt1 (by
  rw [if_neg (show ¬ e=0 from by omega)]
  exact sR))
 <| fun q1=>have p1:=bneF q1;.lent 1<|.r 1<|.lop (lcR Tryz.prog 12) ((185,[.ptr 12 b 0,.dptr (fsyA f),.dptr [aI dir],.dptr [aS s],.dptr [aI i]],some 13),.box b 84 (nodA n)) (fun (_:Unit) σ=>(σ.put (some 13) (.agg [.sl 5 false ((Qdm f dir s i n).l.map nodA),aI ((Qdm f dir s i n).next)])).setB 12 gone) (Qcn (args':=[.ptr 12 b 0,.dptr (fsyA f),.dptr [aI dir],.dptr [aS s],.dptr [aI i]]) sr5 (Qw3 f dir s i n b okf hp hs hi hn hk)) fun _=>
 .run 2 [b2=b2] rt1<|
 .fin (x:=.tup [.agg [.sl 5 false ((Qdm f dir s i n).l.map nodA),aI ((Qdm f dir s i n).next)],aI 0]) (r:=.tup [.agg (fsyA (if e=0 then Qdm f dir s i n else f)),aI e]) [b2=b2] rt1 (by
  rw [if_pos (show e=0 from by omega),show e=0 from by omega]
  exact sR)) Tryz.func184 rfl (by kernel_rfl) (by kernel_rfl)
theorem Za5 (f:Fsy) (dir:Int) (s:Txt) (i:Int) (okf:OkF f) (hp:Qal f) (hs:s.length≤1000000) (hi:I64 i):Qaj Tryz.prog 143 [.agg (fsyA f),aI dir,aS s,aI i] (.tup [.agg (fsyA (Qc1 f dir s i)),aI (Qa5 f dir s i)]):=by
 have hl:=hp.1
 have hr:=Qad hp
 exact Qac (F:=Tryz.f143) 400 (
 .new fun b1=>.new fun b2=>.new fun b3=>.new fun b4=>.new fun b5=>.r 1<|.run 2 [b1=b1,b2=b2] rt2<|
 .call (Qhb f dir hp)<|
 .r 3<|.new fun b6=>.run 2 [b6=b6] rt1<|
 .run 2 [b1=b1,b4=b4] rt2<|
 .call (Qce f i (by omega) hr)<|
 .r 3<|.new fun b7=>.run 2 [b7=b7] rt1<|
 .run 3 [b6=b6,b3=b3] rt2<|
 .call (Qfk ((dirN f dir).l) s (by have:=(Qc2 hp dir).2;omega) (Qc2 hp dir).1)<|
 .r 5<|.ord [0,1,2,4,5,6,8,10,12,13,14,15,3,7,9,11,16,17,18,19,20,21,22,23,24]<|.run 11 [b7=b7,b3=b3,b6=b6] rt3<|
 .val 49 (show (aI (((dirN f dir).l.map entA).length:Int):AV)=aI (((dirN f dir).l).length:Int) from by rw [List.length_map])<|.r 1<|.call (Qbm (!(Qar f i)) 6)<|
 .call (Qbm (((Qaa f i).kind)==2) 9)<|
 .call (Qei s (by omega))<|
 .call (Qbm (isB ((dirN f dir).l) s) 7)<|
 .r 1<|.br 51 (decide ((((dirN f dir).l).length:Int)≥256)) (fun q1=>have p1:=decT q1;.r 4<|.call (Qbm true 12)<|
 .r 1<|.callS (args0:=[.sl 1 true ([[aI (dirE f dir)],[aI (Qab (!(Qar f i)) 6)],[aI (Qab (((Qaa f i).kind)==2) 9)],[aI (Qah s)],[aI (Qab (isB ((dirN f dir).l) s) 7)],[aI (Qab true 12)]])]) (args:=[.sl 1 false ([(dirE f dir),(Qab (!(Qar f i)) 6),(Qab (((Qaa f i).kind)==2) 9),(Qah s),(Qab (isB ((dirN f dir).l) s) 7),(Qab true 12)].map intA)]) ⟨Qnt (dirE f dir) (Qab (!(Qar f i)) 6) (Qab (((Qaa f i).kind)==2) 9) (Qah s) (Qab (isB ((dirN f dir).l) s) 7) (Qab true 12),trivial⟩ (Qci [(dirE f dir),(Qab (!(Qar f i)) 6),(Qab (((Qaa f i).kind)==2) 9),(Qah s),(Qab (isB ((dirN f dir).l) s) 7),(Qab true 12)] (by simp))<|
 .r 1<|.frz 4 [4,5,6,7,8,9,11,12,51,55] [5,6,7,8,12] [b1=b1] rt1<|
 .frz 5 [4,5,6,7,8,9,11,12,51,55] [6,7,8,12] [b2=b2] rt1<|
 .frz 6 [4,5,6,7,8,9,11,12,51,55] [7,8,12] [b3=b3] rt1<|
 .frz 7 [4,5,6,7,8,9,11,12,51,55] [8,12] [b4=b4] rt1<|
 .lent 3<|.r 3<|.lop (lcR Tryz.prog 12) ((184,[.agg (fsyA f),aI (Qaq [(dirE f dir),(Qab (!(Qar f i)) 6),(Qab (((Qaa f i).kind)==2) 9),(Qah s),(Qab (isB ((dirN f dir).l) s) 7),(Qab true 12)]),.clo 185 [.ptr 12 b7 0,.dptr (fsyA f),.dptr [aI dir],.dptr [aS s],.dptr [aI i]]],some 62),.box b7 84 [aI ((Qaa f i).ino),aI ((Qaa f i).kind),aI ((Qaa f i).links),aS ((Qaa f i).text),.sl 2 false ((Qaa f i).l.map entA)]) (fun (_:Unit) σ=>(σ.put (some 62) (.tup [.agg [.sl 5 false ((if Qaq [(dirE f dir),(Qab (!(Qar f i)) 6),(Qab (((Qaa f i).kind)==2) 9),(Qah s),(Qab (isB ((dirN f dir).l) s) 7),(Qab true 12)]=0 then Qdm f dir s i (Qaa f i) else f).l.map nodA),aI ((if Qaq [(dirE f dir),(Qab (!(Qar f i)) 6),(Qab (((Qaa f i).kind)==2) 9),(Qah s),(Qab (isB ((dirN f dir).l) s) 7),(Qab true 12)]=0 then Qdm f dir s i (Qaa f i) else f).next)],aI (Qaq [(dirE f dir),(Qab (!(Qar f i)) 6),(Qab (((Qaa f i).kind)==2) 9),(Qah s),(Qab (isB ((dirN f dir).l) s) 7),(Qab true 12)])])).setB 12 gone) (Qcn (args':=[.agg (fsyA f),aI (Qaq [(dirE f dir),(Qab (!(Qar f i)) 6),(Qab (((Qaa f i).kind)==2) 9),(Qah s),(Qab (isB ((dirN f dir).l) s) 7),(Qab true 12)]),.clo 185 [.ptr 12 b7 0,.dptr (fsyA f),.dptr [aI dir],.dptr [aS s],.dptr [aI i]]]) sr3 (Qjv (Qaq [(dirE f dir),(Qab (!(Qar f i)) 6),(Qab (((Qaa f i).kind)==2) 9),(Qah s),(Qab (isB ((dirN f dir).l) s) 7),(Qab true 12)]) f dir s i (Qaa f i) b7 okf hp hs hi (Qb4 okf hp i) (by have:=Qdt hp i;omega))) fun _=>
 .run 4 [b5=b5] rt1<|
 .fin (x:=.tup [.agg [.sl 5 false ((if Qaq [(dirE f dir),(Qab (!(Qar f i)) 6),(Qab (((Qaa f i).kind)==2) 9),(Qah s),(Qab (isB ((dirN f dir).l) s) 7),(Qab true 12)]=0 then Qdm f dir s i (Qaa f i) else f).l.map nodA),aI ((if Qaq [(dirE f dir),(Qab (!(Qar f i)) 6),(Qab (((Qaa f i).kind)==2) 9),(Qah s),(Qab (isB ((dirN f dir).l) s) 7),(Qab true 12)]=0 then Qdm f dir s i (Qaa f i) else f).next)],aI (Qaq [(dirE f dir),(Qab (!(Qar f i)) 6),(Qab (((Qaa f i).kind)==2) 9),(Qah s),(Qab (isB ((dirN f dir).l) s) 7),(Qab true 12)])]) (r:=.tup [.agg (fsyA (Qc1 f dir s i)),aI (Qa5 f dir s i)]) [b5=b5] rt1 (by
  have e:Qa5 f dir s i=Qaq [(dirE f dir),(Qab (!(Qar f i)) 6),(Qab (((Qaa f i).kind)==2) 9),(Qah s),(Qab (isB ((dirN f dir).l) s) 7),(Qab true 12)]:=by
   unfold Qa5
   simp only [q1,Bool.true_or,Bool.false_or,Bool.not_true,Bool.not_false]
  unfold Qc1
  rw [e]
  exact sR))
 <| fun q1=>have p1:=decF q1;.run 4 [b7=b7] rt1<|
 .call (Qbm (decide (((Qaa f i).links)≥64)) 12)<|
 .r 1<|.callS (args0:=[.sl 1 true ([[aI (dirE f dir)],[aI (Qab (!(Qar f i)) 6)],[aI (Qab (((Qaa f i).kind)==2) 9)],[aI (Qah s)],[aI (Qab (isB ((dirN f dir).l) s) 7)],[aI (Qab (decide (((Qaa f i).links)≥64)) 12)]])]) (args:=[.sl 1 false ([(dirE f dir),(Qab (!(Qar f i)) 6),(Qab (((Qaa f i).kind)==2) 9),(Qah s),(Qab (isB ((dirN f dir).l) s) 7),(Qab (decide (((Qaa f i).links)≥64)) 12)].map intA)]) ⟨Qnt (dirE f dir) (Qab (!(Qar f i)) 6) (Qab (((Qaa f i).kind)==2) 9) (Qah s) (Qab (isB ((dirN f dir).l) s) 7) (Qab (decide (((Qaa f i).links)≥64)) 12),trivial⟩ (Qci [(dirE f dir),(Qab (!(Qar f i)) 6),(Qab (((Qaa f i).kind)==2) 9),(Qah s),(Qab (isB ((dirN f dir).l) s) 7),(Qab (decide (((Qaa f i).links)≥64)) 12)] (by simp))<|
 .r 1<|.frz 4 [4,5,6,7,8,9,11,12,51] [5,6,7,8,12] [b1=b1] rt1<|
 .frz 5 [4,5,6,7,8,9,11,12,51] [6,7,8,12] [b2=b2] rt1<|
 .frz 6 [4,5,6,7,8,9,11,12,51] [7,8,12] [b3=b3] rt1<|
 .frz 7 [4,5,6,7,8,9,11,12,51] [8,12] [b4=b4] rt1<|
 .lent 3<|.r 3<|.lop (lcR Tryz.prog 12) ((184,[.agg (fsyA f),aI (Qaq [(dirE f dir),(Qab (!(Qar f i)) 6),(Qab (((Qaa f i).kind)==2) 9),(Qah s),(Qab (isB ((dirN f dir).l) s) 7),(Qab (decide (((Qaa f i).links)≥64)) 12)]),.clo 185 [.ptr 12 b7 0,.dptr (fsyA f),.dptr [aI dir],.dptr [aS s],.dptr [aI i]]],some 62),.box b7 84 [aI ((Qaa f i).ino),aI ((Qaa f i).kind),aI ((Qaa f i).links),aS ((Qaa f i).text),.sl 2 false ((Qaa f i).l.map entA)]) (fun (_:Unit) σ=>(σ.put (some 62) (.tup [.agg [.sl 5 false ((if Qaq [(dirE f dir),(Qab (!(Qar f i)) 6),(Qab (((Qaa f i).kind)==2) 9),(Qah s),(Qab (isB ((dirN f dir).l) s) 7),(Qab (decide (((Qaa f i).links)≥64)) 12)]=0 then Qdm f dir s i (Qaa f i) else f).l.map nodA),aI ((if Qaq [(dirE f dir),(Qab (!(Qar f i)) 6),(Qab (((Qaa f i).kind)==2) 9),(Qah s),(Qab (isB ((dirN f dir).l) s) 7),(Qab (decide (((Qaa f i).links)≥64)) 12)]=0 then Qdm f dir s i (Qaa f i) else f).next)],aI (Qaq [(dirE f dir),(Qab (!(Qar f i)) 6),(Qab (((Qaa f i).kind)==2) 9),(Qah s),(Qab (isB ((dirN f dir).l) s) 7),(Qab (decide (((Qaa f i).links)≥64)) 12)])])).setB 12 gone) (Qcn (args':=[.agg (fsyA f),aI (Qaq [(dirE f dir),(Qab (!(Qar f i)) 6),(Qab (((Qaa f i).kind)==2) 9),(Qah s),(Qab (isB ((dirN f dir).l) s) 7),(Qab (decide (((Qaa f i).links)≥64)) 12)]),.clo 185 [.ptr 12 b7 0,.dptr (fsyA f),.dptr [aI dir],.dptr [aS s],.dptr [aI i]]]) sr3 (Qjv (Qaq [(dirE f dir),(Qab (!(Qar f i)) 6),(Qab (((Qaa f i).kind)==2) 9),(Qah s),(Qab (isB ((dirN f dir).l) s) 7),(Qab (decide (((Qaa f i).links)≥64)) 12)]) f dir s i (Qaa f i) b7 okf hp hs hi (Qb4 okf hp i) (by have:=Qdt hp i;omega))) fun _=>
 .run 4 [b5=b5] rt1<|
 .fin (x:=.tup [.agg [.sl 5 false ((if Qaq [(dirE f dir),(Qab (!(Qar f i)) 6),(Qab (((Qaa f i).kind)==2) 9),(Qah s),(Qab (isB ((dirN f dir).l) s) 7),(Qab (decide (((Qaa f i).links)≥64)) 12)]=0 then Qdm f dir s i (Qaa f i) else f).l.map nodA),aI ((if Qaq [(dirE f dir),(Qab (!(Qar f i)) 6),(Qab (((Qaa f i).kind)==2) 9),(Qah s),(Qab (isB ((dirN f dir).l) s) 7),(Qab (decide (((Qaa f i).links)≥64)) 12)]=0 then Qdm f dir s i (Qaa f i) else f).next)],aI (Qaq [(dirE f dir),(Qab (!(Qar f i)) 6),(Qab (((Qaa f i).kind)==2) 9),(Qah s),(Qab (isB ((dirN f dir).l) s) 7),(Qab (decide (((Qaa f i).links)≥64)) 12)])]) (r:=.tup [.agg (fsyA (Qc1 f dir s i)),aI (Qa5 f dir s i)]) [b5=b5] rt1 (by
  have e:Qa5 f dir s i=Qaq [(dirE f dir),(Qab (!(Qar f i)) 6),(Qab (((Qaa f i).kind)==2) 9),(Qah s),(Qab (isB ((dirN f dir).l) s) 7),(Qab (decide (((Qaa f i).links)≥64)) 12)]:=by
   unfold Qa5
   simp only [q1,Bool.true_or,Bool.false_or,Bool.not_true,Bool.not_false]
  unfold Qc1
  rw [e]
  exact sR)) Tryz.func143 rfl (by kernel_rfl) (by kernel_rfl)
end Go.Proofs.YtahlldgocpabjaaGreat

namespace Go.Proofs.YtahlldgocpabjaaGreat
open Go Go.RowKit Copyhold
open Copyhold.Name (Srt insE delE getE isAt)
theorem first5 {a b c d e:Int}:Qaq [a,b,c,d,e]=if a=0 then (if b=0 then (if c=0 then (if d=0 then e else d) else c) else b) else a:=by
 unfold Qaq
 by_cases h:a=0<;>by_cases h2:b=0<;>by_cases h3:c=0<;>by_cases h4:d=0<;>by_cases h5:e=0<;>simp [h,h2,h3,h4,h5]
theorem first6 {a b c d e g:Int}:Qaq [a,b,c,d,e,g]=if a=0 then (if b=0 then (if c=0 then (if d=0 then (if e=0 then g else e) else d) else c) else b) else a:=by
 unfold Qaq
 by_cases h:a=0<;>by_cases h2:b=0<;>by_cases h3:c=0<;>by_cases h4:d=0<;>by_cases h5:e=0<;>by_cases h6:g=0<;>simp [h,h2,h3,h4,h5,h6]
theorem Qry {b:Bool} {e:Int} (he:¬ e=0):Qab b e=0↔b=false:=by
 unfold Qab
 cases b<;>simp [he]
theorem Qu7 {f:Fsy} {i:Int} {d:Nod} (h:atF f i=some d):Qaa f i=d:=(Qfo h).2
theorem Qxq {d:Nod} {l:List Ent} (h:nodP d) (hk:d.kind=2) (hl:rowP l):nodP (Qa0 d l):=⟨h.1,h.2.1,h.2.2.1,.inl ⟨hk,(Qc3 h hk).1,hl⟩⟩
def setL (f:Fsy) (d:Nod) (l:List Ent):Fsy:=putF f (Qa0 d l)
theorem Qel {f:Fsy} {i:Int} {d:Nod} {l:List Ent} (h:Qal f) (hd:atF f i=some d) (hk:d.kind=2) (hl:rowP l):Qal (setL f d l)∧(setL f d l).l.length=f.l.length∧(setL f d l).next=f.next∧∀ j,atF (setL f d l) j=if j=i then some (Qa0 d l) else atF f j:=by
 obtain ⟨g1,g2,g3⟩:=Qbn h hd
 have hb:Qar f (Qa0 d l).ino=true:=by show Qar f d.ino=true;rw [g3];exact (Qfo hd).1
 refine ⟨Qqa h (Qxq g1 hk hl) hb,Qsn (Qad h) hb,Qkm g2,fun j=>?_⟩
 have:=Qmm (n:=Qa0 d l) (j:=j) (Qad h)
 rw [show (Qa0 d l).ino=i from g3] at this
 exact this
theorem Qia {f:Fsy} {n m:Nod} {i:Int} (h:Qal f) (hd:atF f i=some m) (hi:n.ino=i) (hn:nodP n):Qal (putF f n)∧(putF f n).l.length=f.l.length∧(putF f n).next=f.next∧∀ j,atF (putF f n) j=if j=i then some n else atF f j:=by
 obtain ⟨g1,g2,g3⟩:=Qbn h hd
 have hb:Qar f n.ino=true:=by rw [hi];exact (Qfo hd).1
 exact ⟨Qqa h hn hb,Qsn (Qad h) hb,Qkm (by omega),fun j=>by rw [Qmm (Qad h),hi]⟩
structure AddsP (f:Fsy) (dir:Int) (s:Txt) (n:Nod) (d:Nod):Prop where
 dir:atF f dir=some d
 kind:d.kind=2
 check:Qah s=0
 away:isB d.l s=false
 few:f.l.length<256
 fewd:d.l.length<256
 node:nodP (addN f n)
 nol:n.l=[]
theorem Qpk {f:Fsy} {dir:Int} {s:Txt} {n:Nod} (h:Qak f dir s n=0):∃ d,AddsP f dir s n d:=by
 unfold Qak at h
 rw [first5] at h
 split at h
 ·rename_i h1
  split at h
  ·rename_i h2
   split at h
   ·rename_i h3
    split at h
    ·rename_i h4
     obtain ⟨d,g1,g2,g3,_,_⟩:=Qvo h1
     rw [g3] at h3 h4
     rw [Qry (by decide)] at h h3 h4
     simp only [Bool.or_eq_false_iff,decide_eq_false_iff_not,Bool.not_eq_false'] at h h4
     refine ⟨d,g1,g2,h2,h3,by omega,by omega,Qbb.1 h.1,List.eq_nil_of_length_eq_zero (by omega)⟩
    ·exact absurd h (by assumption)
   ·exact absurd h (by assumption)
  ·exact absurd h (by assumption)
 ·exact absurd h (by assumption)
theorem Qdn {f:Fsy} {dir:Int} {s:Txt} {i:Int} {d:Nod} (h:atF f dir=some d):enterF f dir s i=setL f d (entL d.l s i):=by unfold enterF setL;rw [Qu7 h]
theorem Qio {f:Fsy} {dir:Int} {s:Txt} {d:Nod} (h:atF f dir=some d):leaveF f dir s=setL f d (delL d.l s):=by unfold leaveF setL;rw [Qu7 h]
theorem Zhf {f:Fsy} {dir:Int} {s:Txt} {d n:Nod} {j:Int} (h1:atF f dir=some d) (h2:d.kind=2) (h3:Qah s=0) (h4:getE (lI d.l) s=some j) (h5:atF f j=some n) (hf:Qcc n=false) :
  Qbh f dir s=0∧Qdx f dir s=Qbc f dir s n:=by
 obtain ⟨g1,g2⟩:=Qe3 h1 h2 h3 h4 h5
 have e:Qbh f dir s=0:=by unfold Qbh;rw [Qq6,if_pos g1,g2,hf];rfl
 exact ⟨e,by unfold Qdx;rw [if_pos e,g2]⟩
theorem Zcn {f:Fsy} (h:Qal f):atF f f.next=none:=by
 cases hc:atF f f.next with
 | none=>rfl
 | some n=>have:=Qbn h hc;omega
theorem Qn1 {f:Fsy} {dir:Int} {s:Txt} {n:Nod} (hp:Qal f) (he:Qak f dir s n=0) :
  Qal (addF f dir s (addN f n))∧Qaz (addF f dir s (addN f n)) dir s=0∧lookN (addF f dir s (addN f n)) dir s=Qa0 (addN f n) []∧Qbh (addF f dir s (addN f n)) dir s=0 ∧
   Qdx (addF f dir s (addN f n)) dir s=⟨f.l,f.next+1⟩∧Qal ⟨f.l,f.next+1⟩∧Qaz ⟨f.l,f.next+1⟩ dir s=6:=by
 obtain ⟨d,A⟩:=Qpk he
 obtain ⟨g1,g2,g3⟩:=Qbn hp A.dir
 have hr:=Qad hp
 have hrow:=(Qc3 g1 A.kind).2
 have hnx:1≤f.next:=hp.2.1
 have hn:=Zcn hp
 have hne:¬ dir=f.next:=fun e=>by rw [← e,A.dir] at hn;cases hn
 have he0:=Qdf (n:=f.next) A.check hnx A.away A.fewd
 have hrow2:=Qpc (n:=f.next) hrow A.check hnx A.away A.fewd
 obtain ⟨s1,s2,s3,s4⟩:=Qel hp A.dir A.kind hrow2
 have hX:nodP (Qa0 (addN f n) []):=by
  have:=A.node
  have hl:Qa0 (addN f n) []=addN f n:=by unfold Qa0 addN;rw [A.nol]
  rw [hl];exact this
 have hXi:(Qa0 (addN f n) []).ino=f.next:=rfl
 have eA:addF f dir s (addN f n)=putF (setL f d (entL d.l s f.next)) (Qa0 (addN f n) []):=by
  unfold addF
  rw [show (addN f n).ino=f.next from rfl,Qdn A.dir]
 have r1:Qal (addF f dir s (addN f n)):=by rw [eA];exact Zdw s1 hX (by rw [s2];exact A.few)
 have fA:∀ j,atF (addF f dir s (addN f n)) j=if j=f.next then some (Qa0 (addN f n) []) else if j=dir then some (Qa0 d (entL d.l s f.next)) else atF f j:=fun j=>by
  rw [eA,Qmm (Qad s1),hXi,s4]
 have nA:(addF f dir s (addN f n)).next=f.next+1:=by rw [eA,Qld (by rw [hXi,s3]),s3]
 have dA:atF (addF f dir s (addN f n)) dir=some (Qa0 d (entL d.l s f.next)):=by rw [fA,if_neg hne,if_pos rfl]
 have xA:atF (addF f dir s (addN f n)) f.next=some (Qa0 (addN f n) []):=by rw [fA,if_pos rfl]
 have gA:getE (lI (Qa0 d (entL d.l s f.next)).l) s=some f.next:=by
  show getE (lI (entL d.l s f.next)) s=_
  rw [Qo4 (Qcs hrow) he0 A.away,if_pos rfl]
 obtain ⟨l1,l2⟩:=Qe3 dA A.kind A.check gA xA
 have hfull:Qcc (Qa0 (addN f n) [])=false:=by unfold Qcc;simp [Qa0]
 obtain ⟨t1,t2⟩:=Zhf dA A.kind A.check gA xA hfull
 have eL:leaveF (addF f dir s (addN f n)) dir s=setL (addF f dir s (addN f n)) (Qa0 d (entL d.l s f.next)) d.l:=by
  rw [Qio dA]
  show setL _ _ (delL (entL d.l s f.next) s)=_
  rw [Zbx (Qcs hrow) he0 A.away]
 obtain ⟨u1,u2,u3,u4⟩:=Qel r1 dA A.kind hrow
 have rN:Qal ⟨f.l,f.next+1⟩:=by
  obtain ⟨h1,h2,h3,h4⟩:=Qbj.1 hp
  exact Qbj.2 ⟨h1,by show 1≤f.next+1;omega,fun x hx=>⟨(h3 x hx).1,by have:=(h3 x hx).2;show x.ino<f.next+1;omega⟩,h4⟩
 have eT:Qdx (addF f dir s (addN f n)) dir s=⟨f.l,f.next+1⟩:=by
  rw [t2]
  unfold Qbc
  rw [if_pos (by show (1:Int)-1<1;omega),eL,hXi]
  refine Qs4 (Quf (Qad u1)) hr (fun j=>?_) (by show (setL _ _ _).next=f.next+1;rw [u3,nA])
  rw [Qvn (Qad u1),u4,fA]
  show _=atF f j
  by_cases hj:j=f.next
  ·rw [if_pos hj,hj,hn]
  ·rw [if_neg hj,if_neg hj]
   by_cases hd:j=dir
   ·rw [if_pos hd,hd,A.dir];rfl
   ·rw [if_neg hd,if_neg hd]
 refine ⟨r1,l1,l2,t1,eT,rN,?_⟩
 refine Qlq (d:=d) rN A.dir A.kind A.check ?_
 have:=A.away
 rw [Qe6] at this
 cases hg:getE (lI d.l) s with
 | none=>rfl
 | some j=>rw [hg] at this;cases this
theorem Zhc {f:Fsy} {dir:Int} {s:Txt} {n:Nod} (okf:OkF f) (hp:Qal f) (okn:OkN n) (hs:s.length≤1000000) (he:Qak f dir s n=0) (hx:f.next<4611686018427387904):OkF (addF f dir s (addN f n)):=by
 obtain ⟨d,A⟩:=Qpk he
 have h1:f.l.length≤256:=hp.1
 have h2:=(Qbn hp A.dir).2
 have okd:=okf.2.2 d (Qdg A.dir)
 have hnx:1≤f.next:=hp.2.1
 have he0:=Qdf (n:=f.next) A.check hnx A.away A.fewd
 have okl:OkN (Qa0 d (entL d.l s f.next)):=by
  refine ⟨okd.1,okd.2.1,okd.2.2.1,okd.2.2.2.1,?_,fun e hm=>?_⟩
  ·have:=Ql9 (l:=d.l) (s:=s) (n:=f.next);have:=A.fewd;show (entL d.l s f.next).length≤_;omega
  ·have hm':e∈entL d.l s f.next:=hm
   unfold entL at hm'
   rw [if_pos he0] at hm'
   rcases List.mem_append.1 hm' with h | h
   ·exact okd.2.2.2.2.2 e (List.mem_of_mem_take h)
   ·rcases List.mem_cons.1 h with rfl | h
    ·exact ⟨by show s.length≤_;omega,okf.1⟩
    ·exact okd.2.2.2.2.2 e (List.mem_of_mem_drop h)
 have hf:=okf.1
 have hs1:=Qle f.l (Qa0 d (entL d.l s f.next))
 unfold addF
 rw [show (addN f n).ino=f.next from rfl,Qdn A.dir]
 refine Qnh (Qnh okf okl (by show d.ino<_;omega) (by omega)) ?_ (by show f.next<_;omega) (by show (putN f.l _).length≤_;omega)
 have:=Qpl (n:=n) okf okn
 exact ⟨this.1,this.2.1,this.2.2.1,this.2.2.2.1,by show (0:Nat)≤_;omega,fun e h=>by cases h⟩
end Go.Proofs.YtahlldgocpabjaaGreat

namespace Go.Proofs.YtahlldgocpabjaaGreat
open Go Go.RowKit Copyhold
theorem Zi7:Qah [97]=0:=Qpi ⟨by decide,by decide,by decide,by decide,by decide,by decide⟩
theorem Ziy:dirE newF 1=0:=rfl
def Qkd:Nod:=⟨0,1,0,[],[]⟩
theorem Ze4:OkN Qkd:=⟨⟨by decide,by decide⟩,⟨by decide,by decide⟩,⟨by decide,by decide⟩,by show (0:Nat)≤_;omega,by show (0:Nat)≤_;omega,fun e h=>by cases h⟩
theorem Qw6:nodP (addN newF Qkd):=⟨by decide,by decide,by decide,.inr ⟨.inl rfl,by decide,rfl⟩⟩
theorem Qjq:Qak newF 1 [97] Qkd=0:=by
 unfold Qak
 rw [Zi7,Ziy,Qbb.2 Qw6]
 rfl
theorem Zjd:((if Qak newF 1 [97] Qkd=0 then addF newF 1 [97] (addN newF Qkd) else newF).l.length:Int)=2:=by
 rw [if_pos Qjq]
 rfl
structure Dfi where
 f:Fsy
 i:Int
 s:Txt
 p:Txt
structure Dbk where
 f:Fsy
 i:Int
 s:Txt
 n:Nod
end Go.Proofs.YtahlldgocpabjaaGreat

namespace Go.Proofs.YtahlldgocpabjaaGreat
open Go Go.RowKit Copyhold
open Copyhold.Name (Srt insE delE getE isAt)
structure GivesP (f:Fsy) (dir:Int) (s:Txt) (i:Int) (d n:Nod):Prop where
 dir:atF f dir=some d
 kind:d.kind=2
 node:atF f i=some n
 file:¬ n.kind=2
 check:Qah s=0
 away:isB d.l s=false
 fewd:d.l.length<256
 links:n.links<64
theorem Zev {f:Fsy} {dir:Int} {s:Txt} {i:Int} (h:Qa5 f dir s i=0):∃ d n,GivesP f dir s i d n:=by
 unfold Qa5 at h
 rw [first6] at h
 split at h
 ·rename_i h1
  split at h
  ·rename_i h2
   split at h
   ·rename_i h3
    split at h
    ·rename_i h4
     split at h
     ·rename_i h5
      obtain ⟨d,g1,g2,g3,_,_⟩:=Qvo h1
      rw [g3] at h h5
      rw [Qry (by decide)] at h h2 h3 h5
      simp only [Bool.or_eq_false_iff,decide_eq_false_iff_not,Bool.not_eq_false'] at h h2
      have hn:=Qe8 h2
      refine ⟨d,Qaa f i,g1,g2,hn,by simpa using h3,h4,h5,by omega,by omega⟩
     ·exact absurd h (by assumption)
    ·exact absurd h (by assumption)
   ·exact absurd h (by assumption)
  ·exact absurd h (by assumption)
 ·exact absurd h (by assumption)
structure Dgv where
 f:Fsy
 i:Int
 s:Txt
 n:Int
end Go.Proofs.YtahlldgocpabjaaGreat

namespace Go.Proofs.YtahlldgocpabjaaGreat
open Go Go.RowKit Copyhold
theorem Qqi {f:Fsy} (hp:Qal f) (z:Int):Qnm f z=nam f z:=by
 unfold Qnm nam
 congr 1
 refine List.map_congr_left fun n hn=>?_
 unfold namK
 split
 ·rfl
 ·rename_i hk
  rw [show cntE z n=0 from ?_]
  unfold cntE
  rw [Qfn ((Qbj.1 hp).2.2.1 n hn).1 hk];rfl
theorem Qgl {f:Fsy} (hp:Qal f) (i:Int):(Qaa f i).l.map Ent.ino=Qa3 f i:=by
 unfold Qa3
 split
 ·rfl
 ·rename_i hk
  by_cases hb:Qar f i=true
  ·rw [Qfn ((Qbj.1 hp).2.2.1 _ (Qey hb)).1 hk];rfl
  ·rw [(Qtq (Qgr (by simpa using hb))).2];rfl
theorem Qmn {l:List Ent}:∀ {U:List Int} {z:Int},hasB (addE U l) z=true↔hasB U z=true∨z∈l.map Ent.ino:=by
 induction l with
 | nil=>intro U z;simp [addE]
 | cons e r ih=>
  intro U z
  show hasB (addE (if hasB U e.ino then U else U++[e.ino]) r) z=true↔_
  rw [ih]
  simp only [List.map_cons,List.mem_cons]
  split
  ·rename_i h
   constructor
   ·rintro (g | g)
    ·exact .inl g
    ·exact .inr (.inr g)
   ·rintro (g | g | g)
    ·exact .inl g
    ·rw [g];exact .inl h
    ·exact .inr g
  ·rw [Qdw]
   constructor
   ·rintro (g | g)
    ·rcases Bool.or_eq_true _ _ ▸ g with g | g
     ·exact .inl g
     ·exact .inr (.inl (by simpa using (beq_iff_eq.1 g).symm))
    ·exact .inr (.inr g)
   ·rintro (g | g | g)
    ·exact .inl (by rw [g];rfl)
    ·exact .inl (by rw [g];simp)
    ·exact .inr g
theorem Ql2 {f:Fsy} {i:Int} (hp:Qal f):∀ (n:Nat) {U:List Int} (p:Nat),(∀ z,hasB U z=true→Reach f i z)→∀ z,hasB (goU f n U p) z=true→Reach f i z
 | 0,U,p,h=>h
 | n+1,U,p,h=>by
  simp only [goU]
  split
  ·rename_i y hy
   refine Ql2 hp n (p+1) fun z hz=>?_
   rcases Qmn.1 hz with hz | hz
   ·exact h z hz
   ·rw [Qgl hp] at hz
    exact (h y (Qg4.2 (List.mem_of_getElem? hy))).snoc hz
  ·exact h
theorem Qku {l:List Ent}:∀ {U:List Int} {k:Nat} {z:Int},U[k]?=some z→(addE U l)[k]?=some z:=by
 induction l with
 | nil=>intro U k z h;exact h
 | cons e r ih=>
  intro U k z h
  show (addE (if hasB U e.ino then U else U++[e.ino]) r)[k]?=some z
  refine ih ?_
  split
  ·exact h
  ·rw [List.getElem?_append_left (Qan h)];exact h
theorem Qu0 {f:Fsy} {i:Int} (hp:Qal f) (hf:fewF f):∀ (n:Nat) {U:List Int} (p:Nat),Dst f U→200≤n+p→(∀ y∈Qa3 f i,hasB U y=true)→(∀ k z,k<p→U[k]?=some z→∀ y∈Qa3 f z,hasB U y=true) →
  (∀ y∈Qa3 f i,hasB (goU f n U p) y=true)∧∀ z,hasB (goU f n U p) z=true→∀ y∈Qa3 f z,hasB (goU f n U p) y=true
 | 0,U,p,hd,hn,hi,h=>by
  have hl:=hd.le hf
  refine ⟨hi,fun z hz=>?_⟩
  obtain ⟨k,hk⟩:=List.getElem?_of_mem (Qg4.1 hz)
  have hk':U[k]?=some z:=hk
  exact h k z (by have:=Qan hk';omega) hk'
 | n+1,U,p,hd,hn,hi,h=>by
  simp only [goU]
  split
  ·rename_i y hy
   have mono:∀ z,hasB U z=true→hasB (addE U (Qaa f y).l) z=true:=fun z hz=>Qmn.2 (.inl hz)
   refine Qu0 hp hf n (p+1) (Qe0 hd fun e he=>Qez he) (by omega) (fun z hz=>mono z (hi z hz)) fun k z hk hz w hw=>?_
   by_cases hkp:k<p
   ·have hk2:k<U.length:=by have:=Qan hy;omega
    have e:U[k]?=some z:=by
     have:=Qku (l:=(Qaa f y).l) (List.getElem?_eq_getElem hk2)
     rw [this] at hz
     rw [List.getElem?_eq_getElem hk2];exact hz
    exact mono w (h k z hkp e w hw)
   ·have e:k=p:=by omega
    subst e
    rw [Qku hy] at hz
    obtain rfl:=Option.some.inj hz
    exact Qmn.2 (.inr (by rw [Qgl hp];exact hw))
  ·rename_i hnone
   refine ⟨hi,fun z hz=>?_⟩
   obtain ⟨k,hk⟩:=List.getElem?_of_mem (Qg4.1 hz)
   have:U.length≤p:=by
    cases Nat.lt_or_ge p U.length with
    | inl hlt=>rw [List.getElem?_eq_getElem hlt] at hnone;cases hnone
    | inr hge=>exact hge
   exact h k z (by have:=Qan hk;omega) hk
theorem Qxw {f:Fsy} {i z:Int} (hp:Qal f) (hf:fewF f):hasB (Qbx f i) z=true↔Reach f i z:=by
 have h0:∀ y,hasB (addE [] (Qaa f i).l) y=true↔y∈Qa3 f i:=fun y=>by
  rw [Qmn,Qgl hp]
  simp [hasB]
 refine ⟨Ql2 hp 300 0 (fun y hy=>.one ((h0 y).1 hy)) z,fun h=>?_⟩
 obtain ⟨g1,g2⟩:=Qu0 (i:=i) hp hf 300 0 (Qe0 (Dst.nil f) fun e he=>Qez he) (by omega) (fun y hy=>(h0 y).2 hy) (fun k z hk=>absurd hk (Nat.not_lt_zero k))
 have main:∀ a b,Reach f a b→(∀ y∈Qa3 f a,hasB (Qbx f i) y=true)→hasB (Qbx f i) b=true:=by
  intro a b hab
  induction hab with
  | one h=>exact fun hk=>hk _ h
  | more h _ ih=>exact fun hk=>ih (g2 _ (hk _ h))
 exact main i z h g1
theorem Qsg {f:Fsy} (hf:fewF f) (h:Qct f):TreeP f:=by
 obtain ⟨h1,⟨n0,h2,h3,h4,h5⟩,h6⟩:=h
 have hr:=Qad h1
 have key:∀ i n,atF f i=some n→n.links=(nam f i:Int)∧(∀ e∈n.l,Qar f e.ino=true)∧(¬ i=1→1≤n.links∧(n.kind=2→n.links≤1∧Reach f 1 i)):=fun i n hn=>by
  obtain ⟨j,hj⟩:=List.getElem?_of_mem (Qdg hn)
  obtain ⟨a,b,c⟩:=h6 j n hj
  rw [Qcy hn,Qqi h1] at a
  refine ⟨a,fun e he=>by obtain ⟨k,hk⟩:=List.getElem?_of_mem he;exact c k e hk,fun hi=>?_⟩
  unfold Qkc at b
  have hj0:¬ j=0:=fun e=>by
   rw [e,h2] at hj
   obtain rfl:=Option.some.inj hj
   exact hi ((Qcy hn).symm.trans h3)
  rw [decide_eq_true (show (j:Int)>0 from by omega)] at b
  simp only [Bool.true_and,Bool.not_eq_true',Bool.or_eq_false_iff,decide_eq_false_iff_not,Bool.and_eq_false_iff] at b
  refine ⟨by omega,fun hk=>?_⟩
  rcases b.2 with b2 | b2
  ·simp [hk] at b2
  ·have b3:=b2.2
   rw [Qcy hn] at b3
   simp only [Bool.not_eq_false'] at b3
   exact ⟨by omega,(Qxw h1 hf).1 b3⟩
 refine ⟨h1,⟨n0,Qiu h2 h3 hr,h4,h5⟩,fun i n hn=>(key i n hn).1,fun i z hz=>?_,fun i n hn hi=>((key i n hn).2.2 hi).1,fun i n hn hk hi=>?_⟩
 ·obtain ⟨d,hd,hk,e,he,hez⟩:=Qd4 hz
  have hb:=(key i d hd).2.1 e he
  rw [hez] at hb
  refine ⟨⟨_,Qe8 hb⟩,fun h1z=>?_⟩
  have g:=(key 1 n0 (Qiu h2 h3 hr)).1
  have:=(Qjh hr).2 ⟨i,hz⟩
  rw [h1z] at this
  omega
 ·have:=(key i n hn).2.2 hi
  have h2:=this.2 hk
  exact ⟨by omega,h2.2⟩
def Qbt (f:Fsy) (i:Int) (n:Nod):Bool:=n.kind==2&&(i==n.ino||hasB (Qdb f n.ino) i)
def Qcu (n m:Nod):Int:=Qaq [Qab (((n.kind==2) != (m.kind==2))&&(n.kind==2)) 8,Qab (((n.kind==2) != (m.kind==2))&&!(n.kind==2)) 9,Qab (Qcc m) 11]
theorem Qrx (f:Fsy) (i:Int) (n:Nod) (okf:OkF f) (hl:f.l.length≤100000) (hr:Qbs f.l):Qaj Tryz.prog 187 [.agg (fsyA f),aI i,.agg (nodA n)] (aB (Qbt f i n)):=by
 exact Qac (F:=Tryz.f187) 400 (
 .new fun b1=>.new fun b2=>.r 1<|.run 4 [b2=b2] rt1<|
 .br 10 (n.kind==2) (fun q1=>have p1:=beqT q1;.run 5 [b2=b2] rt1<|
 .br 15 (i==n.ino) (fun q2=>have p2:=beqT q2;.r 8<|.fin (x:=aB true) (r:=aB (Qbt f i n)) [] trivial (by exact Sub.of_eq (congrArg aB (by unfold Qbt;simp [*]))))
 <| fun q2=>have p2:=beqF q2;.run 4 [b1=b1,b2=b2] rt2<|
 .call (Qxh f i n.ino okf hl hr)<|
 .r 3<|.fin (x:=aB (hasB (Qdb f n.ino) i)) (r:=aB (Qbt f i n)) [] trivial (by exact Sub.of_eq (congrArg aB (by unfold Qbt;simp [*]))))
 <| fun q1=>have p1:=beqF q1;.r 13<|.fin (x:=aB false) (r:=aB (Qbt f i n)) [] trivial (by exact Sub.of_eq (congrArg aB (by unfold Qbt;simp [*])))) Tryz.func187 rfl (by kernel_rfl) (by kernel_rfl)
theorem Qzp (n m:Nod) (hm:m.l.length≤8796093022207):Qaj Tryz.prog 188 [.agg (nodA n),.agg (nodA m)] (aI (Qcu n m)):=by
 exact Qac (F:=Tryz.f188) 400 (
 .new fun b1=>.new fun b2=>.r 1<|.ord [0,1,2,3,4,5,6,7,8,9,10,11]<|.run 12 [b1=b1,b1=b1,b2=b2] rt3<|
 .ord [0,1,2,3,5,11,4,6,7,8,9,10,12,13,14,15,16]<|.r 2<|.br 18 (!((n.kind==2)==(m.kind==2))) (fun q1=>have q1:=notT q1;have p1:=beqF q1;.run 4 [b2=b2] rt1<|
 .call (Qbm (n.kind==2) 8)<|
 .r 1<|.is 23 (show (!((n.kind==2)==(m.kind==2)))=true from by rw [q1];rfl)<|.r 3<|.call (Qbm (!(n.kind==2)) 9)<|
 .call (Ql3 m hm)<|
 .call (Qbm (Qcc m) 11)<|
 .r 1<|.callS (args0:=[.sl 1 true ([[aI (Qab (n.kind==2) 8)],[aI (Qab (!(n.kind==2)) 9)],[aI (Qab (Qcc m) 11)]])]) (args:=[.sl 1 false ([(Qab (n.kind==2) 8),(Qab (!(n.kind==2)) 9),(Qab (Qcc m) 11)].map intA)]) ⟨Ql6 (Qab (n.kind==2) 8) (Qab (!(n.kind==2)) 9) (Qab (Qcc m) 11),trivial⟩ (Qci [(Qab (n.kind==2) 8),(Qab (!(n.kind==2)) 9),(Qab (Qcc m) 11)] (by simp))<|
 .r 1<|.fin (x:=aI (Qaq [(Qab (n.kind==2) 8),(Qab (!(n.kind==2)) 9),(Qab (Qcc m) 11)])) (r:=aI (Qcu n m)) [] trivial (by exact Sub.of_eq (congrArg aI (by unfold Qcu;simp only [bne,q1];rfl))))
 <| fun q1=>have q1:=notF q1;have p1:=beqT q1;.run 4 [b2=b2] rt1<|
 .call (Qbm false 8)<|
 .r 1<|.is 23 (show (!((n.kind==2)==(m.kind==2)))=false from by rw [q1];rfl)<|.r 3<|.call (Qbm false 9)<|
 .call (Ql3 m hm)<|
 .call (Qbm (Qcc m) 11)<|
 .r 1<|.callS (args0:=[.sl 1 true ([[aI (Qab false 8)],[aI (Qab false 9)],[aI (Qab (Qcc m) 11)]])]) (args:=[.sl 1 false ([(Qab false 8),(Qab false 9),(Qab (Qcc m) 11)].map intA)]) ⟨Ql6 (Qab false 8) (Qab false 9) (Qab (Qcc m) 11),trivial⟩ (Qci [(Qab false 8),(Qab false 9),(Qab (Qcc m) 11)] (by simp))<|
 .r 1<|.fin (x:=aI (Qaq [(Qab false 8),(Qab false 9),(Qab (Qcc m) 11)])) (r:=aI (Qcu n m)) [] trivial (by exact Sub.of_eq (congrArg aI (by unfold Qcu;simp only [bne,q1];rfl)))) Tryz.func188 rfl (by kernel_rfl) (by kernel_rfl)
end Go.Proofs.YtahlldgocpabjaaGreat
