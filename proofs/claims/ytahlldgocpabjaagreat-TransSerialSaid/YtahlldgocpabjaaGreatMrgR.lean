import Derived.Test.YtahlldgocpabjaaGreatAl
import Derived.Test.YtahlldgocpabjaaGreatMrgP
import Derived.Test.YtahlldgocpabjaaGreatMrgQ
set_option maxRecDepth 100000
set_option maxHeartbeats 8000000
set_option linter.unusedVariables false
set_option linter.unusedSimpArgs false
namespace Go.Proofs.YtahlldgocpabjaaGreat
open Go Go.RowKit Copyhold Go.Proofs.Tryz
theorem ra3 {D:Nat→Prop} {w:World} {x y z:AV} {vs:Array Value} (h:Qdj D w [x,y,z] vs):∃ u v t,vs=#[u,v,t]∧Ra D w x u∧Ra D w y v∧Ra D w z t:=by
 obtain ⟨h1,h2⟩:=h
 match vs,h1 with
 | ⟨[u,v,t]⟩,_=>exact ⟨u,v,t,rfl,h2 0 x u rfl rfl,h2 1 y v rfl rfl,h2 2 z t rfl rfl⟩
theorem Zcl (s:Txt) (a b:Int) (hs:s.length≤1000000) (ha:I64 a) (hb:I64 b):Qai prog 175 [aS s,aI a,aI b] (.tup [aS (Qez s a b).1,aI (Qez s a b).2]):=Qco (Qg4 _ _) fun D w vs h=>by
 obtain ⟨u,v,t,rfl,hu,hv,ht⟩:=ra3 h;cases hu;cases hv;cases ht;exact (Zhj s a b w (by omega) ha.1 ha.2 hb.1 hb.2).mono fun e w' ⟨g1,g2⟩=>⟨g1,g2 ▸ Below.refl _ _⟩
theorem Qxu (s:Txt) (a:Int) (t:Txt) (hs:s.length≤1000000) (ha:I64 a) (ht:t.length≤1000000):Qai prog 176 [aS s,aI a,aS t] (.tup [aS (Qbk s a t).1,aI (Qbk s a t).2]):=Qco (Qg4 _ _) fun D w vs h=>by
 obtain ⟨u,v,x,rfl,hu,hv,hx⟩:=ra3 h;cases hu;cases hv;cases hx;exact Zco s a t w (by omega) (by omega) ha.1 ha.2
theorem Zhi (s:Txt) (n:Int) (hs:s.length≤1000000) (hn:I64 n):Qai prog 178 [aS s,aI n] (.tup [aS (cutD s n).1,aI (cutD s n).2]):=Qco (Qg4 _ _) fun D w vs h=>by
 obtain ⟨u,v,rfl,hu,hv⟩:=Qdj.two h;cases hu;cases hv;exact Zk8 s n w (by omega) hn.1 hn.2
theorem Qxw (l:List Ent) (hl:l.length≤1000000):Qai prog 149 [.sl 2 false (l.map entA)] (.sl 1 false ((l.map Ent.name).map txA)):=by
 intro D w vs hD hv;obtain ⟨u,rfl,hu⟩:=Qdj.one hv;obtain ⟨A,c,rfl,he⟩:=Qje hu;refine (callsIn_wide.1 (Zlu 3 (W0m _) A c (lI l) (by rw [Zf5];exact hl) w he)).mono ?_;rintro e w' ⟨v,rfl,hown,hb⟩;have hrow:=Row.of_owns hown;have e1:(lI l).map (fun x=>strV x.1)=(l.map Ent.name).map strV:=by simp [lI]
 rw [e1] at hrow;refine ⟨v,fun b=>D b∨(w.heap.size≤b∧b<w'.heap.size),rfl,hb,fun b h=>.inl h,fun b h=>?_,Zip hrow (Zo5 (At.of_owns hown) hrow.lies fun b h1 h2=>.inr ⟨h1,h2⟩)⟩;rcases h with h | ⟨h1,h2⟩
 ·exact ⟨W09 (hD b h) hb.size,.inl h⟩
 ·exact ⟨h2,.inr h1⟩
def Qh2 (n:Nod):Int:=if n.kind=2 then (n.l.length:Int) else (n.text.length:Int)
structure Cal where
 kind:Int
 ino:Int
 to:Int
 at_:Int
 many:Int
 name:Txt
 name2:Txt
 text:Txt
structure Rep where
 e:Int
 a:Int
 b:Int
 n:Int
 text:Txt
 names:List Txt
 deriving DecidableEq
def calA (c:Cal):List AV:=[aI c.kind,aI c.ino,aI c.to,aI c.at_,aI c.many,aS c.name,aS c.name2,aS c.text]
def repA (r:Rep):List AV:=[aI r.e,aI r.a,aI r.b,aI r.n,aS r.text,.sl 1 false (r.names.map txA)]
def errR (e:Int):Rep:=⟨e,0,0,0,[],[]⟩
structure OkCal (c:Cal):Prop where
 kind:I64 c.kind
 ino:I64 c.ino
 to:I64 c.to
 at_:I64 c.at_
 many:I64 c.many
 name:c.name.length≤1000000
 name2:c.name2.length≤1000000
 text:c.text.length≤1000000
theorem Qh1 (n:Nod):Qai prog 174 [.agg (nodA n)] (aI (Qh2 n)):=by
 exact Qae func174 (
 .new fun b1=>.r 1<|.u 3 [b1]<|
 .be 5 n.kind 2 (fun p1=>.u 3 [b1]<|
 .lm 8 n.l entA<|.r 1<|.f (aI (Qh2 n)) [] (aI (n.l.length:Int)) (by exact W2p (W1z aI (by unfold Qh2;simp_all))))
 <| fun p1=>.u 4 [b1]<|
 .f (aI (Qh2 n)) [] (aI ((n.text).length:Int)) (by exact W2p (W1z aI (by unfold Qh2;simp_all))))
def ofE (f:Fsy) (i k:Int):Int:=if Qav f i=true then (if (Qaa f i).kind=k then 0 else 14) else 6
def ofN (f:Fsy) (i k:Int):Nod:=if ofE f i k=0 then Qaa f i else nod0
def Qei (n:Nod) (t:Txt):Nod:=⟨n.ino,n.kind,n.links,t,n.l⟩
noncomputable def Zb8 (f:Fsy) (c:Cal):Fsy × Rep:=(f,⟨Qa4 f c.ino c.name,(lookN f c.ino c.name).ino,0,0,[],[]⟩)
def Qj9 (f:Fsy) (c:Cal):Fsy × Rep:=if Qav f c.ino=true then (f,⟨0,(Qaa f c.ino).kind,(Qaa f c.ino).links,Qh2 (Qaa f c.ino),[],[]⟩) else (f,errR 6)
def Qkg (f:Fsy) (c:Cal):Fsy × Rep:=if ofE f c.ino 1=0 then (f,⟨(Qez (Qaa f c.ino).text c.at_ c.many).2,0,0,0,(Qez (Qaa f c.ino).text c.at_ c.many).1,[]⟩) else (f,errR (ofE f c.ino 1))
def Qfs (f:Fsy) (c:Cal):Fsy × Rep:=if ofE f c.ino 1=0 then (putF f (Qei (Qaa f c.ino) (Qbk (Qaa f c.ino).text c.at_ c.text).1),⟨(Qbk (Qaa f c.ino).text c.at_ c.text).2,(c.text.length:Int),0,0,[],[]⟩) else (f,errR (ofE f c.ino 1))
def cutO (f:Fsy) (c:Cal):Fsy × Rep:=if ofE f c.ino 1=0 then (putF f (Qei (Qaa f c.ino) (cutD (Qaa f c.ino).text c.many).1),errR (cutD (Qaa f c.ino).text c.many).2) else (f,errR (ofE f c.ino 1))
noncomputable def addO (f:Fsy) (c:Cal) (n:Nod):Fsy × Rep:=(if Qaw f c.ino c.name n=0 then addF f c.ino c.name (addN f n) else f,⟨Qaw f c.ino c.name n,f.next,0,0,[],[]⟩)
noncomputable def symO (f:Fsy) (c:Cal):Fsy × Rep:=if (c.text.length:Int)>4096 then (f,errR 5) else addO f c ⟨0,3,0,c.text,[]⟩
noncomputable def Qc8 (f:Fsy) (c:Cal) (dir:Bool) (odd:Int):Fsy × Rep:=
 if Qa4 f c.ino c.name=0 then (if (((lookN f c.ino c.name).kind==2) != dir)=true then (f,errR odd) else (Qdm f c.ino c.name,errR (Qbd f c.ino c.name))) else (f,errR (Qa4 f c.ino c.name))
noncomputable def Qxi (f:Fsy) (c:Cal):Fsy × Rep:=(Qcz f c.ino c.name c.to,errR (Qa5 f c.ino c.name c.to))
noncomputable def renO (f:Fsy) (c:Cal):Fsy × Rep:=(movF f c.ino c.name c.to c.name2,errR (Qbc f c.ino c.name c.to c.name2))
def Qwq (f:Fsy) (c:Cal):Fsy × Rep:=(f,⟨ofE f c.ino 3,0,0,0,(ofN f c.ino 3).text,[]⟩)
def Zbw (f:Fsy) (c:Cal):Fsy × Rep:=(f,⟨dirE f c.ino,0,0,0,[],(dirN f c.ino).l.map Ent.name⟩)
def txtS (l:List Nod):Nat:=(l.map fun n=>n.text.length).sum
def sfsO (f:Fsy):Fsy × Rep:=(f,⟨0,(f.l.length:Int),(txtS f.l:Int),0,[],[]⟩)
theorem Zfd {f:Fsy} {i k:Int} (h:Qav f i=false):ofE f i k=6∧ofN f i k=nod0:=by
 have e:ofE f i k=6:=by unfold ofE;rw [h];rfl
 exact ⟨e,by unfold ofN;rw [e];rfl⟩
theorem Qua {f:Fsy} {i k:Int} (h:Qav f i=true) (h2:¬ (Qaa f i).kind=k):ofE f i k=14∧ofN f i k=nod0:=by
 have e:ofE f i k=14:=by unfold ofE;rw [W1y h,W1x h2]
 exact ⟨e,by unfold ofN;rw [e];rfl⟩
theorem Qw9 {f:Fsy} {i k:Int} (h:Qav f i=true) (h2:(Qaa f i).kind=k):ofE f i k=0∧ofN f i k=Qaa f i:=by
 have e:ofE f i k=0:=by unfold ofE;rw [W1y h,W1y h2]
 exact ⟨e,by unfold ofN;rw [e];rfl⟩
theorem Qy7 {f:Fsy} {i k:Int} (h:ofE f i k=0):ofN f i k=Qaa f i:=W1y h
theorem Qby (e a b n:Int) (t:Txt):Sub (.agg [aI e,aI a,aI b,aI n,aS t,aN]) (.agg (repA ⟨e,a,b,n,t,[]⟩)):=W2t ⟨sR,sR,sR,sR,sR,Sub.nil _ _,trivial⟩
theorem Qf6 {f:Fsy} (hp:Qan f) (i:Int):(Qaa f i).text.length≤4096:=by
 by_cases h:Qav f i=true
 ·rcases ((Qbx.1 hp).2.2.1 _ (Qf3 h)).1.2.2.2 with ⟨_,h1,_⟩ | ⟨_,h1,_⟩
  ·rw [h1];decide
  ·exact h1
 ·rw [(Qvq (Qil (by simpa using h))).2];decide
theorem Qmv {f:Fsy} (hp:Qan f) {n:Nod} (hn:n∈f.l):n.text.length≤4096:=by
 rcases ((Qbx.1 hp).2.2.1 _ hn).1.2.2.2 with ⟨_,h1,_⟩ | ⟨_,h1,_⟩
 ·rw [h1];decide
 ·exact h1
theorem Qro (f:Fsy) (i k:Int) (hp:Qan f):Qai prog 147 [.agg (fsyA f),aI i,aI k] (.tup [.agg (nodA (ofN f i k)),aI (ofE f i k)]):=by
 have hl:=hp.1;have hr:=Qaf hp;exact Qae func147 (
 .new fun b1=>.new fun b2=>.r 1<|.u 2 [b1]<|
 .call (Qcp f i (by omega) hr)<|
 .r 3<|.new fun b3=>.u 2 [b3]<|
 .r 2<|.br 17 (!(Qav f i)) (fun q1=>have q1:=notT q1;have p1:=booF q1;.u 3 [b2]<|
 .f (.tup [.agg (nodA (ofN f i k)),aI (ofE f i k)]) [b2] (.tup [.agg [aI 0,aI 0,aI 0,aS ([]),aN],aI 6]) (by
  obtain ⟨e1,e2⟩:=Zfd (k:=k) q1;exact W2s ⟨Qd6 e2,W2p (W1z aI e1.symm),trivial⟩))
 <| fun q1=>have q1:=notF q1;have p1:=booT q1;.u 4 [b3]<|
 .br 22 (((Qaa f i).kind) != k) (fun q2=>have p2:=bneT q2;.u 3 [b2]<|
 .f (.tup [.agg (nodA (ofN f i k)),aI (ofE f i k)]) [b2] (.tup [.agg [aI 0,aI 0,aI 0,aS ([]),aN],aI 14]) (by
  obtain ⟨e1,e2⟩:=Qua q1 (bneT q2);exact W2s ⟨Qd6 e2,W2p (W1z aI e1.symm),trivial⟩))
 <| fun q2=>have p2:=bneF q2;.u 3 [b3,b2]<|
 .f (.tup [.agg (nodA (ofN f i k)),aI (ofE f i k)]) [b2] (.tup [.agg [aI ((Qaa f i).ino),aI ((Qaa f i).kind),aI ((Qaa f i).links),aS ((Qaa f i).text),.sl 2 false ((Qaa f i).l.map entA)],aI 0]) (by
  obtain ⟨e1,e2⟩:=Qw9 q1 (bneF q2);rw [e1,e2];exact sR))
theorem Zcm (f:Fsy) (c:Cal) (okf:OkF f) (okc:OkCal c) (hp:Qan f):Qai prog 130 [.agg (fsyA f),.agg [aI c.kind,aI c.ino,aI c.to,aI c.at_,aI c.many,aS c.name,aS c.name2,aS c.text]] (.tup [.agg (fsyA (Zb8 f c).1),.agg (repA (Zb8 f c).2)]):=by
 have hl:=hp.1;have hr:=Qaf hp;have hcn:=okc.name;have hcn2:=okc.name2;have hct:=okc.text;exact Qae func130 (let R:AV:=.tup [.agg (fsyA (Zb8 f c).1),.agg (repA (Zb8 f c).2)];
 .new fun b1=>.new fun b2=>.new fun b3=>.new fun b4=>.u 5 [b1,b2,b2]<|
 .call (Qkw f c.ino c.name hp hcn)<|
 .r 3<|.new fun b5=>.u 2 [b5]<|
 let J1:Jn (Unit):=⟨fun j1=>⟨[(4,.ptr 4 b3 0),(5,.ptr 5 b4 0)],[(4,.box b3 28 (fsyA f)),(5,.box b4 45 [aI (Qa4 f c.ino c.name),aI ((lookN f c.ino c.name).ino),aI 0,aI 0,aS ([]),aN])]⟩,fun _=>True⟩
 .cut J1 (.pick [0,1,2]<|.u 3 [b1]<|
 .fork<|.alt (.u 1 [b5]<|
 .pick [4,5,6]<|.u 3 [b3,b4]<|
 .jo J1 () [] [] sr2 bb2)
 <| .u 1 [b3]<|
 .pick [3,4,6]<|.u 3 [b5,b4]<|
 .jo J1 () [] [] sr2 bb2)
 <| fun _ _=>.f R [b3,b4] (.tup [.agg (fsyA f),.agg [aI (Qa4 f c.ino c.name),aI ((lookN f c.ino c.name).ino),aI 0,aI 0,aS ([]),aN]]) (by exact W2s ⟨sR,(Qby _ _ _ _ _),trivial⟩))
theorem Zck (f:Fsy) (c:Cal) (okf:OkF f) (okc:OkCal c) (hp:Qan f):Qai prog 131 [.agg (fsyA f),.agg [aI c.kind,aI c.ino,aI c.to,aI c.at_,aI c.many,aS c.name,aS c.name2,aS c.text]] (.tup [.agg (fsyA (Qj9 f c).1),.agg (repA (Qj9 f c).2)]):=by
 have hl:=hp.1;have hr:=Qaf hp;have hcn:=okc.name;have hcn2:=okc.name2;have hct:=okc.text;exact Qae func131 (
 .new fun b1=>.new fun b2=>.new fun b3=>.new fun b4=>.u 3 [b1,b2]<|
 .call (Qcp f c.ino (by omega) hr)<|
 .r 3<|.new fun b5=>.u 2 [b5]<|
 .r 2<|.br 16 (!(Qav f c.ino)) (fun q1=>have q1:=notT q1;have p1:=booF q1;.u 4 [b1,b3,b4]<|
 .f (.tup [.agg (fsyA (Qj9 f c).1),.agg (repA (Qj9 f c).2)]) [b3,b4] (.tup [.agg (fsyA f),.agg [aI 6,aI 0,aI 0,aI 0,aS ([]),aN]]) (by
  have e:Qj9 f c=_:=W1x (by rw [q1];decide);rw [e];exact W2s ⟨sR,(Qby _ _ _ _ _),trivial⟩))
 <| fun q1=>have q1:=notF q1;have p1:=booT q1;let J1:Jn (Unit):=⟨fun j1=>⟨[(4,.ptr 4 b3 0),(5,.ptr 5 b4 0)],[(4,.box b3 28 (fsyA f)),(5,.box b4 45 [aI 0,aI ((Qaa f c.ino).kind),aI ((Qaa f c.ino).links),aI (Qh2 (Qaa f c.ino)),aS ([]),aN])]⟩,fun _=>True⟩
 .cut J1 (.pick [0,1,3,5]<|.u 4 [b1,b5]<|
 .fork<|.alt (.u 1 [b5]<|
 .fork<|.alt (.u 1 [b5]<|
 .pick [6,7,8,9]<|.call (Qh1 (Qaa f c.ino))<|
 .u 3 [b3,b4]<|
 .jo J1 () [] [] sr2 bb2)
 <| .call (Qh1 (Qaa f c.ino))<|
 .fork<|.alt (.u 1 [b5]<|
 .pick [7,8,9]<|.u 3 [b3,b4]<|
 .jo J1 () [] [] sr2 bb2)
 <| .u 1 [b3]<|
 .pick [4,7,9]<|.u 3 [b5,b4]<|
 .jo J1 () [] [] sr2 bb2)
 <| .alt (.u 1 [b5]<|
 .fork<|.alt (.u 1 [b5]<|
 .pick [6,7,8,9]<|.call (Qh1 (Qaa f c.ino))<|
 .u 3 [b3,b4]<|
 .jo J1 () [] [] sr2 bb2)
 <| .call (Qh1 (Qaa f c.ino))<|
 .fork<|.alt (.u 1 [b5]<|
 .pick [7,8,9]<|.u 3 [b3,b4]<|
 .jo J1 () [] [] sr2 bb2)
 <| .u 1 [b3]<|
 .pick [2,7,9]<|.u 3 [b5,b4]<|
 .jo J1 () [] [] sr2 bb2)
 <| .call (Qh1 (Qaa f c.ino))<|
 .fork<|.alt (.u 1 [b5]<|
 .fork<|.alt (.u 1 [b5]<|
 .pick [7,8,9]<|.u 3 [b3,b4]<|
 .jo J1 () [] [] sr2 bb2)
 <| .u 1 [b3]<|
 .pick [4,7,9]<|.u 3 [b5,b4]<|
 .jo J1 () [] [] sr2 bb2)
 <| .alt (.u 1 [b5]<|
 .fork<|.alt (.u 1 [b5]<|
 .pick [7,8,9]<|.u 3 [b3,b4]<|
 .jo J1 () [] [] sr2 bb2)
 <| .u 1 [b3]<|
 .pick [2,7,9]<|.u 3 [b5,b4]<|
 .jo J1 () [] [] sr2 bb2)
 <| .u 1 [b3]<|
 .pick [2,4,7,9]<|.u 4 [b5,b5,b4]<|
 .jo J1 () [] [] sr2 bb2)
 <| fun _ _=>.f (.tup [.agg (fsyA (Qj9 f c).1),.agg (repA (Qj9 f c).2)]) [b3,b4] (.tup [.agg (fsyA f),.agg [aI 0,aI ((Qaa f c.ino).kind),aI ((Qaa f c.ino).links),aI (Qh2 (Qaa f c.ino)),aS ([]),aN]]) (by
  have e:Qj9 f c=_:=W1y q1;rw [e];exact W2s ⟨sR,(Qby _ _ _ _ _),trivial⟩))
theorem Zon (f:Fsy) (c:Cal) (okf:OkF f) (okc:OkCal c) (hp:Qan f):Qai prog 132 [.agg (fsyA f),.agg [aI c.kind,aI c.ino,aI c.to,aI c.at_,aI c.many,aS c.name,aS c.name2,aS c.text]] (.tup [.agg (fsyA (Qkg f c).1),.agg (repA (Qkg f c).2)]):=by
 have hl:=hp.1;have hr:=Qaf hp;have hcn:=okc.name;have hcn2:=okc.name2;have hct:=okc.text;exact Qae func132 (
 .new fun b1=>.new fun b2=>.new fun b3=>.new fun b4=>.u 3 [b1,b2]<|
 .call (Qro f c.ino 1 hp)<|
 .r 3<|.new fun b5=>.u 2 [b5]<|
 .r 2<|.br 17 ((ofE f c.ino 1) != 0) (fun q1=>have p1:=bneT q1;.u 5 [b1,b3,b4]<|
 .f (.tup [.agg (fsyA (Qkg f c).1),.agg (repA (Qkg f c).2)]) [b3,b4] (.tup [.agg (fsyA f),.agg [aI (ofE f c.ino 1),aI 0,aI 0,aI 0,aS ([]),aN]]) (by
  have e:Qkg f c=_:=W1x (bneT q1);rw [e];exact W2s ⟨sR,(Qby _ _ _ _ _),trivial⟩))
 <| fun q1=>have p1:=bneF q1;have eo:=Qy7 (show ofE f c.ino 1=0 from bneF q1);.u 6 [b5,b2,b2]<|
 .cs (args0:=[aS ((ofN f c.ino 1).text),aI c.at_,aI c.many]) (Zcl (Qaa f c.ino).text c.at_ c.many (by have:=Qf6 hp c.ino;omega) okc.at_ okc.many) ⟨by rw [eo];exact sR,sR,sR,trivial⟩<|
 .r 5<|.u 6 [b1,b3,b4]<|
 .f (.tup [.agg (fsyA (Qkg f c).1),.agg (repA (Qkg f c).2)]) [b3,b4] (.tup [.agg (fsyA f),.agg [aI ((Qez (Qaa f c.ino).text c.at_ c.many).2),aI 0,aI 0,aI 0,aS ((Qez (Qaa f c.ino).text c.at_ c.many).1),aN]]) (by
  have e0:ofE f c.ino 1=0:=bneF q1;have e:Qkg f c=_:=W1y e0;rw [e];exact W2s ⟨sR,(Qby _ _ _ _ _),trivial⟩))
theorem Zkp (f:Fsy) (c:Cal) (okf:OkF f) (okc:OkCal c) (hp:Qan f):Qai prog 133 [.agg (fsyA f),.agg [aI c.kind,aI c.ino,aI c.to,aI c.at_,aI c.many,aS c.name,aS c.name2,aS c.text]] (.tup [.agg (fsyA (Qfs f c).1),.agg (repA (Qfs f c).2)]):=by
 have hl:=hp.1;have hr:=Qaf hp;have hcn:=okc.name;have hcn2:=okc.name2;have hct:=okc.text;exact Qae func133 (
 .new fun b1=>.new fun b2=>.new fun b3=>.new fun b4=>.u 3 [b1,b2]<|
 .call (Qro f c.ino 1 hp)<|
 .r 3<|.new fun b5=>.u 2 [b5]<|
 .r 2<|.br 16 ((ofE f c.ino 1) != 0) (fun q1=>have p1:=bneT q1;.u 5 [b1,b3,b4]<|
 .f (.tup [.agg (fsyA (Qfs f c).1),.agg (repA (Qfs f c).2)]) [b3,b4] (.tup [.agg (fsyA f),.agg [aI (ofE f c.ino 1),aI 0,aI 0,aI 0,aS ([]),aN]]) (by
  have e:Qfs f c=_:=W1x (bneT q1);rw [e];exact W2s ⟨sR,(Qby _ _ _ _ _),trivial⟩))
 <| fun q1=>have p1:=bneF q1;have eo:=Qy7 (show ofE f c.ino 1=0 from bneF q1);.u 6 [b5,b2,b2]<|
 .cs (args0:=[aS ((ofN f c.ino 1).text),aI c.at_,aS c.text]) (Qxu (Qaa f c.ino).text c.at_ c.text (by have:=Qf6 hp c.ino;omega) okc.at_ hct) ⟨by rw [eo];exact sR,sR,sR,trivial⟩<|
 .u 6 [b5]<|
 let J1:Jn (Unit):=⟨fun j1=>⟨[(4,.ptr 4 b3 0),(5,.ptr 5 b4 0)],[(4,.box b3 28 [.sl 5 false ((putF f (Qei (Qaa f c.ino) (Qbk (Qaa f c.ino).text c.at_ c.text).1)).l.map nodA),aI ((putF f (Qei (Qaa f c.ino) (Qbk (Qaa f c.ino).text c.at_ c.text).1)).next)]),(5,.box b4 45 [aI ((Qbk (Qaa f c.ino).text c.at_ c.text).2),aI ((c.text).length:Int),aI 0,aI 0,aS ([]),aN])]⟩,fun _=>True⟩
 .cut J1 (.pick [0,1,3,4]<|.u 4 [b1,b5]<|
 .fork<|.alt (.cs (args0:=[.agg (fsyA f),.agg [aI ((ofN f c.ino 1).ino),aI ((ofN f c.ino 1).kind),aI ((ofN f c.ino 1).links),aS ((Qbk (Qaa f c.ino).text c.at_ c.text).1),.sl 2 false ((ofN f c.ino 1).l.map entA)]]) (Qfz f (Qei (Qaa f c.ino) (Qbk (Qaa f c.ino).text c.at_ c.text).1) (Qcg okf hp c.ino) (by omega) hr) ⟨sR,by rw [eo];exact sR,trivial⟩<|
 .fork<|.alt (.u 1 [b2]<|
 .pick [6,7,8,9]<|.u 4 [b3,b4]<|
 .jo J1 () [] [] sr2 bb2)
 <| .u 1 [b3]<|
 .pick [5,6,7,9]<|.u 4 [b2,b4]<|
 .jo J1 () [] [] sr2 bb2)
 <| .u 1 [b2]<|
 .pick [6,7,2,8,9]<|.r 2<|.cs (args0:=[.agg (fsyA f),.agg [aI ((ofN f c.ino 1).ino),aI ((ofN f c.ino 1).kind),aI ((ofN f c.ino 1).links),aS ((Qbk (Qaa f c.ino).text c.at_ c.text).1),.sl 2 false ((ofN f c.ino 1).l.map entA)]]) (Qfz f (Qei (Qaa f c.ino) (Qbk (Qaa f c.ino).text c.at_ c.text).1) (Qcg okf hp c.ino) (by omega) hr) ⟨sR,by rw [eo];exact sR,trivial⟩<|
 .u 2 [b3,b4]<|
 .jo J1 () [] [] sr2 bb2)
 <| fun _ _=>.f (.tup [.agg (fsyA (Qfs f c).1),.agg (repA (Qfs f c).2)]) [b3,b4] (.tup [.agg [.sl 5 false ((putF f (Qei (Qaa f c.ino) (Qbk (Qaa f c.ino).text c.at_ c.text).1)).l.map nodA),aI ((putF f (Qei (Qaa f c.ino) (Qbk (Qaa f c.ino).text c.at_ c.text).1)).next)],.agg [aI ((Qbk (Qaa f c.ino).text c.at_ c.text).2),aI ((c.text).length:Int),aI 0,aI 0,aS ([]),aN]]) (by
  have e0:ofE f c.ino 1=0:=bneF q1;have e:Qfs f c=_:=W1y e0;rw [e];exact W2s ⟨sR,(Qby _ _ _ _ _),trivial⟩))
theorem dcut_o (f:Fsy) (c:Cal) (okf:OkF f) (okc:OkCal c) (hp:Qan f):Qai prog 134 [.agg (fsyA f),.agg [aI c.kind,aI c.ino,aI c.to,aI c.at_,aI c.many,aS c.name,aS c.name2,aS c.text]] (.tup [.agg (fsyA (cutO f c).1),.agg (repA (cutO f c).2)]):=by
 have hl:=hp.1;have hr:=Qaf hp;have hcn:=okc.name;have hcn2:=okc.name2;have hct:=okc.text;exact Qae func134 (
 .new fun b1=>.new fun b2=>.new fun b3=>.new fun b4=>.u 3 [b1,b2]<|
 .call (Qro f c.ino 1 hp)<|
 .r 3<|.new fun b5=>.u 2 [b5]<|
 .r 2<|.br 16 ((ofE f c.ino 1) != 0) (fun q1=>have p1:=bneT q1;.u 5 [b1,b3,b4]<|
 .f (.tup [.agg (fsyA (cutO f c).1),.agg (repA (cutO f c).2)]) [b3,b4] (.tup [.agg (fsyA f),.agg [aI (ofE f c.ino 1),aI 0,aI 0,aI 0,aS ([]),aN]]) (by
  have e:cutO f c=_:=W1x (bneT q1);rw [e];exact W2s ⟨sR,(Qby _ _ _ _ _),trivial⟩))
 <| fun q1=>have p1:=bneF q1;have eo:=Qy7 (show ofE f c.ino 1=0 from bneF q1);.u 4 [b5,b2]<|
 .cs (args0:=[aS ((ofN f c.ino 1).text),aI c.many]) (Zhi (Qaa f c.ino).text c.many (by have:=Qf6 hp c.ino;omega) okc.many) ⟨by rw [eo];exact sR,sR,trivial⟩<|
 .u 6 [b5]<|
 .u 2 [b1,b5]<|
 .cs (args0:=[.agg (fsyA f),.agg [aI ((ofN f c.ino 1).ino),aI ((ofN f c.ino 1).kind),aI ((ofN f c.ino 1).links),aS ((cutD (Qaa f c.ino).text c.many).1),.sl 2 false ((ofN f c.ino 1).l.map entA)]]) (Qfz f (Qei (Qaa f c.ino) (cutD (Qaa f c.ino).text c.many).1) (Qcg okf hp c.ino) (by omega) hr) ⟨sR,by rw [eo];exact sR,trivial⟩<|
 .u 4 [b3,b4]<|
 .f (.tup [.agg (fsyA (cutO f c).1),.agg (repA (cutO f c).2)]) [b3,b4] (.tup [.agg [.sl 5 false ((putF f (Qei (Qaa f c.ino) (cutD (Qaa f c.ino).text c.many).1)).l.map nodA),aI ((putF f (Qei (Qaa f c.ino) (cutD (Qaa f c.ino).text c.many).1)).next)],.agg [aI ((cutD (Qaa f c.ino).text c.many).2),aI 0,aI 0,aI 0,aS ([]),aN]]) (by
  have e0:ofE f c.ino 1=0:=bneF q1;have e:cutO f c=_:=W1y e0;rw [e];exact W2s ⟨sR,(Qby _ _ _ _ _),trivial⟩))
theorem Zhk (f:Fsy) (c:Cal) (okf:OkF f) (okc:OkCal c) (hp:Qan f) (n:Nod) (okn:OkN n) (hx:f.next<9223372036854775807):Qai prog 136 [.agg (fsyA f),.agg [aI c.kind,aI c.ino,aI c.to,aI c.at_,aI c.many,aS c.name,aS c.name2,aS c.text],.agg (nodA n)] (.tup [.agg (fsyA (addO f c n).1),.agg (repA (addO f c n).2)]):=by
 have hl:=hp.1;have hr:=Qaf hp;have hcn:=okc.name;have hcn2:=okc.name2;have hct:=okc.text;exact Qae func136 (let R:AV:=.tup [.agg (fsyA (addO f c n).1),.agg (repA (addO f c n).2)];
 .new fun b1=>.new fun b2=>.new fun b3=>.new fun b4=>.new fun b5=>.u 6 [b1,b2,b2,b3]<|
 .call (Zls f c.ino c.name n okf hp hcn okn hx)<|
 .r 3<|.new fun b6=>.u 2 [b6]<|
 let J1:Jn (Unit):=⟨fun j1=>⟨[(6,.ptr 6 b4 0),(7,.ptr 7 b5 0)],[(6,.box b4 28 [.sl 5 false ((if Qaw f c.ino c.name n=0 then addF f c.ino c.name (addN f n) else f).l.map nodA),aI ((if Qaw f c.ino c.name n=0 then addF f c.ino c.name (addN f n) else f).next)]),(7,.box b5 45 [aI (Qaw f c.ino c.name n),aI f.next,aI 0,aI 0,aS ([]),aN])]⟩,fun _=>True⟩
 .cut J1 (.pick [0,1,2]<|.u 3 [b6]<|
 .fork<|.alt (.u 1 [b1]<|
 .pick [4,5,6]<|.u 3 [b4,b5]<|
 .jo J1 () [] [] sr2 bb2)
 <| .u 1 [b4]<|
 .pick [3,4,6]<|.u 3 [b1,b5]<|
 .jo J1 () [] [] sr2 bb2)
 <| fun _ _=>.f R [b4,b5] (.tup [.agg [.sl 5 false ((if Qaw f c.ino c.name n=0 then addF f c.ino c.name (addN f n) else f).l.map nodA),aI ((if Qaw f c.ino c.name n=0 then addF f c.ino c.name (addN f n) else f).next)],.agg [aI (Qaw f c.ino c.name n),aI f.next,aI 0,aI 0,aS ([]),aN]]) (by exact W2s ⟨sR,(Qby _ _ _ _ _),trivial⟩))
theorem Qrz:OkN ⟨0,1,0,[],[]⟩:=⟨⟨by decide,by decide⟩,⟨by decide,by decide⟩,⟨by decide,by decide⟩,by show (0:Nat)≤_;omega,by show (0:Nat)≤_;omega,fun e h=>by cases h⟩
theorem Qxl:OkN ⟨0,2,0,[],[]⟩:=⟨⟨by decide,by decide⟩,⟨by decide,by decide⟩,⟨by decide,by decide⟩,by show (0:Nat)≤_;omega,by show (0:Nat)≤_;omega,fun e h=>by cases h⟩
theorem Qrx {t:Txt} (h:t.length≤1000000):OkN ⟨0,3,0,t,[]⟩:=⟨⟨by show (_:Int)≤0;omega,by show (0:Int)≤_;omega⟩,⟨by show (_:Int)≤3;omega,by show (3:Int)≤_;omega⟩,⟨by show (_:Int)≤0;omega,by show (0:Int)≤_;omega⟩,by show t.length≤_;omega,by show (0:Nat)≤_;omega,fun e h=>by cases h⟩
theorem Zot (f:Fsy) (c:Cal) (okf:OkF f) (okc:OkCal c) (hp:Qan f) (hx:f.next<9223372036854775807):Qai prog 135 [.agg (fsyA f),.agg [aI c.kind,aI c.ino,aI c.to,aI c.at_,aI c.many,aS c.name,aS c.name2,aS c.text]] (.tup [.agg (fsyA (addO f c ⟨0,1,0,[],[]⟩).1),.agg (repA (addO f c ⟨0,1,0,[],[]⟩).2)]):=by
 have hl:=hp.1;have hr:=Qaf hp;have hcn:=okc.name;have hcn2:=okc.name2;have hct:=okc.text;exact Qae func135 (let R:AV:=.tup [.agg (fsyA (addO f c ⟨0,1,0,[],[]⟩).1),.agg (repA (addO f c ⟨0,1,0,[],[]⟩).2)];
 .new fun b1=>.new fun b2=>.new fun b3=>.new fun b4=>.u 3 [b1,b2]<|
 .cs (args0:=[.agg (fsyA f),.agg [aI c.kind,aI c.ino,aI c.to,aI c.at_,aI c.many,aS c.name,aS c.name2,aS c.text],.agg [aI 0,aI 1,aI 0,aS ([]),aN]]) (Zhk f c okf okc hp ⟨0,1,0,[],[]⟩ Qrz hx) ⟨sR,sR,W2t ⟨sR,sR,sR,sR,Sub.nil _ _,trivial⟩,trivial⟩<|
 .u 4 [b3,b4]<|
 .fi R [b3,b4])
theorem Zos (f:Fsy) (c:Cal) (okf:OkF f) (okc:OkCal c) (hp:Qan f) (hx:f.next<9223372036854775807):Qai prog 137 [.agg (fsyA f),.agg [aI c.kind,aI c.ino,aI c.to,aI c.at_,aI c.many,aS c.name,aS c.name2,aS c.text]] (.tup [.agg (fsyA (addO f c ⟨0,2,0,[],[]⟩).1),.agg (repA (addO f c ⟨0,2,0,[],[]⟩).2)]):=by
 have hl:=hp.1;have hr:=Qaf hp;have hcn:=okc.name;have hcn2:=okc.name2;have hct:=okc.text;exact Qae func137 (let R:AV:=.tup [.agg (fsyA (addO f c ⟨0,2,0,[],[]⟩).1),.agg (repA (addO f c ⟨0,2,0,[],[]⟩).2)];
 .new fun b1=>.new fun b2=>.new fun b3=>.new fun b4=>.u 3 [b1,b2]<|
 .cs (args0:=[.agg (fsyA f),.agg [aI c.kind,aI c.ino,aI c.to,aI c.at_,aI c.many,aS c.name,aS c.name2,aS c.text],.agg [aI 0,aI 2,aI 0,aS ([]),aN]]) (Zhk f c okf okc hp ⟨0,2,0,[],[]⟩ Qxl hx) ⟨sR,sR,W2t ⟨sR,sR,sR,sR,Sub.nil _ _,trivial⟩,trivial⟩<|
 .u 4 [b3,b4]<|
 .fi R [b3,b4])
theorem Zor (f:Fsy) (c:Cal) (okf:OkF f) (okc:OkCal c) (hp:Qan f) (hx:f.next<9223372036854775807):Qai prog 138 [.agg (fsyA f),.agg [aI c.kind,aI c.ino,aI c.to,aI c.at_,aI c.many,aS c.name,aS c.name2,aS c.text]] (.tup [.agg (fsyA (symO f c).1),.agg (repA (symO f c).2)]):=by
 have hl:=hp.1;have hr:=Qaf hp;have hcn:=okc.name;have hcn2:=okc.name2;have hct:=okc.text;exact Qae func138 (
 .new fun b1=>.new fun b2=>.new fun b3=>.new fun b4=>.u 4 [b2]<|
 .bd 9 (((c.text).length:Int)>4096) (fun p1=>.u 4 [b1,b3,b4]<|
 .f (.tup [.agg (fsyA (symO f c).1),.agg (repA (symO f c).2)]) [b3,b4] (.tup [.agg (fsyA f),.agg [aI 5,aI 0,aI 0,aI 0,aS ([]),aN]]) (by
  have e:symO f c=_:=W1y (by omega);rw [e];exact W2s ⟨sR,(Qby _ _ _ _ _),trivial⟩))
 <| fun p1=>.u 5 [b1,b2,b2]<|
 .cs (args0:=[.agg (fsyA f),.agg [aI c.kind,aI c.ino,aI c.to,aI c.at_,aI c.many,aS c.name,aS c.name2,aS c.text],.agg [aI 0,aI 3,aI 0,aS c.text,aN]]) (Zhk f c okf okc hp ⟨0,3,0,c.text,[]⟩ (Qrx (by omega)) hx) ⟨sR,sR,W2t ⟨sR,sR,sR,sR,Sub.nil _ _,trivial⟩,trivial⟩<|
 .u 4 [b3,b4]<|
 .f (.tup [.agg (fsyA (symO f c).1),.agg (repA (symO f c).2)]) [b3,b4] (.tup [.agg [.sl 5 false ((addO f c ⟨0,3,0,c.text,[]⟩).1.l.map nodA),aI ((addO f c ⟨0,3,0,c.text,[]⟩).1.next)],.agg [aI ((addO f c ⟨0,3,0,c.text,[]⟩).2.e),aI ((addO f c ⟨0,3,0,c.text,[]⟩).2.a),aI ((addO f c ⟨0,3,0,c.text,[]⟩).2.b),aI ((addO f c ⟨0,3,0,c.text,[]⟩).2.n),aS ((addO f c ⟨0,3,0,c.text,[]⟩).2.text),.sl 1 false ((addO f c ⟨0,3,0,c.text,[]⟩).2.names.map txA)]]) (by
  have e:symO f c=_:=W1x (by omega);rw [e];exact sR))
theorem Zg6 (f:Fsy) (c:Cal) (okf:OkF f) (okc:OkCal c) (hp:Qan f) (dir:Bool) (odd:Int) (ho:¬ odd=0):Qai prog 140 [.agg (fsyA f),.agg [aI c.kind,aI c.ino,aI c.to,aI c.at_,aI c.many,aS c.name,aS c.name2,aS c.text],aB dir,aI odd] (.tup [.agg (fsyA (Qc8 f c dir odd).1),.agg (repA (Qc8 f c dir odd).2)]):=by
 have hl:=hp.1;have hr:=Qaf hp;have hcn:=okc.name;have hcn2:=okc.name2;have hct:=okc.text;exact Qae func140 (
 .new fun b1=>.new fun b2=>.new fun b3=>.new fun b4=>.u 5 [b1,b2,b2]<|
 .call (Qkw f c.ino c.name hp hcn)<|
 .r 3<|.new fun b5=>.u 2 [b5]<|
 .r 3<|.br 24 ((Qa4 f c.ino c.name)==0) (fun q1=>have p1:=beqT q1;.u 6 [b5]<|
 .br 30 (!((((lookN f c.ino c.name).kind)==2)==dir)) (fun q2=>have q2:=notT q2;have p2:=beqF q2;.r 2<|.r 2<|.is 33 (show (odd != 0)=true from (by simpa using ho))<|.u 5 [b1,b3,b4]<|
 .f (.tup [.agg (fsyA (Qc8 f c dir odd).1),.agg (repA (Qc8 f c dir odd).2)]) [b3,b4] (.tup [.agg (fsyA f),.agg [aI odd,aI 0,aI 0,aI 0,aS ([]),aN]]) (by
  have e0:Qa4 f c.ino c.name=0:=beqT q1;have e1:(((lookN f c.ino c.name).kind==2) != dir)=true:=by simpa [bne] using q2
  have e:Qc8 f c dir odd=(f,errR odd):=by unfold Qc8;rw [W1y e0,W1y e1]
  rw [e];exact W2s ⟨sR,(Qby _ _ _ _ _),trivial⟩))
 <| fun q2=>have q2:=notF q2;have p2:=beqT q2;.r 2<|.is 33 (show ((Qa4 f c.ino c.name) != 0)=false from (by simpa [bne] using q1))<|.u 5 [b1,b2,b2]<|
 .call (Zde f c.ino c.name okf hp hcn)<|
 .r 3<|.new fun b6=>.u 2 [b6]<|
 .u 5 [b6,b3,b4]<|
 .f (.tup [.agg (fsyA (Qc8 f c dir odd).1),.agg (repA (Qc8 f c dir odd).2)]) [b3,b4] (.tup [.agg [.sl 5 false ((Qdm f c.ino c.name).l.map nodA),aI ((Qdm f c.ino c.name).next)],.agg [aI (Qbd f c.ino c.name),aI 0,aI 0,aI 0,aS ([]),aN]]) (by
  have e0:Qa4 f c.ino c.name=0:=beqT q1;have e1:¬ (((lookN f c.ino c.name).kind==2) != dir)=true:=by simpa [bne] using q2
  have e:Qc8 f c dir odd=(Qdm f c.ino c.name,errR (Qbd f c.ino c.name)):=by unfold Qc8;rw [W1y e0,W1x e1]
  rw [e];exact W2s ⟨sR,(Qby _ _ _ _ _),trivial⟩))
 <| fun q1=>have p1:=beqF q1;.r 6<|.r 2<|.is 33 (show ((Qa4 f c.ino c.name) != 0)=true from (by simpa [bne] using q1))<|.u 5 [b1,b3,b4]<|
 .f (.tup [.agg (fsyA (Qc8 f c dir odd).1),.agg (repA (Qc8 f c dir odd).2)]) [b3,b4] (.tup [.agg (fsyA f),.agg [aI (Qa4 f c.ino c.name),aI 0,aI 0,aI 0,aS ([]),aN]]) (by
  have e:Qc8 f c dir odd=(f,errR (Qa4 f c.ino c.name)):=W1x (beqF q1);rw [e];exact W2s ⟨sR,(Qby _ _ _ _ _),trivial⟩))
theorem Zoq (f:Fsy) (c:Cal) (okf:OkF f) (okc:OkCal c) (hp:Qan f):Qai prog 139 [.agg (fsyA f),.agg [aI c.kind,aI c.ino,aI c.to,aI c.at_,aI c.many,aS c.name,aS c.name2,aS c.text]] (.tup [.agg (fsyA (Qc8 f c false 9).1),.agg (repA (Qc8 f c false 9).2)]):=by
 have hl:=hp.1;have hr:=Qaf hp;have hcn:=okc.name;have hcn2:=okc.name2;have hct:=okc.text;exact Qae func139 (let R:AV:=.tup [.agg (fsyA (Qc8 f c false 9).1),.agg (repA (Qc8 f c false 9).2)];
 .new fun b1=>.new fun b2=>.new fun b3=>.new fun b4=>.u 2 [b1,b2]<|
 .call (Zg6 f c okf okc hp false 9 (by decide))<|
 .u 4 [b3,b4]<|
 .fi R [b3,b4])
theorem Zk7 (f:Fsy) (c:Cal) (okf:OkF f) (okc:OkCal c) (hp:Qan f):Qai prog 141 [.agg (fsyA f),.agg [aI c.kind,aI c.ino,aI c.to,aI c.at_,aI c.many,aS c.name,aS c.name2,aS c.text]] (.tup [.agg (fsyA (Qc8 f c true 8).1),.agg (repA (Qc8 f c true 8).2)]):=by
 have hl:=hp.1;have hr:=Qaf hp;have hcn:=okc.name;have hcn2:=okc.name2;have hct:=okc.text;exact Qae func141 (let R:AV:=.tup [.agg (fsyA (Qc8 f c true 8).1),.agg (repA (Qc8 f c true 8).2)];
 .new fun b1=>.new fun b2=>.new fun b3=>.new fun b4=>.u 2 [b1,b2]<|
 .call (Zg6 f c okf okc hp true 8 (by decide))<|
 .u 4 [b3,b4]<|
 .fi R [b3,b4])
theorem Zk6 (f:Fsy) (c:Cal) (okf:OkF f) (okc:OkCal c) (hp:Qan f):Qai prog 142 [.agg (fsyA f),.agg [aI c.kind,aI c.ino,aI c.to,aI c.at_,aI c.many,aS c.name,aS c.name2,aS c.text]] (.tup [.agg (fsyA (Qxi f c).1),.agg (repA (Qxi f c).2)]):=by
 have hl:=hp.1;have hr:=Qaf hp;have hcn:=okc.name;have hcn2:=okc.name2;have hct:=okc.text;exact Qae func142 (let R:AV:=.tup [.agg (fsyA (Qxi f c).1),.agg (repA (Qxi f c).2)];
 .new fun b1=>.new fun b2=>.new fun b3=>.new fun b4=>.u 7 [b1,b2,b2,b2]<|
 .call (Zgo f c.ino c.name c.to okf hp hcn okc.to)<|
 .r 3<|.new fun b5=>.u 2 [b5]<|
 .u 5 [b5,b3,b4]<|
 .f R [b3,b4] (.tup [.agg [.sl 5 false ((Qcz f c.ino c.name c.to).l.map nodA),aI ((Qcz f c.ino c.name c.to).next)],.agg [aI (Qa5 f c.ino c.name c.to),aI 0,aI 0,aI 0,aS ([]),aN]]) (by exact W2s ⟨sR,(Qby _ _ _ _ _),trivial⟩))
theorem Zk5 (f:Fsy) (c:Cal) (okf:OkF f) (okc:OkCal c) (hp:Qan f):Qai prog 144 [.agg (fsyA f),.agg [aI c.kind,aI c.ino,aI c.to,aI c.at_,aI c.many,aS c.name,aS c.name2,aS c.text]] (.tup [.agg (fsyA (renO f c).1),.agg (repA (renO f c).2)]):=by
 have hl:=hp.1;have hr:=Qaf hp;have hcn:=okc.name;have hcn2:=okc.name2;have hct:=okc.text;exact Qae func144 (let R:AV:=.tup [.agg (fsyA (renO f c).1),.agg (repA (renO f c).2)];
 .new fun b1=>.new fun b2=>.new fun b3=>.new fun b4=>.u 9 [b1,b2,b2,b2,b2]<|
 .call (Zfn f c.ino c.name c.to c.name2 okf hp hcn hcn2)<|
 .r 3<|.new fun b5=>.u 2 [b5]<|
 .u 5 [b5,b3,b4]<|
 .f R [b3,b4] (.tup [.agg [.sl 5 false ((movF f c.ino c.name c.to c.name2).l.map nodA),aI ((movF f c.ino c.name c.to c.name2).next)],.agg [aI (Qbc f c.ino c.name c.to c.name2),aI 0,aI 0,aI 0,aS ([]),aN]]) (by exact W2s ⟨sR,(Qby _ _ _ _ _),trivial⟩))
theorem Zk4 (f:Fsy) (c:Cal) (okf:OkF f) (okc:OkCal c) (hp:Qan f):Qai prog 146 [.agg (fsyA f),.agg [aI c.kind,aI c.ino,aI c.to,aI c.at_,aI c.many,aS c.name,aS c.name2,aS c.text]] (.tup [.agg (fsyA (Qwq f c).1),.agg (repA (Qwq f c).2)]):=by
 have hl:=hp.1;have hr:=Qaf hp;have hcn:=okc.name;have hcn2:=okc.name2;have hct:=okc.text;exact Qae func146 (let R:AV:=.tup [.agg (fsyA (Qwq f c).1),.agg (repA (Qwq f c).2)];
 .new fun b1=>.new fun b2=>.new fun b3=>.new fun b4=>.u 3 [b1,b2]<|
 .call (Qro f c.ino 3 hp)<|
 .r 3<|.new fun b5=>.u 2 [b5]<|
 let J1:Jn (Unit):=⟨fun j1=>⟨[(4,.ptr 4 b3 0),(5,.ptr 5 b4 0)],[(4,.box b3 28 (fsyA f)),(5,.box b4 45 [aI (ofE f c.ino 3),aI 0,aI 0,aI 0,aS ((ofN f c.ino 3).text),aN])]⟩,fun _=>True⟩
 .cut J1 (.pick [0,1,2]<|.u 3 [b1]<|
 .fork<|.alt (.u 1 [b5]<|
 .pick [4,5,6]<|.u 3 [b3,b4]<|
 .jo J1 () [] [] sr2 bb2)
 <| .u 1 [b3]<|
 .pick [3,4,6]<|.u 3 [b5,b4]<|
 .jo J1 () [] [] sr2 bb2)
 <| fun _ _=>.f R [b3,b4] (.tup [.agg (fsyA f),.agg [aI (ofE f c.ino 3),aI 0,aI 0,aI 0,aS ((ofN f c.ino 3).text),aN]]) (by exact W2s ⟨sR,(Qby _ _ _ _ _),trivial⟩))
theorem Zk3 (f:Fsy) (c:Cal) (okf:OkF f) (okc:OkCal c) (hp:Qan f):Qai prog 148 [.agg (fsyA f),.agg [aI c.kind,aI c.ino,aI c.to,aI c.at_,aI c.many,aS c.name,aS c.name2,aS c.text]] (.tup [.agg (fsyA (Zbw f c).1),.agg (repA (Zbw f c).2)]):=by
 have hl:=hp.1;have hr:=Qaf hp;have hcn:=okc.name;have hcn2:=okc.name2;have hct:=okc.text;exact Qae func148 (let R:AV:=.tup [.agg (fsyA (Zbw f c).1),.agg (repA (Zbw f c).2)];
 .new fun b1=>.new fun b2=>.new fun b3=>.new fun b4=>.u 3 [b1,b2]<|
 .call (Qjg f c.ino hp)<|
 .r 3<|.new fun b5=>.u 2 [b5]<|
 .ord [0,1,2,3,4,5,6,7]<|.u 4 [b1,b5]<|
 .call (Qxw (dirN f c.ino).l (by have:=(Qdo hp c.ino).2;omega))<|
 .u 3 [b3,b4]<|
 .fi R [b3,b4])
theorem Zk2 (f:Fsy) (c:Cal) (okf:OkF f) (okc:OkCal c) (hp:Qan f):Qai prog 150 [.agg (fsyA f),.agg [aI c.kind,aI c.ino,aI c.to,aI c.at_,aI c.many,aS c.name,aS c.name2,aS c.text]] (.tup [.agg (fsyA (sfsO f).1),.agg (repA (sfsO f).2)]):=by
 have hl:=hp.1;have hr:=Qaf hp;have hcn:=okc.name;have hcn2:=okc.name2;have hct:=okc.text;exact Qae func150 (
 .new fun b1=>.new fun b2=>.new fun b3=>.new fun b4=>.u 3 [b1]<|
 .lm 11 f.l nodA<|.r 1<|.new fun b5=>.u 1 [b5]<|
 .u 3 [b1]<|
 .lm 15 f.l nodA<|.r 1<|let L1:Lp (Nat):=⟨fun a1=>⟨[(2,.ptr 2 b1 0),(4,.ptr 4 b3 0),(5,.ptr 5 b4 0),(6,.ptr 6 b5 0),(14,.sl 5 false (f.l.map nodA)),(15,aI (f.l.length:Int)),(16,aI (a1:Int))],[(2,.box b1 28 (fsyA f)),(4,.box b3 28 [aN,aI 0]),(5,.box b4 45 [aI 0,aI 0,aI 0,aI 0,aS ([]),aN]),(6,.box b5 45 [aI 0,aI (f.l.length:Int),aI (txtS (f.l.take a1):Int),aI 0,aS ([]),aN])]⟩,fun a1=>f.l.length-a1,fun a1=>a1≤f.l.length∧txtS (f.l.take a1)≤4096*a1⟩
 .lp L1 0 ⟨W0j _,W0m _⟩ [(16,aI 0)] [(6,.box b5 45 [aI 0,aI (f.l.length:Int),aI 0,aI 0,aS ([]),aN])] ⟨sR,sR,sR,sR,sR,sR,sO,trivial⟩ ⟨sB,sB,sB,⟨_,rfl,W2q rfl⟩,trivial⟩ fun a1 ha1=>
 (fun (k:Nat) (hH1:k≤f.l.length∧txtS (f.l.take k)≤4096*k)=>.r 1<|.bd 17 ((k:Int)<(f.l.length:Int)) (fun p1=>.idxM f.l nodA k (m:=(k:Int)) rfl (by omega) fun x1 hx1=>
 have tlx1:=Qmv hp (W0h hx1);.r 1<|.new fun b6=>.u 1 [b6]<|
 .run 8 [b5=b5,b6=b6,rng .i64 ((txtS (f.l.take k):Int)+((x1.text).length:Int)),b5=b5] ⟨rfl,rfl,Qah,rfl,trivial⟩<|
 .run 2 [rng .i64 ((k:Int)+1)] ⟨Qah,trivial⟩<|
 .bk L1 k (k+1) ⟨by omega,by rw [show txtS (f.l.take (k+1))=txtS (f.l.take k)+x1.text.length from by unfold txtS;rw [Qam hx1];simp];have:=Qmv hp (W0h hx1);omega⟩ (show f.l.length-(k+1)<f.l.length-k from (by omega)) [(16,aI ((k:Int)+1))] [(6,.box b5 45 [aI 0,aI (f.l.length:Int),aI ((txtS (f.l.take k):Int)+((x1.text).length:Int)),aI 0,aS ([]),aN])] ⟨sR,sR,sR,sR,sR,sR,sO,trivial⟩ ⟨sB,sB,sB,⟨_,rfl,W2q (by rw [show txtS (f.l.take (k+1))=txtS (f.l.take k)+x1.text.length from by unfold txtS;rw [Qam hx1];simp];simp)⟩,trivial⟩)
 <| fun p1=>.pick [0]<|.u 1 [b1]<|
 .fork<|.alt (.u 1 [b5]<|
 .pick [2,3]<|.u 2 [b3,b4]<|
 .f (.tup [.agg (fsyA (sfsO f).1),.agg (repA (sfsO f).2)]) [b3,b4] (.tup [.agg (fsyA f),.agg [aI 0,aI (f.l.length:Int),aI (txtS (f.l.take k):Int),aI 0,aS ([]),aN]]) (by
  rw [show k=f.l.length from by omega,Qat (W0m _)];exact W2s ⟨sR,(Qby _ _ _ _ _),trivial⟩))
 <| .u 1 [b3]<|
 .pick [1,3]<|.u 2 [b5,b4]<|
 .f (.tup [.agg (fsyA (sfsO f).1),.agg (repA (sfsO f).2)]) [b3,b4] (.tup [.agg (fsyA f),.agg [aI 0,aI (f.l.length:Int),aI (txtS (f.l.take k):Int),aI 0,aS ([]),aN]]) (by
  rw [show k=f.l.length from by omega,Qat (W0m _)];exact W2s ⟨sR,(Qby _ _ _ _ _),trivial⟩)) a1 ha1)
end Go.Proofs.YtahlldgocpabjaaGreat
