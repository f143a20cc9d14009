import Derived.Test.YtahlldgocpabjaaGreatMrgP
import Derived.Test.YtahlldgocpabjaaGreatMrgM
import Derived.Test.YtahlldgocpabjaaGreatMrgN
set_option maxRecDepth 100000
set_option maxHeartbeats 8000000
set_option linter.unusedVariables false
set_option linter.unusedSimpArgs false
namespace Go.Proofs.YtahlldgocpabjaaGreat
open Go Go.RowKit Copyhold Go.Proofs.Tryz
def Qat (l:List Int):Int:=(l.find? fun z=>z != 0).getD 0
def Qae (b:Bool) (e:Int):Int:=if b then e else 0
theorem Zhu {l:List Int} (h:AllQ (fun _ z=>(z != 0)=false) l):Qat l=0:=by
 unfold Qat;rw [List.find?_eq_none.2 fun x hx=>by obtain ⟨j,hj⟩:=List.getElem?_of_mem hx;rw [h j x hj];simp];rfl
theorem Qw4:∀ {l:List Int} {k:Nat} {x:Int},Qa1 (fun _ z=>(z != 0)=false) l k→l[k]?=some x→(x != 0)=true→Qat l=x
 | y :: r,0,x,_,hx,hp=>by simp at hx;subst hx;simp [Qat,hp]
 | y :: r,k+1,x,h,hx,hp=>by
  have h1:=h 0 y (by omega) rfl;have h2:=Qw4 (l:=r) (k:=k) (fun j e hj he=>h (j+1) e (by omega) (by simpa using he)) (by simpa using hx) hp;unfold Qat at h2 ⊢;rw [List.find?_cons,h1];exact h2
theorem Qm9 {t:Bool} (a b c:Int):Sub (.sl 1 t [[aI a],[aI b],[aI c]]) (.sl 1 false ([a,b,c].map intA)):=Sub.loose _ _ _
theorem Qo1 {t:Bool} (a b:Int):Sub (.sl 1 t [[aI a],[aI b]]) (.sl 1 false ([a,b].map intA)):=Sub.loose _ _ _
theorem Qso {a b:Int}:Qat [a,b]=if a=0 then b else a:=by
 unfold Qat;by_cases h:a=0
 ·by_cases h2:b=0
  ·simp [h,h2]
  ·simp [h,h2]
 ·simp [h]
theorem Qh7 {a b c:Int}:Qat [a,b,c]=if a=0 then (if b=0 then c else b) else a:=by
 unfold Qat;by_cases h:a=0
 ·by_cases h2:b=0
  ·by_cases h3:c=0
   ·simp [h,h2,h3]
   ·simp [h,h2,h3]
  ·simp [h,h2]
 ·simp [h]
def dirE (f:Fsy) (i:Int):Int:=if Qau f i=true then (if (Qaa f i).kind=2 then 0 else 8) else 6
def dirN (f:Fsy) (i:Int):Nod:=if dirE f i=0 then Qaa f i else nod0
theorem Zj0 {f:Fsy} {i:Int} (h:Qau f i=false):dirE f i=6∧dirN f i=nod0:=by
 have e:dirE f i=6:=by unfold dirE;rw [h];rfl
 exact ⟨e,by unfold dirN;rw [e];rfl⟩
theorem Zjz {f:Fsy} {i:Int} (h:Qau f i=true) (h2:¬ (Qaa f i).kind=2):dirE f i=8∧dirN f i=nod0:=by
 have e:dirE f i=8:=by unfold dirE;rw [if_pos h,if_neg h2]
 exact ⟨e,by unfold dirN;rw [e];rfl⟩
theorem Qxc {f:Fsy} {i:Int} (h:Qau f i=true) (h2:(Qaa f i).kind=2):dirE f i=0∧dirN f i=Qaa f i:=by
 have e:dirE f i=0:=by unfold dirE;rw [if_pos h,if_pos h2]
 exact ⟨e,by unfold dirN;rw [e];rfl⟩
theorem Qfa {f:Fsy} {i:Int} (h:Qau f i=true):Qaa f i∈f.l:=by
 unfold Qau at h;unfold Qaa;cases hf:f.l.find? (isNo i) with
 | none=>rw [List.find?_eq_none] at hf;obtain ⟨x,hx,hi⟩:=List.any_eq_true.1 h;exact absurd hi (hf x hx)
 | some n=>exact List.mem_of_find?_eq_some hf
theorem Qwi {n:Nod} (h:nodP n):Name.Srt (lI n.l)∧n.l.length≤256:=by
 rcases h.2.2.2 with ⟨_,_,h⟩ | ⟨_,_,h⟩
 ·exact ⟨Qcu h,h.1⟩
 ·rw [h];exact ⟨List.Pairwise.nil,by decide⟩
theorem Qc5 {f:Fsy} (h:Qam f) (i:Int):Name.Srt (lI (dirN f i).l)∧(dirN f i).l.length≤256:=by
 unfold dirN
 split
 ·rename_i e;by_cases hb:Qau f i=true
  ·exact Qwi ((Qbg.1 h).2.2.1 _ (Qfa hb)).1
  ·unfold dirE at e;rw [if_neg hb] at e;cases e
 ·exact ⟨List.Pairwise.nil,by decide⟩
theorem Zdt {f:Fsy} (h:Qam f):Qau f 0=false:=by
 unfold Qau;rw [List.any_eq_false];intro n hn;have:=((Qbg.1 h).2.2.1 n hn).1.1;have hne:¬ n.ino=0:=by omega
 simp [isNo,hne]
def Qfh (f:Fsy) (i:Int) (s:Txt):Int:=getI (dirN f i).l s
noncomputable def Qa3 (f:Fsy) (i:Int) (s:Txt):Int:=Qat [dirE f i,Qah s,Qae (!(Qau f (Qfh f i s))) 6]
noncomputable def lookN (f:Fsy) (i:Int) (s:Txt):Nod:=if Qa3 f i s=0 then Qaa f (Qfh f i s) else nod0
theorem Qki {f:Fsy} {i:Int} {s:Txt} (h:¬ Qa3 f i s=0):lookN f i s=nod0:=if_neg h
theorem Qp4 {f:Fsy} {i:Int} {s:Txt} (h:Qa3 f i s=0):lookN f i s=Qaa f (Qfh f i s):=if_pos h
theorem Qdk {n:Nod} (h:n=nod0):Sub (.agg [aI 0,aI 0,aI 0,aS [],aN]) (.agg (nodA n)):=by
 subst h;exact Sub.aggs ⟨sR,sR,sR,sR,Sub.nil _ _,trivial⟩
theorem Qcc (l:List Int) (hl:l.length≤100000):Qaf prog 181 [.sl 1 false (l.map intA)] (aI (Qat l)):=by
 exact Qac func181 (
 .r 1<|.r 2<|.lm 6 l intA<|.r 1<|let L1:Lp (Nat):=⟨fun a1=>⟨[(5,.sl 1 false (l.map intA)),(6,aI (l.length:Int)),(7,aI (a1:Int))],[]⟩,fun a1=>l.length-a1,fun a1=>Qa1 (fun _ z=>(z != 0)=false) l a1⟩
 .lp L1 0 (show Qa1 (fun _ z=>(z != 0)=false) l 0 from Qa1.zero _ _) [(7,aI 0)] [] ⟨sR,sR,sO,trivial⟩ trivial fun a1 ha1=>
 (fun (k:Nat) (hH1:Qa1 (fun _ z=>(z != 0)=false) l k)=>.r 1<|.br 8 (decide ((k:Int)<(l.length:Int))) (fun q1=>have p1:=decT q1;.idxM l intA k (m:=(k:Int)) rfl (by omega) fun x1 hx1=>
 .r 2<|.r 2<|.br 12 (x1 != 0) (fun q2=>have p2:=bneT q2;.r 2<|.f (aI (Qat l)) [] (aI x1) (by exact Sub.of_eq (congrArg aI (Qw4 hH1 hx1 (by assumption)).symm)))
 <| fun q2=>have p2:=bneF q2;.run 2 [rng .i64 ((k:Int)+1)] ⟨Qaj (by omega) (by omega),trivial⟩<|
 .bk L1 k (k+1) (show Qa1 (fun _ z=>(z != 0)=false) l (k+1) from (hH1.step hx1 (by assumption))) (show l.length-(k+1)<l.length-k from (by omega)) [(7,aI ((k:Int)+1))] [] ⟨sR,sR,sO,trivial⟩ trivial)
 <| fun q1=>have p1:=decF q1;.r 1<|.f (aI (Qat l)) [] (aI 0) (by exact Sub.of_eq (congrArg aI (Zhu (hH1.full (by omega))).symm))) a1 ha1)
theorem Qbl (b:Bool) (e:Int):Qaf prog 182 [aB b,aI e] (aI (Qae b e)):=by
 exact Qac func182 (
 .r 1<|.r 1<|.bb 5 b (fun p1=>.r 2<|.f (aI (Qae b e)) [] (aI e) (by exact Sub.of_eq (congrArg aI (by unfold Qae;simp [*]))))
 <| fun p1=>.r 1<|.f (aI (Qae b e)) [] (aI 0) (by exact Sub.of_eq (congrArg aI (by unfold Qae;simp [*]))))
theorem Qhx (f:Fsy) (i:Int) (hp:Qam f):Qaf prog 95 [.agg (fsyA f),aI i] (.tup [.agg (nodA (dirN f i)),aI (dirE f i)]):=by
 have hl:=hp.1;have hr:=Qad hp;exact Qac func95 (
 .new fun b1=>.new fun b2=>.r 1<|.u 2 [b1]<|
 .call (Qb4 f i (by omega) hr)<|
 .r 3<|.new fun b3=>.u 2 [b3]<|
 .r 2<|.br 15 (!(Qau f i)) (fun q1=>have q1:=notT q1;have p1:=booF q1;.u 3 [b2]<|
 .f (.tup [.agg (nodA (dirN f i)),aI (dirE f i)]) [b2] (.tup [.agg [aI 0,aI 0,aI 0,aS ([]),aN],aI 6]) (by
  obtain ⟨e1,e2⟩:=Zj0 q1;exact Sub.tups ⟨Qdk e2,Sub.of_eq (congrArg aI e1.symm),trivial⟩))
 <| fun q1=>have q1:=notF q1;have p1:=booT q1;.u 3 [b3]<|
 .br 19 (((Qaa f i).kind) != 2) (fun q2=>have p2:=bneT q2;.u 3 [b2]<|
 .f (.tup [.agg (nodA (dirN f i)),aI (dirE f i)]) [b2] (.tup [.agg [aI 0,aI 0,aI 0,aS ([]),aN],aI 8]) (by
  obtain ⟨e1,e2⟩:=Zjz q1 (by assumption);exact Sub.tups ⟨Qdk e2,Sub.of_eq (congrArg aI e1.symm),trivial⟩))
 <| fun q2=>have p2:=bneF q2;.u 3 [b3,b2]<|
 .f (.tup [.agg (nodA (dirN f i)),aI (dirE f i)]) [b2] (.tup [.agg [aI ((Qaa f i).ino),aI ((Qaa f i).kind),aI ((Qaa f i).links),aS ((Qaa f i).text),.sl 2 false ((Qaa f i).l.map entA)],aI 0]) (by
  obtain ⟨e1,e2⟩:=Qxc q1 (by assumption);rw [e1,e2];exact sR))
theorem Qgr (f:Fsy) (i:Int) (hp:Qam f):Qaf prog 75 [.agg (fsyA f),aI i] (.tup [.agg (nodA (dirN f i)),aI (dirE f i)]):=by
 have hl:=hp.1;have hr:=Qad hp;exact Qac func75 (
 .new fun b1=>.new fun b2=>.r 1<|.u 2 [b1]<|
 .call (Qa9 f i (by omega))<|
 .r 3<|.new fun b3=>.u 2 [b3]<|
 .r 2<|.br 15 (!(Qau f i)) (fun q1=>have q1:=notT q1;have p1:=booF q1;.u 3 [b2]<|
 .f (.tup [.agg (nodA (dirN f i)),aI (dirE f i)]) [b2] (.tup [.agg [aI 0,aI 0,aI 0,aS ([]),aN],aI 6]) (by
  obtain ⟨e1,e2⟩:=Zj0 q1;exact Sub.tups ⟨Qdk e2,Sub.of_eq (congrArg aI e1.symm),trivial⟩))
 <| fun q1=>have q1:=notF q1;have p1:=booT q1;.u 3 [b3]<|
 .br 19 (((Qaa f i).kind) != 2) (fun q2=>have p2:=bneT q2;.u 3 [b2]<|
 .f (.tup [.agg (nodA (dirN f i)),aI (dirE f i)]) [b2] (.tup [.agg [aI 0,aI 0,aI 0,aS ([]),aN],aI 8]) (by
  obtain ⟨e1,e2⟩:=Zjz q1 (by assumption);exact Sub.tups ⟨Qdk e2,Sub.of_eq (congrArg aI e1.symm),trivial⟩))
 <| fun q2=>have p2:=bneF q2;.u 3 [b3,b2]<|
 .f (.tup [.agg (nodA (dirN f i)),aI (dirE f i)]) [b2] (.tup [.agg [aI ((Qaa f i).ino),aI ((Qaa f i).kind),aI ((Qaa f i).links),aS ((Qaa f i).text),.sl 2 false ((Qaa f i).l.map entA)],aI 0]) (by
  obtain ⟨e1,e2⟩:=Qxc q1 (by assumption);rw [e1,e2];exact sR))
theorem Qji (f:Fsy) (i:Int) (s:Txt) (hp:Qam f) (hs:s.length≤1000000):Qaf prog 173 [.agg (fsyA f),aI i,aS s] (.tup [.agg (nodA (lookN f i s)),aI (Qa3 f i s)]):=by
 have hl:=hp.1;have hr:=Qad hp;exact Qac func173 (
 .new fun b1=>.new fun b2=>.r 1<|.u 2 [b1]<|
 .call (Qhx f i hp)<|
 .r 3<|.new fun b3=>.u 2 [b3]<|
 .u 3 [b3]<|
 .call (Qfv ((dirN f i).l) s (by have:=(Qc5 hp i).2;omega) (Qc5 hp i).1)<|
 .r 5<|.u 2 [b1]<|
 .call (Qb4 f (getI ((dirN f i).l) s) (by omega) hr)<|
 .r 3<|.new fun b4=>.u 2 [b4]<|
 .r 2<|.call (Qen s (by omega))<|
 .r 2<|.call (Qbl (!(Qau f (getI ((dirN f i).l) s))) 6)<|
 .r 1<|.cs (args0:=[.sl 1 true ([[aI (dirE f i)],[aI (Qah s)],[aI (Qae (!(Qau f (getI ((dirN f i).l) s))) 6)]])]) (Qcc [(dirE f i),(Qah s),(Qae (!(Qau f (getI ((dirN f i).l) s))) 6)] (by simp)) ⟨Qm9 (dirE f i) (Qah s) (Qae (!(Qau f (getI ((dirN f i).l) s))) 6),trivial⟩<|
 .r 1<|.r 2<|.br 42 ((Qat [(dirE f i),(Qah s),(Qae (!(Qau f (getI ((dirN f i).l) s))) 6)]) != 0) (fun q1=>have p1:=bneT q1;.u 4 [b2]<|
 .f (.tup [.agg (nodA (lookN f i s)),aI (Qa3 f i s)]) [b2] (.tup [.agg [aI 0,aI 0,aI 0,aS ([]),aN],aI (Qat [(dirE f i),(Qah s),(Qae (!(Qau f (getI ((dirN f i).l) s))) 6)])]) (by
  have e:¬ Qa3 f i s=0:=by assumption
  exact Sub.tups ⟨Qdk (Qki e),sR,trivial⟩))
 <| fun q1=>have p1:=bneF q1;.u 3 [b4,b2]<|
 .f (.tup [.agg (nodA (lookN f i s)),aI (Qa3 f i s)]) [b2] (.tup [.agg [aI ((Qaa f (getI ((dirN f i).l) s)).ino),aI ((Qaa f (getI ((dirN f i).l) s)).kind),aI ((Qaa f (getI ((dirN f i).l) s)).links),aS ((Qaa f (getI ((dirN f i).l) s)).text),.sl 2 false ((Qaa f (getI ((dirN f i).l) s)).l.map entA)],aI 0]) (by
  have e:Qa3 f i s=0:=by assumption
  rw [Qp4 e,e];exact sR))
theorem Qdv (f:Fsy) (i:Int) (s:Txt) (hp:Qam f) (hs:s.length≤1000000):Qaf prog 66 [.agg (fsyA f),aI i,aS s] (.tup [.agg (nodA (lookN f i s)),aI (Qa3 f i s)]):=by
 have hl:=hp.1;have hr:=Qad hp;exact Qac func66 (
 .new fun b1=>.new fun b2=>.r 1<|.u 2 [b1]<|
 .call (Qgr f i hp)<|
 .r 3<|.new fun b3=>.u 2 [b3]<|
 .r 2<|.br 22 ((dirE f i) != 0) (fun q1=>have p1:=bneT q1;.u 4 [b2]<|
 .f (.tup [.agg (nodA (lookN f i s)),aI (Qa3 f i s)]) [b2] (.tup [.agg [aI 0,aI 0,aI 0,aS ([]),aN],aI (dirE f i)]) (by
  have e0:Qa3 f i s=dirE f i:=by
   unfold Qa3;rw [Qh7];simp_all [Qae,Qfh]
  exact Sub.tups ⟨Qdk (Qki (by omega)),Sub.of_eq (congrArg aI e0.symm),trivial⟩))
 <| fun q1=>have p1:=bneF q1;.r 1<|.call (Qdw s (by omega))<|
 .r 1<|.r 2<|.br 28 ((Qah s) != 0) (fun q2=>have p2:=bneT q2;.u 4 [b2]<|
 .f (.tup [.agg (nodA (lookN f i s)),aI (Qa3 f i s)]) [b2] (.tup [.agg [aI 0,aI 0,aI 0,aS ([]),aN],aI (Qah s)]) (by
  have e0:Qa3 f i s=Qah s:=by
   unfold Qa3;rw [Qh7];simp_all [Qae,Qfh]
  exact Sub.tups ⟨Qdk (Qki (by omega)),Sub.of_eq (congrArg aI e0.symm),trivial⟩))
 <| fun q2=>have p2:=bneF q2;.u 3 [b3]<|
 .call (Qdu ((dirN f i).l) s (by have:=(Qc5 hp i).2;omega))<|
 .r 5<|.r 2<|.br 39 (!(isB ((dirN f i).l) s)) (fun q3=>have q3:=notT q3;have p3:=booF q3;.u 3 [b2]<|
 .f (.tup [.agg (nodA (lookN f i s)),aI (Qa3 f i s)]) [b2] (.tup [.agg [aI 0,aI 0,aI 0,aS ([]),aN],aI 6]) (by
  have e0:Qa3 f i s=6:=by
   have hz:Qfh f i s=0:=Qqe (by assumption);have hz2:=Zdt hp;unfold Qa3;rw [Qh7];simp_all [Qae,Qfh]
  exact Sub.tups ⟨Qdk (Qki (by omega)),Sub.of_eq (congrArg aI e0.symm),trivial⟩))
 <| fun q3=>have q3:=notF q3;have p3:=booT q3;.u 2 [b1]<|
 .call (Qa9 f (getI ((dirN f i).l) s) (by omega))<|
 .r 3<|.new fun b4=>.u 2 [b4]<|
 .r 2<|.nbb 48 (Qau f (getI ((dirN f i).l) s)) (fun p4=>.u 3 [b2]<|
 .f (.tup [.agg (nodA (lookN f i s)),aI (Qa3 f i s)]) [b2] (.tup [.agg [aI 0,aI 0,aI 0,aS ([]),aN],aI 6]) (by
  have e0:Qa3 f i s=6:=by
   unfold Qa3;rw [Qh7];simp_all [Qae,Qfh]
  exact Sub.tups ⟨Qdk (Qki (by omega)),Sub.of_eq (congrArg aI e0.symm),trivial⟩))
 <| fun p4=>.u 3 [b4,b2]<|
 .f (.tup [.agg (nodA (lookN f i s)),aI (Qa3 f i s)]) [b2] (.tup [.agg [aI ((Qaa f (getI ((dirN f i).l) s)).ino),aI ((Qaa f (getI ((dirN f i).l) s)).kind),aI ((Qaa f (getI ((dirN f i).l) s)).links),aS ((Qaa f (getI ((dirN f i).l) s)).text),.sl 2 false ((Qaa f (getI ((dirN f i).l) s)).l.map entA)],aI 0]) (by
  have e0:Qa3 f i s=0:=by
   unfold Qa3;rw [Qh7];simp_all [Qae,Qfh]
  rw [Qp4 e0,e0];exact sR))
end Go.Proofs.YtahlldgocpabjaaGreat

namespace Go.Proofs.YtahlldgocpabjaaGreat
open Go Go.RowKit Copyhold Go.Proofs.Tryz
open Copyhold.Name in
theorem Qmk (l:List Ent) (s:Txt) (hl:l.length≤1000000) (hr:Srt (lI l)):Qaf prog 156 [.sl 2 false (l.map entA),aS s] (.tup [aI (pos (lI l) s:Int),aB (isB l s)]):=Qb6 (Qfy _ _) fun D w vs h=>by
 obtain ⟨u,v,rfl,hu,hv⟩:=Qc0.two h;cases hv;obtain ⟨A,c,rfl,he⟩:=Qhu hu;exact (Qov (lI l) s A c w he (by simp [lI];omega) hr)
def posI (l:List Ent) (s:Txt):Nat:=Name.pos (lI l) s
theorem Qbi (l:List Ent) (s:Txt):posI l s≤l.length:=by
 have:=Name.pos_le (lI l) s;have h:(lI l).length=l.length:=by simp [lI]
 unfold posI;omega
noncomputable def entE (l:List Ent) (s:Txt) (n:Int):Int:=if (Qah s != 0)=true then 10 else if n<1 then 1 else if isB l s=true then 7 else if (l.length:Int)≥256 then 12 else 0
noncomputable def entL (l:List Ent) (s:Txt) (n:Int):List Ent:=if entE l s n=0 then l.take (posI l s)++⟨s,n⟩ :: l.drop (posI l s) else l
theorem Qzc (l:List Ent) (s:Txt) (n:Int) (hl:l.length≤256) (hr:Name.Srt (lI l)) (hs:s.length≤1000000) (hn:I64 n):Qaf prog 221 [.sl 2 false (l.map entA),aS s,aI n] (.tup [.sl 2 false ((entL l s n).map entA),aI (entE l s n)]):=by
 have hn1:=hn.1;exact Qac func221 (
 .r 2<|.r 2<|.call (Qmk l s (by omega) hr)<|
 .r 5<|.r 1<|.r 1<|.call (Qen s (by omega))<|
 .r 2<|.br 18 ((Qah s) != 0) (fun q1=>have p1:=bneT q1;.r 1<|.r 2<|.is 32 (show (10 != 0)=true from rfl)<|.r 4<|.f (.tup [.sl 2 false ((entL l s n).map entA),aI (entE l s n)]) [] (.tup [.sl 2 false (l.map entA),aI 10]) (by
  have e:entE l s n=10:=by
   unfold entE;rw [if_pos q1]
  have e2:entL l s n=l:=if_neg (by omega);rw [e,e2];exact Sub.tups ⟨by first | exact sR | exact Sub.loose _ _ _,sR,trivial⟩))
 <| fun q1=>have p1:=bneF q1;.r 3<|.bd 22 (n<1) (fun p2=>.r 1<|.r 2<|.is 32 (show (1 != 0)=true from rfl)<|.r 4<|.f (.tup [.sl 2 false ((entL l s n).map entA),aI (entE l s n)]) [] (.tup [.sl 2 false (l.map entA),aI 1]) (by
  have e:entE l s n=1:=by
   unfold entE;rw [if_neg (by rw [q1];decide)];rw [if_pos (by omega)]
  have e2:entL l s n=l:=if_neg (by omega);rw [e,e2];exact Sub.tups ⟨by first | exact sR | exact Sub.loose _ _ _,sR,trivial⟩))
 <| fun p2=>.r 2<|.br 25 (isB l s) (fun q3=>have p3:=booT q3;.r 1<|.r 2<|.is 32 (show (7 != 0)=true from rfl)<|.r 4<|.f (.tup [.sl 2 false ((entL l s n).map entA),aI (entE l s n)]) [] (.tup [.sl 2 false (l.map entA),aI 7]) (by
  have e:entE l s n=7:=by
   unfold entE;rw [if_neg (by rw [q1];decide)];rw [if_neg (by omega)];rw [if_pos q3]
  have e2:entL l s n=l:=if_neg (by omega);rw [e,e2];exact Sub.tups ⟨by first | exact sR | exact Sub.loose _ _ _,sR,trivial⟩))
 <| fun q3=>have p3:=booF q3;.r 2<|.lm 29 l entA<|.r 2<|.bd 27 ((l.length:Int)≥256) (fun p4=>.r 1<|.r 2<|.is 32 (show (12 != 0)=true from rfl)<|.r 4<|.f (.tup [.sl 2 false ((entL l s n).map entA),aI (entE l s n)]) [] (.tup [.sl 2 false (l.map entA),aI 12]) (by
  have e:entE l s n=12:=by
   unfold entE;rw [if_neg (by rw [q1];decide)];rw [if_neg (by omega)];rw [if_neg (by rw [q3];decide)];rw [if_pos (by omega)]
  have e2:entL l s n=l:=if_neg (by omega);rw [e,e2];exact Sub.tups ⟨by first | exact sR | exact Sub.loose _ _ _,sR,trivial⟩))
 <| fun p4=>.r 2<|.is 32 (show (0 != 0)=false from rfl)<|.r 2<|.lm 36 l entA<|.run 1 [rng .i64 ((l.length:Int)+1)] ⟨Qaj (by omega) (by omega),trivial⟩<|
 .mk0 24 (l.length+1) (show (l.length:Int)+1=((l.length+1:Nat):Int) from by omega) (by have hq:=Qbi l s;simp<;>omega) (by have hq:=Qbi l s;simp<;>omega) fun V1=>
 .r 1<|.r 3<|.slc 2 false (l.map entA) none (some (posI l s:Int)) none 0 (posI l s) false (.inl ⟨rfl,rfl⟩) (.inr rfl) (.inl ⟨rfl,fun h=>by cases h⟩) (by have hq:=Qbi l s;first | omega | (rw [List.length_map];omega) | (simp<;>omega)) (by have hq:=Qbi l s;first | omega | (rw [List.length_map];omega) | (simp<;>omega))<|
 .app 24 V1 ([]:List (List AV)) (((l.map entA).take (posI l s)).drop 0) (by have hq:=Qbi l s;simp<;>omega) (by have hq:=Qbi l s;simp<;>omega) fun V2=>
 .r 1<|.r 5<|.app 24 V2 (([]:List (List AV))++(((l.map entA).take (posI l s)).drop 0)) ([[aS s,aI n]]) (by have hq:=Qbi l s;simp<;>omega) (by have hq:=Qbi l s;simp<;>omega) fun V3=>
 .r 1<|.r 3<|.slc 2 false (l.map entA) (some (posI l s:Int)) none none (posI l s) ((l.map entA).length) false (.inr rfl) (.inl ⟨rfl,rfl⟩) (.inl ⟨rfl,fun h=>by cases h⟩) (by have hq:=Qbi l s;first | omega | (rw [List.length_map];omega) | (simp<;>omega)) (by have hq:=Qbi l s;first | omega | (rw [List.length_map];omega) | (simp<;>omega))<|
 .app 24 V3 ((([]:List (List AV))++(((l.map entA).take (posI l s)).drop 0))++([[aS s,aI n]])) (((l.map entA).take ((l.map entA).length)).drop (posI l s)) (by have hq:=Qbi l s;simp<;>omega) (by have hq:=Qbi l s;simp<;>omega) fun V4=>
 .r 2<|.frz 38 [6,7] [] [V4=V4,((([]:List (List AV))++(((l.map entA).take (posI l s)).drop 0))++([[aS s,aI n]])).length+(((l.map entA).take ((l.map entA).length)).drop (posI l s)).length=(((([]:List (List AV))++(((l.map entA).take (posI l s)).drop 0))++([[aS s,aI n]]))++(((l.map entA).take ((l.map entA).length)).drop (posI l s))).length] ⟨rfl,(by first | rfl | (simp;done) | (simp;omega)),trivial⟩<|
 .f (.tup [.sl 2 false ((entL l s n).map entA),aI (entE l s n)]) [] (.tup [.sl 2 false (((([]:List (List AV))++(((l.map entA).take (posI l s)).drop 0))++([[aS s,aI n]]))++(((l.map entA).take ((l.map entA).length)).drop (posI l s))),aI 0]) (by
  have e:entE l s n=0:=by
   unfold entE;rw [if_neg (by rw [q1];decide)];rw [if_neg (by omega)];rw [if_neg (by rw [q3];decide)];rw [if_neg (by omega)]
  have e2:entL l s n=l.take (posI l s)++⟨s,n⟩ :: l.drop (posI l s):=if_pos e;rw [e,e2];exact Sub.tups ⟨Sub.of_eq (congrArg (AV.sl 2 false) (by simp [entA,List.map_take,List.map_drop,Qav])),sR,trivial⟩))
end Go.Proofs.YtahlldgocpabjaaGreat

namespace Go.Proofs.YtahlldgocpabjaaGreat
open Go Go.RowKit Copyhold Go.Proofs.Tryz
def Qbk (n:Nod) (l:List Ent):Nod:=⟨n.ino,n.kind,n.links,n.text,l⟩
noncomputable def enterF (f:Fsy) (d:Int) (s:Txt) (i:Int):Fsy:=putF f (Qbk (Qaa f d) (entL (Qaa f d).l s i))
theorem Qb0 {f:Fsy} (okf:OkF f) (hp:Qam f) (i:Int):I64 (Qaa f i).ino∧(Qaa f i).ino<9223372036854775807:=by
 refine ⟨(Qf6 okf i).1,?_⟩;by_cases h:Qau f i=true
 ·have:=((Qbg.1 hp).2.2.1 _ (Qfa h)).2;have:=okf.1.2;omega
 ·have h':Qau f i=false:=by simpa using h
  unfold Qaa Qau at *;rw [List.find?_eq_none.2 fun x hx=>by simpa using List.any_eq_false.1 h' x hx];decide
theorem Qeg {f:Fsy} (h:Qam f) (i:Int):Name.Srt (lI (Qaa f i).l)∧(Qaa f i).l.length≤256:=by
 by_cases hb:Qau f i=true
 ·exact Qwi ((Qbg.1 h).2.2.1 _ (Qfa hb)).1
 ·have h':Qau f i=false:=by simpa using hb
  unfold Qaa Qau at *;rw [List.find?_eq_none.2 fun x hx=>by simpa using List.any_eq_false.1 h' x hx];exact ⟨List.Pairwise.nil,by decide⟩
theorem Qf8 (f:Fsy) (dir:Int) (s:Txt) (ino:Int) (okf:OkF f) (hp:Qam f) (hs:s.length≤1000000) (hi:I64 ino):Qaf prog 186 [.agg (fsyA f),aI dir,aS s,aI ino] (.agg (fsyA (enterF f dir s ino))):=by
 have hl:=hp.1;have hr:=Qad hp;exact Qac func186 (let R:AV:=.agg (fsyA (enterF f dir s ino));
 .new fun b1=>.new fun b2=>.u 2 [b1]<|
 .call (Qb4 f dir (by omega) hr)<|
 .r 3<|.new fun b3=>.u 2 [b3]<|
 .u 4 [b3]<|
 .call (Qzc ((Qaa f dir).l) s ino (Qeg hp dir).2 (Qeg hp dir).1 (by omega) hi)<|
 .u 5 [b3]<|
 .u 2 [b1,b3]<|
 .cs (args0:=[.agg (fsyA f),.agg [aI ((Qaa f dir).ino),aI ((Qaa f dir).kind),aI ((Qaa f dir).links),aS ((Qaa f dir).text),.sl 2 false ((entL ((Qaa f dir).l) s ino).map entA)]]) (Qe5 f (Qbk (Qaa f dir) (entL (Qaa f dir).l s ino)) (Qb0 okf hp dir) (by omega) hr) sr2<|
 .u 1 [b2]<|
 .fi R [b2])
theorem Qls (f:Fsy) (d:Int) (s:Txt) (i:Int):(enterF f d s i).l.length≤f.l.length+1:=Qmf _ _
theorem Qhv {f:Fsy} (h:Qam f) (d:Int) (s:Txt) (i:Int):Qbq (enterF f d s i).l:=Qhm (Qad h)
noncomputable def addF (f:Fsy) (d:Int) (s:Txt) (n:Nod):Fsy:=putF (enterF f d s n.ino) (Qbk n [])
theorem Zfb (f:Fsy) (dir:Int) (s:Txt) (n:Nod) (b:Nat) (okf:OkF f) (hp:Qam f) (hs:s.length≤1000000) (hn:I64 n.ino∧n.ino<9223372036854775807):Qq4 prog 217 [.ptr 7 b 0,.dptr (fsyA f),.dptr [aI dir],.dptr [aS s]] (.box b 84 (nodA n)) (.agg (fsyA (addF f dir s n))):=by
 have hl:=hp.1;have hr:=Qad hp;exact Qjg (q:=7) func217 (let R:AV:=.agg (fsyA (addF f dir s n));
 .new fun b1=>.run 2 [b=b] rt1<|
 .ord [0,1,2,3,4,6,5,7,8]<|.run 6 [b=b,b=b] rt2<|
 .call (Qf8 f dir s n.ino okf hp (by omega) hn.1)<|
 .cs (args0:=[.agg [.sl 5 false ((enterF f dir s n.ino).l.map nodA),aI ((enterF f dir s n.ino).next)],.agg [aI n.ino,aI n.kind,aI n.links,aS n.text,aN]]) (Qe5 (enterF f dir s n.ino) (Qbk n []) hn (by have:=Qls f dir s n.ino;omega) (Qhv hp dir s n.ino)) ⟨sR,Sub.aggs ⟨sR,sR,sR,sR,Sub.nil _ _,trivial⟩,trivial⟩<|
 .u 1 [b1]<|
 .fi R [b1])
theorem Qe2 (e:Int) (f:Fsy) (dir:Int) (s:Txt) (n:Nod) (b:Nat) (okf:OkF f) (hp:Qam f) (hs:s.length≤1000000) (hn:I64 n.ino∧n.ino<9223372036854775807):Qq4 prog 184 [.agg (fsyA f),aI e,.clo 217 [.ptr 7 b 0,.dptr (fsyA f),.dptr [aI dir],.dptr [aS s]]] (.box b 84 (nodA n)) (.tup [.agg (fsyA (if e=0 then addF f dir s n else f)),aI e]):=by
 exact Qjg (q:=7) func184 (
 .new fun b1=>.new fun b2=>.r 1<|.r 2<|.bn 9 e 0 (fun p1=>.u 4 [b1,b2]<|
 .f (.tup [.agg (fsyA (if e=0 then addF f dir s n else f)),aI e]) [b2] (.tup [.agg (fsyA f),aI e]) (by
  rw [if_neg (show ¬ e=0 from by omega)];exact sR))
 <| fun p1=>.lent 1<|.r 1<|.lop (lcR prog 7) ((217,[.ptr 7 b 0,.dptr (fsyA f),.dptr [aI dir],.dptr [aS s]],some 13),.box b 84 (nodA n)) (fun (_:Unit) σ=>(σ.put (some 13) (.agg [.sl 5 false ((addF f dir s n).l.map nodA),aI ((addF f dir s n).next)])).setB 7 gone) (Qci (args':=[.ptr 7 b 0,.dptr (fsyA f),.dptr [aI dir],.dptr [aS s]]) sr4 (Zfb f dir s n b okf hp hs hn)) fun _=>
 .u 2 [b2]<|
 .f (.tup [.agg (fsyA (if e=0 then addF f dir s n else f)),aI e]) [b2] (.tup [.agg [.sl 5 false ((addF f dir s n).l.map nodA),aI ((addF f dir s n).next)],aI 0]) (by
  rw [if_pos (show e=0 from by omega),show e=0 from by omega];exact sR))
end Go.Proofs.YtahlldgocpabjaaGreat
