import Derived.Test.YtahlldgocpabjaaGreatMrgN
import Derived.Test.YtahlldgocpabjaaGreatMrgL
import Derived.Test.YtahlldgocpabjaaGreatMrgM
set_option maxRecDepth 100000
set_option maxHeartbeats 8000000
set_option linter.unusedVariables false
set_option linter.unusedSimpArgs false
namespace Go.Proofs.YtahlldgocpabjaaGreat
open Go Go.RowKit Copyhold
def Qaq (l:List Int):Int:=(l.find? fun z=>z != 0).getD 0
def Qab (b:Bool) (e:Int):Int:=if b then e else 0
theorem Ze1 {l:List Int} (h:AllQ (fun _ z=>(z != 0)=false) l):Qaq l=0:=by
 unfold Qaq
 rw [List.find?_eq_none.2 fun x hx=>by obtain ⟨j,hj⟩:=List.getElem?_of_mem hx;rw [h j x hj];simp]
 rfl
theorem Qu6:∀ {l:List Int} {k:Nat} {x:Int},Qa1 (fun _ z=>(z != 0)=false) l k→l[k]?=some x→(x != 0)=true→Qaq l=x
 | y :: r,0,x,_,hx,hp=>by simp at hx;subst hx;simp [Qaq,hp]
 | y :: r,k+1,x,h,hx,hp=>by
  have h1:=h 0 y (by omega) rfl
  have h2:=Qu6 (l:=r) (k:=k) (fun j e hj he=>h (j+1) e (by omega) (by simpa using he)) (by simpa using hx) hp
  unfold Qaq at h2 ⊢
  rw [List.find?_cons,h1]
  exact h2
theorem Ql6 {t:Bool} (a b c:Int):Sub (.sl 1 t [[aI a],[aI b],[aI c]]) (.sl 1 false ([a,b,c].map intA)):=Sub.loose _ _ _
theorem Qnu {t:Bool} (a b:Int):Sub (.sl 1 t [[aI a],[aI b]]) (.sl 1 false ([a,b].map intA)):=Sub.loose _ _ _
theorem Qq6 {a b:Int}:Qaq [a,b]=if a=0 then b else a:=by
 unfold Qaq
 by_cases h:a=0
 ·by_cases h2:b=0
  ·simp [h,h2]
  ·simp [h,h2]
 ·simp [h]
theorem Qhj {a b c:Int}:Qaq [a,b,c]=if a=0 then (if b=0 then c else b) else a:=by
 unfold Qaq
 by_cases h:a=0
 ·by_cases h2:b=0
  ·by_cases h3:c=0
   ·simp [h,h2,h3]
   ·simp [h,h2,h3]
  ·simp [h,h2]
 ·simp [h]
def dirE (f:Fsy) (i:Int):Int:=if Qar f i=true then (if (Qaa f i).kind=2 then 0 else 8) else 6
def dirN (f:Fsy) (i:Int):Nod:=if dirE f i=0 then Qaa f i else nod0
theorem Zg3 {f:Fsy} {i:Int} (h:Qar f i=false):dirE f i=6∧dirN f i=nod0:=by
 have e:dirE f i=6:=by unfold dirE;rw [h];rfl
 exact ⟨e,by unfold dirN;rw [e];rfl⟩
theorem Zg2 {f:Fsy} {i:Int} (h:Qar f i=true) (h2:¬ (Qaa f i).kind=2):dirE f i=8∧dirN f i=nod0:=by
 have e:dirE f i=8:=by unfold dirE;rw [if_pos h,if_neg h2]
 exact ⟨e,by unfold dirN;rw [e];rfl⟩
theorem Qvd {f:Fsy} {i:Int} (h:Qar f i=true) (h2:(Qaa f i).kind=2):dirE f i=0∧dirN f i=Qaa f i:=by
 have e:dirE f i=0:=by unfold dirE;rw [if_pos h,if_pos h2]
 exact ⟨e,by unfold dirN;rw [e];rfl⟩
theorem Qey {f:Fsy} {i:Int} (h:Qar f i=true):Qaa f i∈f.l:=by
 unfold Qar at h
 unfold Qaa
 cases hf:f.l.find? (isNo i) with
 | none=>rw [List.find?_eq_none] at hf;obtain ⟨x,hx,hi⟩:=List.any_eq_true.1 h;exact absurd hi (hf x hx)
 | some n=>exact List.mem_of_find?_eq_some hf
theorem Qui {n:Nod} (h:nodP n):Name.Srt (lI n.l)∧n.l.length≤256:=by
 rcases h.2.2.2 with ⟨_,_,h⟩ | ⟨_,_,h⟩
 ·exact ⟨Qcs h,h.1⟩
 ·rw [h];exact ⟨List.Pairwise.nil,by decide⟩
theorem Qc2 {f:Fsy} (h:Qal f) (i:Int):Name.Srt (lI (dirN f i).l)∧(dirN f i).l.length≤256:=by
 unfold dirN
 split
 ·rename_i e
  by_cases hb:Qar f i=true
  ·exact Qui ((Qbj.1 h).2.2.1 _ (Qey hb)).1
  ·unfold dirE at e
   rw [if_neg hb] at e
   cases e
 ·exact ⟨List.Pairwise.nil,by decide⟩
theorem Zbg {f:Fsy} (h:Qal f):Qar f 0=false:=by
 unfold Qar
 rw [List.any_eq_false]
 intro n hn
 have:=((Qbj.1 h).2.2.1 n hn).1.1
 have hne:¬ n.ino=0:=by omega
 simp [isNo,hne]
def Qe4 (f:Fsy) (i:Int) (s:Txt):Int:=getI (dirN f i).l s
noncomputable def Qaz (f:Fsy) (i:Int) (s:Txt):Int:=Qaq [dirE f i,Qah s,Qab (!(Qar f (Qe4 f i s))) 6]
noncomputable def lookN (f:Fsy) (i:Int) (s:Txt):Nod:=if Qaz f i s=0 then Qaa f (Qe4 f i s) else nod0
theorem Qji {f:Fsy} {i:Int} {s:Txt} (h:¬ Qaz f i s=0):lookN f i s=nod0:=if_neg h
theorem Qov {f:Fsy} {i:Int} {s:Txt} (h:Qaz f i s=0):lookN f i s=Qaa f (Qe4 f i s):=if_pos h
theorem Qdj {n:Nod} (h:n=nod0):Sub (.agg [aI 0,aI 0,aI 0,aS [],aN]) (.agg (nodA n)):=by
 subst h
 exact Sub.aggs ⟨sR,sR,sR,sR,Sub.nil _ _,trivial⟩
theorem Qci (l:List Int) (hl:l.length≤100000):Qaj Tryz.prog 181 [.sl 1 false (l.map intA)] (aI (Qaq l)):=by
 exact Qac (F:=Tryz.f181) 400 (
 .r 1<|.r 2<|.val 6 (show (aI ((l.map intA).length:Int):AV)=aI (l.length:Int) from by rw [List.length_map])<|.r 1<|let L1:Lp (Nat):=⟨fun a1=>⟨[(5,.sl 1 false (l.map intA)),(6,aI (l.length:Int)),(7,aI (a1:Int))],[]⟩,fun a1=>l.length-a1,fun a1=>Qa1 (fun _ z=>(z != 0)=false) l a1⟩
 .loop L1 0 (show Qa1 (fun _ z=>(z != 0)=false) l 0 from Qa1.zero _ _) ⟨[(5,.sl 1 false (l.map intA)),(6,aI (l.length:Int)),(7,aI 0)],[]⟩ ⟨sR,sR,Sub.of_eq (congrArg aI (by first | omega | rfl)),trivial⟩ trivial fun a1 ha1=>
 (fun (k:Nat) (hH1:Qa1 (fun _ z=>(z != 0)=false) l k)=>.r 1<|.br 8 (decide ((k:Int)<(l.length:Int))) (fun q1=>have p1:=decT q1;.idxM l intA k (m:=(k:Int)) rfl (by omega) fun x1 hx1=>
 .r 2<|.r 2<|.br 12 (x1 != 0) (fun q2=>have p2:=bneT q2;.r 2<|.fin (x:=aI x1) (r:=aI (Qaq l)) [] trivial (by exact Sub.of_eq (congrArg aI (Qu6 hH1 hx1 (by assumption)).symm)))
 <| fun q2=>have p2:=bneF q2;.run 2 [rng .i64 ((k:Int)+1)] ⟨Qas (by omega) (by omega),trivial⟩<|
 .back L1 k (k+1) (show Qa1 (fun _ z=>(z != 0)=false) l (k+1) from (hH1.step hx1 (by assumption))) (show l.length-(k+1)<l.length-k from (by omega)) ⟨[(5,.sl 1 false (l.map intA)),(6,aI (l.length:Int)),(7,aI ((k:Int)+1))],[]⟩ ⟨sR,sR,Sub.of_eq (congrArg aI (by first | omega | rfl)),trivial⟩ trivial)
 <| fun q1=>have p1:=decF q1;.r 1<|.fin (x:=aI 0) (r:=aI (Qaq l)) [] trivial (by exact Sub.of_eq (congrArg aI (Ze1 (hH1.full (by omega))).symm))) a1 ha1) Tryz.func181 rfl (by kernel_rfl) (by kernel_rfl)
theorem Qbm (b:Bool) (e:Int):Qaj Tryz.prog 182 [aB b,aI e] (aI (Qab b e)):=by
 exact Qac (F:=Tryz.f182) 400 (
 .r 1<|.r 1<|.br 5 (b) (fun q1=>have p1:=booT q1;.r 2<|.fin (x:=aI e) (r:=aI (Qab b e)) [] trivial (by exact Sub.of_eq (congrArg aI (by unfold Qab;simp [*]))))
 <| fun q1=>have p1:=booF q1;.r 1<|.fin (x:=aI 0) (r:=aI (Qab b e)) [] trivial (by exact Sub.of_eq (congrArg aI (by unfold Qab;simp [*])))) Tryz.func182 rfl (by kernel_rfl) (by kernel_rfl)
theorem Qhb (f:Fsy) (i:Int) (hp:Qal f):Qaj Tryz.prog 95 [.agg (fsyA f),aI i] (.tup [.agg (nodA (dirN f i)),aI (dirE f i)]):=by
 have hl:=hp.1
 have hr:=Qad hp
 exact Qac (F:=Tryz.f95) 400 (
 .new fun b1=>.new fun b2=>.r 1<|.run 2 [b1=b1] rt1<|
 .call (Qce f i (by omega) hr)<|
 .r 3<|.new fun b3=>.run 2 [b3=b3] rt1<|
 .r 2<|.br 15 (!(Qar f i)) (fun q1=>have q1:=notT q1;have p1:=booF q1;.run 3 [b2=b2] rt1<|
 .fin (x:=.tup [.agg [aI 0,aI 0,aI 0,aS ([]),aN],aI 6]) (r:=.tup [.agg (nodA (dirN f i)),aI (dirE f i)]) [b2=b2] rt1 (by
  obtain ⟨e1,e2⟩:=Zg3 q1
  exact Sub.tups ⟨Qdj e2,Sub.of_eq (congrArg aI e1.symm),trivial⟩))
 <| fun q1=>have q1:=notF q1;have p1:=booT q1;.run 3 [b3=b3] rt1<|
 .br 19 (((Qaa f i).kind) != 2) (fun q2=>have p2:=bneT q2;.run 3 [b2=b2] rt1<|
 .fin (x:=.tup [.agg [aI 0,aI 0,aI 0,aS ([]),aN],aI 8]) (r:=.tup [.agg (nodA (dirN f i)),aI (dirE f i)]) [b2=b2] rt1 (by
  obtain ⟨e1,e2⟩:=Zg2 q1 (by assumption)
  exact Sub.tups ⟨Qdj e2,Sub.of_eq (congrArg aI e1.symm),trivial⟩))
 <| fun q2=>have p2:=bneF q2;.run 3 [b3=b3,b2=b2] rt2<|
 .fin (x:=.tup [.agg [aI ((Qaa f i).ino),aI ((Qaa f i).kind),aI ((Qaa f i).links),aS ((Qaa f i).text),.sl 2 false ((Qaa f i).l.map entA)],aI 0]) (r:=.tup [.agg (nodA (dirN f i)),aI (dirE f i)]) [b2=b2] rt1 (by
  obtain ⟨e1,e2⟩:=Qvd q1 (by assumption)
  rw [e1,e2]
  exact sR)) Tryz.func95 rfl (by kernel_rfl) (by kernel_rfl)
theorem Qgg (f:Fsy) (i:Int) (hp:Qal f):Qaj Tryz.prog 75 [.agg (fsyA f),aI i] (.tup [.agg (nodA (dirN f i)),aI (dirE f i)]):=by
 have hl:=hp.1
 have hr:=Qad hp
 exact Qac (F:=Tryz.f75) 400 (
 .new fun b1=>.new fun b2=>.r 1<|.run 2 [b1=b1] rt1<|
 .call (Qbd f i (by omega))<|
 .r 3<|.new fun b3=>.run 2 [b3=b3] rt1<|
 .r 2<|.br 15 (!(Qar f i)) (fun q1=>have q1:=notT q1;have p1:=booF q1;.run 3 [b2=b2] rt1<|
 .fin (x:=.tup [.agg [aI 0,aI 0,aI 0,aS ([]),aN],aI 6]) (r:=.tup [.agg (nodA (dirN f i)),aI (dirE f i)]) [b2=b2] rt1 (by
  obtain ⟨e1,e2⟩:=Zg3 q1
  exact Sub.tups ⟨Qdj e2,Sub.of_eq (congrArg aI e1.symm),trivial⟩))
 <| fun q1=>have q1:=notF q1;have p1:=booT q1;.run 3 [b3=b3] rt1<|
 .br 19 (((Qaa f i).kind) != 2) (fun q2=>have p2:=bneT q2;.run 3 [b2=b2] rt1<|
 .fin (x:=.tup [.agg [aI 0,aI 0,aI 0,aS ([]),aN],aI 8]) (r:=.tup [.agg (nodA (dirN f i)),aI (dirE f i)]) [b2=b2] rt1 (by
  obtain ⟨e1,e2⟩:=Zg2 q1 (by assumption)
  exact Sub.tups ⟨Qdj e2,Sub.of_eq (congrArg aI e1.symm),trivial⟩))
 <| fun q2=>have p2:=bneF q2;.run 3 [b3=b3,b2=b2] rt2<|
 .fin (x:=.tup [.agg [aI ((Qaa f i).ino),aI ((Qaa f i).kind),aI ((Qaa f i).links),aS ((Qaa f i).text),.sl 2 false ((Qaa f i).l.map entA)],aI 0]) (r:=.tup [.agg (nodA (dirN f i)),aI (dirE f i)]) [b2=b2] rt1 (by
  obtain ⟨e1,e2⟩:=Qvd q1 (by assumption)
  rw [e1,e2]
  exact sR)) Tryz.func75 rfl (by kernel_rfl) (by kernel_rfl)
theorem Qim (f:Fsy) (i:Int) (s:Txt) (hp:Qal f) (hs:s.length≤1000000):Qaj Tryz.prog 173 [.agg (fsyA f),aI i,aS s] (.tup [.agg (nodA (lookN f i s)),aI (Qaz f i s)]):=by
 have hl:=hp.1
 have hr:=Qad hp
 exact Qac (F:=Tryz.f173) 400 (
 .new fun b1=>.new fun b2=>.r 1<|.run 2 [b1=b1] rt1<|
 .call (Qhb f i hp)<|
 .r 3<|.new fun b3=>.run 2 [b3=b3] rt1<|
 .run 3 [b3=b3] rt1<|
 .call (Qfk ((dirN f i).l) s (by have:=(Qc2 hp i).2;omega) (Qc2 hp i).1)<|
 .r 5<|.run 2 [b1=b1] rt1<|
 .call (Qce f (getI ((dirN f i).l) s) (by omega) hr)<|
 .r 3<|.new fun b4=>.run 2 [b4=b4] rt1<|
 .r 2<|.call (Qei s (by omega))<|
 .r 2<|.call (Qbm (!(Qar f (getI ((dirN f i).l) s))) 6)<|
 .r 1<|.callS (args0:=[.sl 1 true ([[aI (dirE f i)],[aI (Qah s)],[aI (Qab (!(Qar f (getI ((dirN f i).l) s))) 6)]])]) (args:=[.sl 1 false ([(dirE f i),(Qah s),(Qab (!(Qar f (getI ((dirN f i).l) s))) 6)].map intA)]) ⟨Ql6 (dirE f i) (Qah s) (Qab (!(Qar f (getI ((dirN f i).l) s))) 6),trivial⟩ (Qci [(dirE f i),(Qah s),(Qab (!(Qar f (getI ((dirN f i).l) s))) 6)] (by simp))<|
 .r 1<|.r 2<|.br 42 ((Qaq [(dirE f i),(Qah s),(Qab (!(Qar f (getI ((dirN f i).l) s))) 6)]) != 0) (fun q1=>have p1:=bneT q1;.run 4 [b2=b2] rt1<|
 .fin (x:=.tup [.agg [aI 0,aI 0,aI 0,aS ([]),aN],aI (Qaq [(dirE f i),(Qah s),(Qab (!(Qar f (getI ((dirN f i).l) s))) 6)])]) (r:=.tup [.agg (nodA (lookN f i s)),aI (Qaz f i s)]) [b2=b2] rt1 (by
  have e:¬ Qaz f i s=0:=by assumption
  exact Sub.tups ⟨Qdj (Qji e),sR,trivial⟩))
 <| fun q1=>have p1:=bneF q1;.run 3 [b4=b4,b2=b2] rt2<|
 .fin (x:=.tup [.agg [aI ((Qaa f (getI ((dirN f i).l) s)).ino),aI ((Qaa f (getI ((dirN f i).l) s)).kind),aI ((Qaa f (getI ((dirN f i).l) s)).links),aS ((Qaa f (getI ((dirN f i).l) s)).text),.sl 2 false ((Qaa f (getI ((dirN f i).l) s)).l.map entA)],aI 0]) (r:=.tup [.agg (nodA (lookN f i s)),aI (Qaz f i s)]) [b2=b2] rt1 (by
  have e:Qaz f i s=0:=by assumption
  rw [Qov e,e]
  exact sR)) Tryz.func173 rfl (by kernel_rfl) (by kernel_rfl)
theorem Qdq (f:Fsy) (i:Int) (s:Txt) (hp:Qal f) (hs:s.length≤1000000):Qaj Tryz.prog 66 [.agg (fsyA f),aI i,aS s] (.tup [.agg (nodA (lookN f i s)),aI (Qaz f i s)]):=by
 have hl:=hp.1
 have hr:=Qad hp
 exact Qac (F:=Tryz.f66) 400 (
 .new fun b1=>.new fun b2=>.r 1<|.run 2 [b1=b1] rt1<|
 .call (Qgg f i hp)<|
 .r 3<|.new fun b3=>.run 2 [b3=b3] rt1<|
 .r 2<|.br 22 ((dirE f i) != 0) (fun q1=>have p1:=bneT q1;.run 4 [b2=b2] rt1<|
 .fin (x:=.tup [.agg [aI 0,aI 0,aI 0,aS ([]),aN],aI (dirE f i)]) (r:=.tup [.agg (nodA (lookN f i s)),aI (Qaz f i s)]) [b2=b2] rt1 (by
  have e0:Qaz f i s=dirE f i:=by
   unfold Qaz
   rw [Qhj]
   simp_all [Qab,Qe4]
  exact Sub.tups ⟨Qdj (Qji (by omega)),Sub.of_eq (congrArg aI e0.symm),trivial⟩))
 <| fun q1=>have p1:=bneF q1;.r 1<|.call (Qdr s (by omega))<|
 .r 1<|.r 2<|.br 28 ((Qah s) != 0) (fun q2=>have p2:=bneT q2;.run 4 [b2=b2] rt1<|
 .fin (x:=.tup [.agg [aI 0,aI 0,aI 0,aS ([]),aN],aI (Qah s)]) (r:=.tup [.agg (nodA (lookN f i s)),aI (Qaz f i s)]) [b2=b2] rt1 (by
  have e0:Qaz f i s=Qah s:=by
   unfold Qaz
   rw [Qhj]
   simp_all [Qab,Qe4]
  exact Sub.tups ⟨Qdj (Qji (by omega)),Sub.of_eq (congrArg aI e0.symm),trivial⟩))
 <| fun q2=>have p2:=bneF q2;.run 3 [b3=b3] rt1<|
 .call (Qem ((dirN f i).l) s (by have:=(Qc2 hp i).2;omega))<|
 .r 5<|.r 2<|.br 39 (!(isB ((dirN f i).l) s)) (fun q3=>have q3:=notT q3;have p3:=booF q3;.run 3 [b2=b2] rt1<|
 .fin (x:=.tup [.agg [aI 0,aI 0,aI 0,aS ([]),aN],aI 6]) (r:=.tup [.agg (nodA (lookN f i s)),aI (Qaz f i s)]) [b2=b2] rt1 (by
  have e0:Qaz f i s=6:=by
   have hz:Qe4 f i s=0:=Qo5 (by assumption)
   have hz2:=Zbg hp
   unfold Qaz
   rw [Qhj]
   simp_all [Qab,Qe4]
  exact Sub.tups ⟨Qdj (Qji (by omega)),Sub.of_eq (congrArg aI e0.symm),trivial⟩))
 <| fun q3=>have q3:=notF q3;have p3:=booT q3;.run 2 [b1=b1] rt1<|
 .call (Qbd f (getI ((dirN f i).l) s) (by omega))<|
 .r 3<|.new fun b4=>.run 2 [b4=b4] rt1<|
 .r 2<|.br 48 (!(Qar f (getI ((dirN f i).l) s))) (fun q4=>have q4:=notT q4;have p4:=booF q4;.run 3 [b2=b2] rt1<|
 .fin (x:=.tup [.agg [aI 0,aI 0,aI 0,aS ([]),aN],aI 6]) (r:=.tup [.agg (nodA (lookN f i s)),aI (Qaz f i s)]) [b2=b2] rt1 (by
  have e0:Qaz f i s=6:=by
   unfold Qaz
   rw [Qhj]
   simp_all [Qab,Qe4]
  exact Sub.tups ⟨Qdj (Qji (by omega)),Sub.of_eq (congrArg aI e0.symm),trivial⟩))
 <| fun q4=>have q4:=notF q4;have p4:=booT q4;.run 3 [b4=b4,b2=b2] rt2<|
 .fin (x:=.tup [.agg [aI ((Qaa f (getI ((dirN f i).l) s)).ino),aI ((Qaa f (getI ((dirN f i).l) s)).kind),aI ((Qaa f (getI ((dirN f i).l) s)).links),aS ((Qaa f (getI ((dirN f i).l) s)).text),.sl 2 false ((Qaa f (getI ((dirN f i).l) s)).l.map entA)],aI 0]) (r:=.tup [.agg (nodA (lookN f i s)),aI (Qaz f i s)]) [b2=b2] rt1 (by
  have e0:Qaz f i s=0:=by
   unfold Qaz
   rw [Qhj]
   simp_all [Qab,Qe4]
  rw [Qov e0,e0]
  exact sR)) Tryz.func66 rfl (by kernel_rfl) (by kernel_rfl)
end Go.Proofs.YtahlldgocpabjaaGreat

namespace Go.Proofs.YtahlldgocpabjaaGreat
open Go Go.RowKit Copyhold
open Copyhold.Name in
theorem Qlk (l:List Ent) (s:Txt) (hl:l.length≤1000000) (hr:Srt (lI l)):Qaj Tryz.prog 156 [.sl 2 false (l.map entA),aS s] (.tup [aI (pos (lI l) s:Int),aB (isB l s)]):=Qca (Qfq _ _) fun D w vs h=>by
 obtain ⟨u,v,rfl,hu,hv⟩:=Qcx.two h
 cases hv
 obtain ⟨A,c,rfl,he⟩:=Qg8 hu
 exact (Qnn (lI l) s A c w he (by simp [lI];omega) hr)
def posI (l:List Ent) (s:Txt):Nat:=Name.pos (lI l) s
theorem Qbk (l:List Ent) (s:Txt):posI l s≤l.length:=by
 have:=Name.pos_le (lI l) s
 have h:(lI l).length=l.length:=by simp [lI]
 unfold posI;omega
noncomputable def entE (l:List Ent) (s:Txt) (n:Int):Int:=if (Qah s != 0)=true then 10 else if n<1 then 1 else if isB l s=true then 7 else if (l.length:Int)≥256 then 12 else 0
noncomputable def entL (l:List Ent) (s:Txt) (n:Int):List Ent:=if entE l s n=0 then l.take (posI l s)++⟨s,n⟩ :: l.drop (posI l s) else l
theorem Qw7 (l:List Ent) (s:Txt) (n:Int) (hl:l.length≤256) (hr:Name.Srt (lI l)) (hs:s.length≤1000000) (hn:I64 n):Qaj Tryz.prog 221 [.sl 2 false (l.map entA),aS s,aI n] (.tup [.sl 2 false ((entL l s n).map entA),aI (entE l s n)]):=by
 have hn1:=hn.1
 exact Qac (F:=Tryz.f221) 400 (
 .r 2<|.r 2<|.call (Qlk l s (by omega) hr)<|
 .r 5<|.r 1<|.r 1<|.call (Qei s (by omega))<|
 .r 2<|.br 18 ((Qah s) != 0) (fun q1=>have p1:=bneT q1;.r 1<|.r 2<|.is 32 (show (10 != 0)=true from rfl)<|.r 4<|.fin (x:=.tup [.sl 2 false (l.map entA),aI 10]) (r:=.tup [.sl 2 false ((entL l s n).map entA),aI (entE l s n)]) [] trivial (by
  have e:entE l s n=10:=by
   unfold entE
   rw [if_pos q1]
  have e2:entL l s n=l:=if_neg (by omega)
  rw [e,e2]
  exact Sub.tups ⟨by first | exact sR | exact Sub.loose _ _ _,sR,trivial⟩))
 <| fun q1=>have p1:=bneF q1;.r 3<|.br 22 (decide (n<1)) (fun q2=>have p2:=decT q2;.r 1<|.r 2<|.is 32 (show (1 != 0)=true from rfl)<|.r 4<|.fin (x:=.tup [.sl 2 false (l.map entA),aI 1]) (r:=.tup [.sl 2 false ((entL l s n).map entA),aI (entE l s n)]) [] trivial (by
  have e:entE l s n=1:=by
   unfold entE
   rw [if_neg (by rw [q1];decide)]
   rw [if_pos (by omega)]
  have e2:entL l s n=l:=if_neg (by omega)
  rw [e,e2]
  exact Sub.tups ⟨by first | exact sR | exact Sub.loose _ _ _,sR,trivial⟩))
 <| fun q2=>have p2:=decF q2;.r 2<|.br 25 (isB l s) (fun q3=>have p3:=booT q3;.r 1<|.r 2<|.is 32 (show (7 != 0)=true from rfl)<|.r 4<|.fin (x:=.tup [.sl 2 false (l.map entA),aI 7]) (r:=.tup [.sl 2 false ((entL l s n).map entA),aI (entE l s n)]) [] trivial (by
  have e:entE l s n=7:=by
   unfold entE
   rw [if_neg (by rw [q1];decide)]
   rw [if_neg (by omega)]
   rw [if_pos q3]
  have e2:entL l s n=l:=if_neg (by omega)
  rw [e,e2]
  exact Sub.tups ⟨by first | exact sR | exact Sub.loose _ _ _,sR,trivial⟩))
 <| fun q3=>have p3:=booF q3;.r 2<|.val 29 (show (aI ((l.map entA).length:Int):AV)=aI (l.length:Int) from by rw [List.length_map])<|.r 2<|.br 27 (decide ((l.length:Int)≥256)) (fun q4=>have p4:=decT q4;.r 1<|.r 2<|.is 32 (show (12 != 0)=true from rfl)<|.r 4<|.fin (x:=.tup [.sl 2 false (l.map entA),aI 12]) (r:=.tup [.sl 2 false ((entL l s n).map entA),aI (entE l s n)]) [] trivial (by
  have e:entE l s n=12:=by
   unfold entE
   rw [if_neg (by rw [q1];decide)]
   rw [if_neg (by omega)]
   rw [if_neg (by rw [q3];decide)]
   rw [if_pos (by omega)]
  have e2:entL l s n=l:=if_neg (by omega)
  rw [e,e2]
  exact Sub.tups ⟨by first | exact sR | exact Sub.loose _ _ _,sR,trivial⟩))
 <| fun q4=>have p4:=decF q4;.r 2<|.is 32 (show (0 != 0)=false from rfl)<|.r 2<|.val 36 (show (aI ((l.map entA).length:Int):AV)=aI (l.length:Int) from by rw [List.length_map])<|.run 1 [rng .i64 ((l.length:Int)+1)] ⟨Qas (by omega) (by omega),trivial⟩<|
 .mk0 24 (l.length+1) (show (l.length:Int)+1=((l.length+1:Nat):Int) from by omega) (by have hq:=Qbk l s;simp<;>omega) (by have hq:=Qbk l s;simp<;>omega) fun V1=>
 .r 1<|.r 3<|.slc 2 false (l.map entA) none (some (posI l s:Int)) none 0 (posI l s) false (.inl ⟨rfl,rfl⟩) (.inr rfl) (.inl ⟨rfl,fun h=>by cases h⟩) (by have hq:=Qbk l s;first | omega | (rw [List.length_map];omega) | (simp<;>omega)) (by have hq:=Qbk l s;first | omega | (rw [List.length_map];omega) | (simp<;>omega))<|
 .app 24 V1 ([]:List (List AV)) (((l.map entA).take (posI l s)).drop 0) (by have hq:=Qbk l s;simp<;>omega) (by have hq:=Qbk l s;simp<;>omega) fun V2=>
 .r 1<|.r 5<|.app 24 V2 (([]:List (List AV))++(((l.map entA).take (posI l s)).drop 0)) ([[aS s,aI n]]) (by have hq:=Qbk l s;simp<;>omega) (by have hq:=Qbk l s;simp<;>omega) fun V3=>
 .r 1<|.r 3<|.slc 2 false (l.map entA) (some (posI l s:Int)) none none (posI l s) ((l.map entA).length) false (.inr rfl) (.inl ⟨rfl,rfl⟩) (.inl ⟨rfl,fun h=>by cases h⟩) (by have hq:=Qbk l s;first | omega | (rw [List.length_map];omega) | (simp<;>omega)) (by have hq:=Qbk l s;first | omega | (rw [List.length_map];omega) | (simp<;>omega))<|
 .app 24 V3 ((([]:List (List AV))++(((l.map entA).take (posI l s)).drop 0))++([[aS s,aI n]])) (((l.map entA).take ((l.map entA).length)).drop (posI l s)) (by have hq:=Qbk l s;simp<;>omega) (by have hq:=Qbk l s;simp<;>omega) fun V4=>
 .r 2<|.frz 38 [6,7] [] [V4=V4,((([]:List (List AV))++(((l.map entA).take (posI l s)).drop 0))++([[aS s,aI n]])).length+(((l.map entA).take ((l.map entA).length)).drop (posI l s)).length=(((([]:List (List AV))++(((l.map entA).take (posI l s)).drop 0))++([[aS s,aI n]]))++(((l.map entA).take ((l.map entA).length)).drop (posI l s))).length] ⟨rfl,(by first | rfl | (simp;done) | (simp;omega)),trivial⟩<|
 .fin (x:=.tup [.sl 2 false (((([]:List (List AV))++(((l.map entA).take (posI l s)).drop 0))++([[aS s,aI n]]))++(((l.map entA).take ((l.map entA).length)).drop (posI l s))),aI 0]) (r:=.tup [.sl 2 false ((entL l s n).map entA),aI (entE l s n)]) [] trivial (by
  have e:entE l s n=0:=by
   unfold entE
   rw [if_neg (by rw [q1];decide)]
   rw [if_neg (by omega)]
   rw [if_neg (by rw [q3];decide)]
   rw [if_neg (by omega)]
  have e2:entL l s n=l.take (posI l s)++⟨s,n⟩ :: l.drop (posI l s):=if_pos e
  rw [e,e2]
  exact Sub.tups ⟨Sub.of_eq (congrArg (AV.sl 2 false) (by simp [entA,List.map_take,List.map_drop,Qay])),sR,trivial⟩)) Tryz.func221 rfl (by kernel_rfl) (by kernel_rfl)
end Go.Proofs.YtahlldgocpabjaaGreat

namespace Go.Proofs.YtahlldgocpabjaaGreat
open Go Go.RowKit Copyhold
def Qa0 (n:Nod) (l:List Ent):Nod:=⟨n.ino,n.kind,n.links,n.text,l⟩
noncomputable def enterF (f:Fsy) (d:Int) (s:Txt) (i:Int):Fsy:=putF f (Qa0 (Qaa f d) (entL (Qaa f d).l s i))
theorem Qb4 {f:Fsy} (okf:OkF f) (hp:Qal f) (i:Int):I64 (Qaa f i).ino∧(Qaa f i).ino<9223372036854775807:=by
 refine ⟨(Qf0 okf i).1,?_⟩
 by_cases h:Qar f i=true
 ·have:=((Qbj.1 hp).2.2.1 _ (Qey h)).2
  have:=okf.1.2
  omega
 ·have h':Qar f i=false:=by simpa using h
  unfold Qaa Qar at *
  rw [List.find?_eq_none.2 fun x hx=>by simpa using List.any_eq_false.1 h' x hx]
  decide
theorem Qex {f:Fsy} (h:Qal f) (i:Int):Name.Srt (lI (Qaa f i).l)∧(Qaa f i).l.length≤256:=by
 by_cases hb:Qar f i=true
 ·exact Qui ((Qbj.1 h).2.2.1 _ (Qey hb)).1
 ·have h':Qar f i=false:=by simpa using hb
  unfold Qaa Qar at *
  rw [List.find?_eq_none.2 fun x hx=>by simpa using List.any_eq_false.1 h' x hx]
  exact ⟨List.Pairwise.nil,by decide⟩
theorem Qf2 (f:Fsy) (dir:Int) (s:Txt) (ino:Int) (okf:OkF f) (hp:Qal f) (hs:s.length≤1000000) (hi:I64 ino):Qaj Tryz.prog 186 [.agg (fsyA f),aI dir,aS s,aI ino] (.agg (fsyA (enterF f dir s ino))):=by
 have hl:=hp.1
 have hr:=Qad hp
 exact Qac (F:=Tryz.f186) 400 (
 .new fun b1=>.new fun b2=>.run 2 [b1=b1] rt1<|
 .call (Qce f dir (by omega) hr)<|
 .r 3<|.new fun b3=>.run 2 [b3=b3] rt1<|
 .run 4 [b3=b3] rt1<|
 .call (Qw7 ((Qaa f dir).l) s ino (Qex hp dir).2 (Qex hp dir).1 (by omega) hi)<|
 .run 5 [b3=b3] rt1<|
 .run 2 [b1=b1,b3=b3] rt2<|
 .callS (args0:=[.agg (fsyA f),.agg [aI ((Qaa f dir).ino),aI ((Qaa f dir).kind),aI ((Qaa f dir).links),aS ((Qaa f dir).text),.sl 2 false ((entL ((Qaa f dir).l) s ino).map entA)]]) (args:=[.agg (fsyA f),.agg [aI ((Qa0 (Qaa f dir) (entL (Qaa f dir).l s ino)).ino),aI ((Qa0 (Qaa f dir) (entL (Qaa f dir).l s ino)).kind),aI ((Qa0 (Qaa f dir) (entL (Qaa f dir).l s ino)).links),aS ((Qa0 (Qaa f dir) (entL (Qaa f dir).l s ino)).text),.sl 2 false ((Qa0 (Qaa f dir) (entL (Qaa f dir).l s ino)).l.map entA)]]) sr2 (Qes f (Qa0 (Qaa f dir) (entL (Qaa f dir).l s ino)) (Qb4 okf hp dir) (by omega) hr)<|
 .run 1 [b2=b2] rt1<|
 .fin (x:=.agg [.sl 5 false ((putF f (Qa0 (Qaa f dir) (entL (Qaa f dir).l s ino))).l.map nodA),aI ((putF f (Qa0 (Qaa f dir) (entL (Qaa f dir).l s ino))).next)]) (r:=.agg (fsyA (enterF f dir s ino))) [b2=b2] rt1 (by exact sR)) Tryz.func186 rfl (by kernel_rfl) (by kernel_rfl)
theorem Qks (f:Fsy) (d:Int) (s:Txt) (i:Int):(enterF f d s i).l.length≤f.l.length+1:=Qle _ _
theorem Qg9 {f:Fsy} (h:Qal f) (d:Int) (s:Txt) (i:Int):Qbs (enterF f d s i).l:=Qg2 (Qad h)
noncomputable def addF (f:Fsy) (d:Int) (s:Txt) (n:Nod):Fsy:=putF (enterF f d s n.ino) (Qa0 n [])
theorem Zcw (f:Fsy) (dir:Int) (s:Txt) (n:Nod) (b:Nat) (okf:OkF f) (hp:Qal f) (hs:s.length≤1000000) (hn:I64 n.ino∧n.ino<9223372036854775807):Qrw Tryz.prog 217 [.ptr 7 b 0,.dptr (fsyA f),.dptr [aI dir],.dptr [aS s]] (.box b 84 (nodA n)) (.agg (fsyA (addF f dir s n))):=by
 have hl:=hp.1
 have hr:=Qad hp
 exact Qik (q:=7) (F:=Tryz.f217) 400 (
 .new fun b1=>.run 2 [b=b] rt1<|
 .ord [0,1,2,3,4,6,5,7,8]<|.run 6 [b=b,b=b] rt2<|
 .call (Qf2 f dir s n.ino okf hp (by omega) hn.1)<|
 .callS (args0:=[.agg [.sl 5 false ((enterF f dir s n.ino).l.map nodA),aI ((enterF f dir s n.ino).next)],.agg [aI n.ino,aI n.kind,aI n.links,aS n.text,aN]]) (args:=[.agg [.sl 5 false ((enterF f dir s n.ino).l.map nodA),aI ((enterF f dir s n.ino).next)],.agg [aI ((Qa0 n []).ino),aI ((Qa0 n []).kind),aI ((Qa0 n []).links),aS ((Qa0 n []).text),.sl 2 false ((Qa0 n []).l.map entA)]]) ⟨sR,Sub.aggs ⟨sR,sR,sR,sR,Sub.nil _ _,trivial⟩,trivial⟩ (Qes (enterF f dir s n.ino) (Qa0 n []) hn (by have:=Qks f dir s n.ino;omega) (Qg9 hp dir s n.ino))<|
 .run 1 [b1=b1] rt1<|
 .fin (x:=.agg [.sl 5 false ((putF (enterF f dir s n.ino) (Qa0 n [])).l.map nodA),aI ((putF (enterF f dir s n.ino) (Qa0 n [])).next)]) (r:=.agg (fsyA (addF f dir s n))) [b1=b1] rt1 (by exact sR)) Tryz.func217 rfl (by kernel_rfl) (by kernel_rfl)
theorem Qeq (e:Int) (f:Fsy) (dir:Int) (s:Txt) (n:Nod) (b:Nat) (okf:OkF f) (hp:Qal f) (hs:s.length≤1000000) (hn:I64 n.ino∧n.ino<9223372036854775807):Qrw Tryz.prog 184 [.agg (fsyA f),aI e,.clo 217 [.ptr 7 b 0,.dptr (fsyA f),.dptr [aI dir],.dptr [aS s]]] (.box b 84 (nodA n)) (.tup [.agg (fsyA (if e=0 then addF f dir s n else f)),aI e]):=by
 exact Qik (q:=7) (F:=Tryz.f184) 400 (
 .new fun b1=>.new fun b2=>.r 1<|.r 2<|.br 9 (e != 0) (fun q1=>have p1:=bneT q1;.run 4 [b1=b1,b2=b2] rt2<|
 .fin (x:=.tup [.agg (fsyA f),aI e]) (r:=.tup [.agg (fsyA (if e=0 then addF f dir s n else f)),aI e]) [b2=b2] rt1 (by
  rw [if_neg (show ¬ e=0 from by omega)]
  exact sR))
 <| fun q1=>have p1:=bneF q1;.lent 1<|.r 1<|.lop (lcR Tryz.prog 7) ((217,[.ptr 7 b 0,.dptr (fsyA f),.dptr [aI dir],.dptr [aS s]],some 13),.box b 84 (nodA n)) (fun (_:Unit) σ=>(σ.put (some 13) (.agg [.sl 5 false ((addF f dir s n).l.map nodA),aI ((addF f dir s n).next)])).setB 7 gone) (Qcn (args':=[.ptr 7 b 0,.dptr (fsyA f),.dptr [aI dir],.dptr [aS s]]) sr4 (Zcw f dir s n b okf hp hs hn)) fun _=>
 .run 2 [b2=b2] rt1<|
 .fin (x:=.tup [.agg [.sl 5 false ((addF f dir s n).l.map nodA),aI ((addF f dir s n).next)],aI 0]) (r:=.tup [.agg (fsyA (if e=0 then addF f dir s n else f)),aI e]) [b2=b2] rt1 (by
  rw [if_pos (show e=0 from by omega),show e=0 from by omega]
  exact sR)) Tryz.func184 rfl (by kernel_rfl) (by kernel_rfl)
end Go.Proofs.YtahlldgocpabjaaGreat
