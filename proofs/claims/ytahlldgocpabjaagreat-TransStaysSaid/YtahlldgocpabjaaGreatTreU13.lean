import Derived.Test.YtahlldgocpabjaaGreatMrgK
set_option maxRecDepth 100000
set_option maxHeartbeats 8000000
set_option linter.unusedVariables false
set_option linter.unusedSimpArgs false
namespace Go.Proofs.YtahlldgocpabjaaGreat
open Go Go.RowKit Copyhold
theorem Qeu (l:List Nod) (i:Int):plN l i≤l.length:=Qzj _ _ _
theorem Qfh {l:List Nod} {i:Int} (h:thN l i=true):plN l i<l.length:=by
 obtain ⟨c,hc,_⟩:=Qfr h
 exact Qan hc
theorem Qjl {α:Type} {p:α→Bool} {l:List α} (h:∀ x∈l,p x=true):l.filter p=l:=List.filter_eq_self.2 h
def putK (l:List Nod) (n:Nod) (i j:Nat):List Nod:=l.take i++n :: ((l.take j).drop i).filter (fun x=>x.ino != n.ino)
theorem Qet {l:List Nod} {n:Nod} {i k:Nat} {x:Nod} (hx:l[k]?=some x) (hi:i≤k) (h:(x.ino != n.ino)=true):putK l n i (k+1)=putK l n i k++[x]:=by
 unfold putK
 rw [Qap hx,List.drop_append_of_le_length (by rw [List.length_take];have:=Qan hx;omega),List.filter_append]
 simp [h]
theorem Qgi {l:List Nod} {n:Nod} {i k:Nat} {x:Nod} (hx:l[k]?=some x) (hi:i≤k) (h:(x.ino != n.ino)=false):putK l n i (k+1)=putK l n i k:=by
 unfold putK
 rw [Qap hx,List.drop_append_of_le_length (by rw [List.length_take];have:=Qan hx;omega),List.filter_append]
 simp [h]
theorem Qch (l:List Nod) (n:Nod) (i k:Nat) (hi:i≤k) (hk:k≤l.length):(putK l n i k).length≤k+1:=by
 unfold putK
 have:=List.length_filter_le (fun x:Nod=>x.ino != n.ino) ((l.take k).drop i)
 rw [List.length_drop,List.length_take] at this
 simp only [List.length_append,List.length_cons,List.length_take]
 omega
theorem Qf1 {l:List Nod} {i:Int} (hr:Qbs l):(l.drop (plN l i)).filter (fun x=>x.ino != i)=l.drop (plN l i+if thN l i then 1 else 0):=by
 cases ht:thN l i with
 | true=>
  obtain ⟨c,hc,hi⟩:=Qfr ht
  have hlt:=Qan hc
  have e:l.drop (plN l i)=c :: l.drop (plN l i+1):=by
   rw [List.drop_eq_getElem_cons hlt]
   congr 1
   exact Option.some.inj ((List.getElem?_eq_getElem hlt).symm.trans hc)
  rw [e,List.filter_cons,if_neg (by simp [hi])]
  refine Qjl fun x hx=>?_
  obtain ⟨k,hk⟩:=List.getElem?_of_mem hx
  rw [List.getElem?_drop] at hk
  have h3:=List.pairwise_iff_getElem.1 hr
  have l2:=Qan hk
  have:=h3 _ _ hlt l2 (show plN l i<plN l i+1+k by omega)
  have e1:l[plN l i]=c:=Option.some.inj ((List.getElem?_eq_getElem hlt).symm.trans hc)
  have e2:l[plN l i+1+k]=x:=Option.some.inj ((List.getElem?_eq_getElem l2).symm.trans hk)
  rw [e1,e2] at this
  have hne:¬ x.ino=i:=by omega
  simpa using hne
 | false=>
  refine Qjl fun x hx=>?_
  have h0:=(Ql8 hr ht).1
  have:=List.any_eq_false.1 h0 x (List.mem_of_mem_drop hx)
  simpa [isNo] using this
theorem Qko {l:List Nod} {n:Nod} {i k:Nat} (hr:Qbs l) (hk:l.length≤k) (hi:plN l n.ino=i):putK l n i k=putN l n:=by
 unfold putK putN
 subst hi
 rw [Qay hk,Qf1 hr]
def outK (l:List Nod) (i:Int) (k:Nat):List Nod:=(l.take k).filter fun x=>x.ino != i
theorem Qug {l:List Nod} {i:Int} {k:Nat} {x:Nod} (hx:l[k]?=some x) (h:(x.ino != i)=true):outK l i (k+1)=outK l i k++[x]:=by
 unfold outK;rw [Qap hx,List.filter_append];simp [h]
theorem Qzr {l:List Nod} {i:Int} {k:Nat} {x:Nod} (hx:l[k]?=some x) (h:(x.ino != i)=false):outK l i (k+1)=outK l i k:=by
 unfold outK;rw [Qap hx,List.filter_append];simp [h]
theorem Qzs (l:List Nod) (i:Int) (k:Nat):(outK l i k).length≤k:=by
 have:=List.length_filter_le (fun x:Nod=>x.ino != i) (l.take k)
 rw [List.length_take] at this
 unfold outK;omega
theorem Qfx {l:List Nod} {i:Int} (hr:Qbs l):outN l i=l.filter fun x=>x.ino != i:=by
 have e:l.filter (fun x=>x.ino != i)=l.take (plN l i)++(l.drop (plN l i)).filter (fun x=>x.ino != i):=by
  conv=>lhs;rw [← List.take_append_drop (plN l i) l,List.filter_append]
  congr 1
  refine Qjl fun x hx=>?_
  have:=(hr.cut i).1 x hx
  have hne:¬ x.ino=i:=by omega
  simpa using hne
 rw [e,Qf1 hr]
 unfold outN
 cases thN l i with
 | true=>rfl
 | false=>simp
theorem Zd5 {l:List Nod} {i:Int} {k:Nat} (hr:Qbs l) (hk:l.length≤k):outK l i k=outN l i:=by
 unfold outK;rw [Qay hk,Qfx hr]
theorem Qle (l:List Nod) (n:Nod):(putN l n).length≤l.length+1:=by
 unfold putN
 simp only [List.length_append,List.length_cons,List.length_take,List.length_drop]
 omega
theorem Qsq (l:List Nod) (i:Int):(outN l i).length≤l.length:=by
 unfold outN
 split
 ·simp only [List.length_append,List.length_take,List.length_drop];omega
 ·exact Nat.le_refl _
theorem Qes (f:Fsy) (n:Nod) (hn:I64 n.ino∧n.ino<9223372036854775807) (hl:f.l.length≤90000) (hr:Qbs f.l):Qaj Tryz.prog 177 [.agg (fsyA f),.agg (nodA n)] (.agg (fsyA (putF f n))):=by
 have hn1:=hn.1.1
 have hpl0:=Qeu f.l n.ino
 exact Qac (F:=Tryz.f177) 400 (
 .new fun b1=>.new fun b2=>.new fun b3=>.run 3 [b1=b1,b2=b2] rt2<|
 .call (Qto f n.ino (by omega) hr)<|
 .r 5<|.r 2<|.r 1<|.br 16 (thN f.l n.ino) (fun q1=>have p1:=booT q1;.run 3 [rng .i64 ((plN f.l n.ino:Int)+1)] ⟨Qas (by omega) (by omega),trivial⟩<|
 .ord [0,1,2,3,4,6,7,8,9,12,13,14,15,16,17,5,10,11,18,19]<|.run 3 [b1=b1] rt1<|
 .slc 5 false (f.l.map nodA) none (some (plN f.l n.ino:Int)) none 0 (plN f.l n.ino) false (.inl ⟨rfl,rfl⟩) (.inr rfl) (.inl ⟨rfl,fun h=>by cases h⟩) (by have hpl:=Qeu f.l n.ino;(try have hth:=Qfh (by assumption:thN f.l n.ino=true));first | omega | (rw [List.length_map];omega)) (by have hpl:=Qeu f.l n.ino;(try have hth:=Qfh (by assumption:thN f.l n.ino=true));first | omega | (rw [List.length_map];omega))<|
 .run 4 [b2=b2,b1=b1] rt2<|
 .slc 5 false (f.l.map nodA) (some ((plN f.l n.ino:Int)+1)) none none (plN f.l n.ino+1) ((f.l.map nodA).length) false (.inr (congrArg some (by omega))) (.inl ⟨rfl,rfl⟩) (.inl ⟨rfl,fun h=>by cases h⟩) (by have hpl:=Qeu f.l n.ino;(try have hth:=Qfh (by assumption:thN f.l n.ino=true));first | omega | (rw [List.length_map];omega)) (by have hpl:=Qeu f.l n.ino;(try have hth:=Qfh (by assumption:thN f.l n.ino=true));first | omega | (rw [List.length_map];omega))<|
 .run 5 [b1=b1,b2=b2,rng .i64 (n.ino+1)] ⟨rfl,rfl,Qas (by omega) (by omega),trivial⟩<|
 .op (mxR) (f.next,n.ino+1,some 36) (fun (_:Unit) σ=>σ.put (some 36) (aI (if (n.ino+1)>f.next then n.ino+1 else f.next))) (Qyn) fun _=>
 .r 2<|.callS (args0:=[.sl 1 true ([[.sl 5 false (((f.l.map nodA).take (plN f.l n.ino)).drop 0)],[.sl 5 true ([(nodA n)])],[.sl 5 false (((f.l.map nodA).take ((f.l.map nodA).length)).drop (plN f.l n.ino+1))]])]) (args:=[.sl 1 false ([((f.l.map nodA).take (plN f.l n.ino)).drop 0,[(nodA n)],((f.l.map nodA).take ((f.l.map nodA).length)).drop (plN f.l n.ino+1)].map pc5)]) ⟨pcs3 _ _ _,trivial⟩ (Qf4 [((f.l.map nodA).take (plN f.l n.ino)).drop 0,[(nodA n)],((f.l.map nodA).take ((f.l.map nodA).length)).drop (plN f.l n.ino+1)] (by simp) (by simp only [List.flatten_cons,List.flatten_nil,List.length_append,List.length_take,List.length_drop,List.length_map,List.length_cons,List.length_nil];omega))<|
 .run 2 [b3=b3] rt1<|
 .fin (x:=.agg [.sl 5 false ([((f.l.map nodA).take (plN f.l n.ino)).drop 0,[(nodA n)],((f.l.map nodA).take ((f.l.map nodA).length)).drop (plN f.l n.ino+1)].flatten),aI (if (n.ino+1)>f.next then n.ino+1 else f.next)]) (r:=.agg (fsyA (putF f n))) [b3=b3] rt1 (by
  refine Sub.aggs ⟨Sub.of_eq (congrArg (AV.sl 5 false) ?_),Sub.of_eq (congrArg aI rfl),trivial⟩
  show _=(putN f.l n).map nodA
  unfold putN
  rw [q1]
  simp [nodA,List.map_take,List.map_drop,Qay]))
 <| fun q1=>have p1:=booF q1;.ord [0,1,2,3,4,6,7,8,9,12,13,14,15,16,17,5,10,11,18,19]<|.run 3 [b1=b1] rt1<|
 .slc 5 false (f.l.map nodA) none (some (plN f.l n.ino:Int)) none 0 (plN f.l n.ino) false (.inl ⟨rfl,rfl⟩) (.inr rfl) (.inl ⟨rfl,fun h=>by cases h⟩) (by have hpl:=Qeu f.l n.ino;(try have hth:=Qfh (by assumption:thN f.l n.ino=true));first | omega | (rw [List.length_map];omega)) (by have hpl:=Qeu f.l n.ino;(try have hth:=Qfh (by assumption:thN f.l n.ino=true));first | omega | (rw [List.length_map];omega))<|
 .run 4 [b2=b2,b1=b1] rt2<|
 .slc 5 false (f.l.map nodA) (some (plN f.l n.ino:Int)) none none (plN f.l n.ino) ((f.l.map nodA).length) false (.inr rfl) (.inl ⟨rfl,rfl⟩) (.inl ⟨rfl,fun h=>by cases h⟩) (by have hpl:=Qeu f.l n.ino;(try have hth:=Qfh (by assumption:thN f.l n.ino=true));first | omega | (rw [List.length_map];omega)) (by have hpl:=Qeu f.l n.ino;(try have hth:=Qfh (by assumption:thN f.l n.ino=true));first | omega | (rw [List.length_map];omega))<|
 .run 5 [b1=b1,b2=b2,rng .i64 (n.ino+1)] ⟨rfl,rfl,Qas (by omega) (by omega),trivial⟩<|
 .op (mxR) (f.next,n.ino+1,some 36) (fun (_:Unit) σ=>σ.put (some 36) (aI (if (n.ino+1)>f.next then n.ino+1 else f.next))) (Qyn) fun _=>
 .r 2<|.callS (args0:=[.sl 1 true ([[.sl 5 false (((f.l.map nodA).take (plN f.l n.ino)).drop 0)],[.sl 5 true ([(nodA n)])],[.sl 5 false (((f.l.map nodA).take ((f.l.map nodA).length)).drop (plN f.l n.ino))]])]) (args:=[.sl 1 false ([((f.l.map nodA).take (plN f.l n.ino)).drop 0,[(nodA n)],((f.l.map nodA).take ((f.l.map nodA).length)).drop (plN f.l n.ino)].map pc5)]) ⟨pcs3 _ _ _,trivial⟩ (Qf4 [((f.l.map nodA).take (plN f.l n.ino)).drop 0,[(nodA n)],((f.l.map nodA).take ((f.l.map nodA).length)).drop (plN f.l n.ino)] (by simp) (by simp only [List.flatten_cons,List.flatten_nil,List.length_append,List.length_take,List.length_drop,List.length_map,List.length_cons,List.length_nil];omega))<|
 .run 2 [b3=b3] rt1<|
 .fin (x:=.agg [.sl 5 false ([((f.l.map nodA).take (plN f.l n.ino)).drop 0,[(nodA n)],((f.l.map nodA).take ((f.l.map nodA).length)).drop (plN f.l n.ino)].flatten),aI (if (n.ino+1)>f.next then n.ino+1 else f.next)]) (r:=.agg (fsyA (putF f n))) [b3=b3] rt1 (by
  refine Sub.aggs ⟨Sub.of_eq (congrArg (AV.sl 5 false) ?_),Sub.of_eq (congrArg aI rfl),trivial⟩
  show _=(putN f.l n).map nodA
  unfold putN
  rw [q1]
  simp [nodA,List.map_take,List.map_drop,Qay])) Tryz.func177 rfl (by kernel_rfl) (by kernel_rfl)
theorem Zd4 (f:Fsy) (i:Int) (hl:f.l.length≤90000) (hr:Qbs f.l):Qaj Tryz.prog 223 [.agg (fsyA f),aI i] (.agg (fsyA (outF f i))):=by
 have hpl0:=Qeu f.l i
 exact Qac (F:=Tryz.f223) 400 (
 .new fun b1=>.new fun b2=>.run 2 [b1=b1] rt1<|
 .call (Qto f i (by omega) hr)<|
 .r 5<|.r 2<|.br 14 (!(thN f.l i)) (fun q1=>have q1:=notT q1;have p1:=booF q1;.run 2 [b1=b1,b2=b2] rt2<|
 .fin (x:=.agg (fsyA f)) (r:=.agg (fsyA (outF f i))) [b2=b2] rt1 (by exact Sub.aggs ⟨Sub.of_eq (by rw [show (outF f i).l=f.l from by show outN f.l i=_;unfold outN;rw [if_neg (by rw [q1];simp)]]),sR,trivial⟩))
 <| fun q1=>have q1:=notF q1;have p1:=booT q1;.ord [0,1,2,3,4,5,6,7,8,11,12,9,10,13,14]<|.run 3 [b1=b1] rt1<|
 .slc 5 false (f.l.map nodA) none (some (plN f.l i:Int)) none 0 (plN f.l i) false (.inl ⟨rfl,rfl⟩) (.inr rfl) (.inl ⟨rfl,fun h=>by cases h⟩) (by have hpl:=Qeu f.l i;(try have hth:=Qfh (by assumption:thN f.l i=true));first | omega | (rw [List.length_map];omega)) (by have hpl:=Qeu f.l i;(try have hth:=Qfh (by assumption:thN f.l i=true));first | omega | (rw [List.length_map];omega))<|
 .run 4 [b1=b1,rng .i64 ((plN f.l i:Int)+1)] ⟨rfl,Qas (by omega) (by omega),trivial⟩<|
 .slc 5 false (f.l.map nodA) (some ((plN f.l i:Int)+1)) none none (plN f.l i+1) ((f.l.map nodA).length) false (.inr (congrArg some (by omega))) (.inl ⟨rfl,rfl⟩) (.inl ⟨rfl,fun h=>by cases h⟩) (by have hpl:=Qeu f.l i;(try have hth:=Qfh (by assumption:thN f.l i=true));first | omega | (rw [List.length_map];omega)) (by have hpl:=Qeu f.l i;(try have hth:=Qfh (by assumption:thN f.l i=true));first | omega | (rw [List.length_map];omega))<|
 .run 3 [b1=b1] rt1<|
 .callS (args0:=[.sl 1 true ([[.sl 5 false (((f.l.map nodA).take (plN f.l i)).drop 0)],[.sl 5 false (((f.l.map nodA).take ((f.l.map nodA).length)).drop (plN f.l i+1))]])]) (args:=[.sl 1 false ([((f.l.map nodA).take (plN f.l i)).drop 0,((f.l.map nodA).take ((f.l.map nodA).length)).drop (plN f.l i+1)].map pc5)]) ⟨pcs2 _ _,trivial⟩ (Qf4 [((f.l.map nodA).take (plN f.l i)).drop 0,((f.l.map nodA).take ((f.l.map nodA).length)).drop (plN f.l i+1)] (by simp) (by simp only [List.flatten_cons,List.flatten_nil,List.length_append,List.length_take,List.length_drop,List.length_map,List.length_cons,List.length_nil];omega))<|
 .run 2 [b2=b2] rt1<|
 .fin (x:=.agg [.sl 5 false ([((f.l.map nodA).take (plN f.l i)).drop 0,((f.l.map nodA).take ((f.l.map nodA).length)).drop (plN f.l i+1)].flatten),aI f.next]) (r:=.agg (fsyA (outF f i))) [b2=b2] rt1 (by
  refine Sub.aggs ⟨Sub.of_eq (congrArg (AV.sl 5 false) ?_),sR,trivial⟩
  show _=(outN f.l i).map nodA
  unfold outN
  rw [if_pos q1]
  simp [List.map_take,List.map_drop,Qay])) Tryz.func223 rfl (by kernel_rfl) (by kernel_rfl)
end Go.Proofs.YtahlldgocpabjaaGreat
