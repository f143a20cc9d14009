import Derived.Test.YtahlldgocpabjaaGreatAl
import Derived.Test.YtahlldgocpabjaaGreatMrgI
set_option maxRecDepth 100000
set_option maxHeartbeats 8000000
set_option linter.unusedVariables false
set_option linter.unusedSimpArgs false
namespace Go.Proofs.YtahlldgocpabjaaGreat
open Go Go.RowKit Copyhold Go.Proofs.Tryz
theorem Qvj (l:List Nod) (n:Int) (hl:l.length≤100000) (hr:Qb1 l):Qai prog 212 [.sl 5 false (l.map nodA),aI n,.clo 213 [.dptr [.val (.func (.func 172) #[] #[])]]] (.tup [aI (plN l n:Int),aB (thN l n)]):=by
 exact Qae func212 (
 .r 2<|.r 2<|.lm 13 l nodA<|.r 1<|.r 3<|let L1:Lp (Nat × Nat):=⟨fun a1=>⟨[(0,.sl 5 false (l.map nodA)),(1,aI n),(2,.clo 213 [.dptr [.val (.func (.func 172) #[] #[])]]),(8,aI (l.length:Int)),(9,aI (a1.1:Int)),(10,aI (a1.2:Int))],[]⟩,fun a1=>a1.2-a1.1,fun a1=>BsH l n a1.1 a1.2⟩
 .lp L1 (0,l.length) (show BsH l n 0 l.length from (bs0 l n)) [(9,aI 0)] [] ⟨sR,sR,sR,sR,sO,sR,trivial⟩ trivial fun a1 ha1=>
 (fun (i:Nat) (j:Nat) (hH1:BsH l n i j)=>have hb1:=hH1.1;have hb2:=hH1.2.1;.r 3<|.bd 17 ((i:Int)<(j:Int)) (fun p1=>.run 3 [rng .i64 ((i:Int)+(j:Int))] ⟨Qah,trivial⟩<|
 .op (cvR) (3,188,.int .i64 ((i:Int)+(j:Int)),some 21) (fun (_:Unit) σ=>σ.put (some 21) (.val (.int .u64 ((i:Int)+(j:Int))))) (Qwg (Qsq (by kernel_rfl) (by kernel_rfl) (rngu (by omega) (by omega)))) fun _=>
 .binV .shr 188 (shrN (yk:=.u64) (a:=((i:Int)+(j:Int))) (b:=1) (by omega))<|
 .val 22 (show (.val (.int .u64 (((i:Int)+(j:Int)) / 2 ^ 1)):AV)=.val (.int .u64 (((i+j) / 2:Nat):Int)) from (W1z (fun z=>AV.val (.int .u64 z)) (by rw [show (i:Int)+(j:Int)=((i+j:Nat):Int) from by omega];exact fdiv2 _)))<|.op (cvR) (188,3,.int .u64 (((i+j) / 2:Nat):Int),some 23) (fun (_:Unit) σ=>σ.put (some 23) (.val (.int .i64 (((i+j) / 2:Nat):Int)))) (Qwg (Qsq (by kernel_rfl) (by kernel_rfl) (Qah))) fun _=>
 .r 1<|.r 3<|.idxM l nodA ((i+j) / 2) (m:=(((i+j) / 2:Nat):Int)) rfl (by have:=hH1.1;have:=hH1.2.1;omega) fun x1 hx1=>
 .r 2<|.call (Zag x1 n)<|
 .r 1<|.br 31 (decide ((cmpD x1.ino n)<0)) (fun q2=>have p2:=decT q2;.run 3 [rng .i64 ((((i+j) / 2:Nat):Int)+1)] ⟨Qah,trivial⟩<|
 .bk L1 (i,j) (((i+j) / 2+1),j) (show BsH l n ((i+j) / 2+1) j from (bs_up hr hH1 hx1 q2)) (show j-((i+j) / 2+1)<j-i from (by omega)) [(9,aI ((((i+j) / 2:Nat):Int)+1))] [] ⟨sR,sR,sR,sR,W2p (W1z aI (by omega)),sR,trivial⟩ trivial)
 <| fun q2=>have p2:=decF q2;.r 2<|.bk L1 (i,j) (i,((i+j) / 2)) (show BsH l n i ((i+j) / 2) from (bs_dn hr hH1 hx1 q2)) (show ((i+j) / 2)-i<j-i from (by omega)) [(10,aI (((i+j) / 2:Nat):Int))] [] ⟨sR,sR,sR,sR,sR,sO,trivial⟩ trivial)
 <| fun p1=>.r 5<|.bd 39 ((i:Int)<(l.length:Int)) (fun p3=>.r 3<|.idxM l nodA i (m:=(i:Int)) rfl (by omega) fun x2 hx2=>
 .r 2<|.call (Zag x2 n)<|
 .r 4<|.f (.tup [aI (plN l n:Int),aB (thN l n)]) [] (.tup [aI (i:Int),aB ((cmpD x2.ino n)==0)]) (by
  have e:=Zmr hH1 (by omega);rw [show thN l n=(cmpD x2.ino n==0) from (Qnf e hx2).trans cmp_eq.symm,show plN l n=i from e];exact sR))
 <| fun p3=>.r 11<|.f (.tup [aI (plN l n:Int),aB (thN l n)]) [] (.tup [aI (i:Int),aB false]) (by
  have e:=Zmr hH1 (by omega);have e2:plN l n=l.length:=(by have:=hH1.1;have:=hH1.2.1;omega)
  rw [show thN l n=false from Zaz e2,show plN l n=i from e];exact sR)) a1.1 a1.2 ha1)
theorem Zbz (l:List Nod) (n:Int) (hl:l.length≤100000) (hr:Qb1 l):Qai prog 171 [.sl 5 false (l.map nodA),.val (.func (.func 172) #[] #[]),aI n] (.tup [aI (plN l n:Int),aB (thN l n)]):=by
 exact Qae func171 (let R:AV:=.tup [aI (plN l n:Int),aB (thN l n)];
 .new fun b1=>.r 2<|.frz 4 [0,2,4,6,7] [] [b1=b1] rt1<|
 .r 3<|.call (Qvj l n hl hr)<|
 .r 4<|.fi R [])
theorem Qyc (f:Fsy) (n:Int) (hl:f.l.length≤100000) (hr:Qb1 f.l):Qai prog 128 [.agg (fsyA f),aI n] (.tup [aI (plN f.l n:Int),aB (thN f.l n)]):=by
 exact Qae func128 (let R:AV:=.tup [aI (plN f.l n:Int),aB (thN f.l n)];
 .new fun b1=>.r 2<|.u 3 [b1]<|
 .call (Zbz f.l n hl hr)<|
 .r 4<|.fi R [])
theorem Qcp (f:Fsy) (n:Int) (hl:f.l.length≤100000) (hr:Qb1 f.l):Qai prog 81 [.agg (fsyA f),aI n] (.tup [.agg (nodA (Qaa f n)),aB (Qav f n)]):=by
 exact Qae func81 (
 .new fun b1=>.new fun b2=>.r 1<|.u 2 [b1]<|
 .call (Qyc f n hl hr)<|
 .r 5<|.r 2<|.br 15 (!(thN f.l n)) (fun q1=>have q1:=notT q1;have p1:=booF q1;.u 3 [b2]<|
 .f (.tup [.agg (nodA (Qaa f n)),aB (Qav f n)]) [b2] (.tup [.agg [aI 0,aI 0,aI 0,aS ([]),aN],aB false]) (by
  obtain ⟨e1,e2⟩:=Qow hr q1;rw [show Qaa f n=nod0 from by unfold Qaa;rw [e2];rfl,show Qav f n=false from e1];exact W2s ⟨W2t ⟨sR,sR,sR,sR,Sub.nil _ _,trivial⟩,sR,trivial⟩))
 <| fun q1=>have q1:=notF q1;have p1:=booT q1;.u 3 [b1]<|
 .idxM f.l nodA (plN f.l n) (m:=(plN f.l n:Int)) rfl (by obtain ⟨c,hc,_⟩:=Qg5 q1;exact Qap hc) fun x1 hx1=>
 .u 3 [b2]<|
 .f (.tup [.agg (nodA (Qaa f n)),aB (Qav f n)]) [b2] (.tup [.agg (nodA x1),aB true]) (by
  obtain ⟨e1,e2⟩:=Qql hr q1 hx1;rw [show Qaa f n=x1 from by unfold Qaa;rw [e2];rfl,show Qav f n=true from e1];exact sR))
theorem Qf1 (l:List Nod) (i:Int):plN l i≤l.length:=Ze1 _ _ _
theorem Qgo {l:List Nod} {i:Int} (h:thN l i=true):plN l i<l.length:=by
 obtain ⟨c,hc,_⟩:=Qg5 h;exact Qap hc
theorem Ql1 {α:Type} {p:α→Bool} {l:List α} (h:∀ x∈l,p x=true):l.filter p=l:=List.filter_eq_self.2 h
def putK (l:List Nod) (n:Nod) (i j:Nat):List Nod:=l.take i++n :: ((l.take j).drop i).filter (fun x=>x.ino != n.ino)
theorem Qf0 {l:List Nod} {n:Nod} {i k:Nat} {x:Nod} (hx:l[k]?=some x) (hi:i≤k) (h:(x.ino != n.ino)=true):putK l n i (k+1)=putK l n i k++[x]:=by
 unfold putK;rw [Qam hx,List.drop_append_of_le_length (by rw [W0g];have:=Qap hx;omega),W1k];simp [h]
theorem Qh9 {l:List Nod} {n:Nod} {i k:Nat} {x:Nod} (hx:l[k]?=some x) (hi:i≤k) (h:(x.ino != n.ino)=false):putK l n i (k+1)=putK l n i k:=by
 unfold putK;rw [Qam hx,List.drop_append_of_le_length (by rw [W0g];have:=Qap hx;omega),W1k];simp [h]
theorem Qcs (l:List Nod) (n:Nod) (i k:Nat) (hi:i≤k) (hk:k≤l.length):(putK l n i k).length≤k+1:=by
 unfold putK;have:=W2h (fun x:Nod=>x.ino != n.ino) ((l.take k).drop i);rw [W0p,W0g] at this;simp only [W0e,W0b,W0g];omega
theorem Qhk {l:List Nod} {i:Int} (hr:Qb1 l):(l.drop (plN l i)).filter (fun x=>x.ino != i)=l.drop (plN l i+if thN l i then 1 else 0):=by
 cases ht:thN l i with
 | true=>
  obtain ⟨c,hc,hi⟩:=Qg5 ht;have hlt:=Qap hc;have e:l.drop (plN l i)=c :: l.drop (plN l i+1):=by
   rw [List.drop_eq_getElem_cons hlt];congr 1;exact W0c ((W0d hlt).symm.trans hc)
  rw [e,W2l,W1x (by simp [hi])];refine Ql1 fun x hx=>?_;obtain ⟨k,hk⟩:=W0w hx;rw [W08] at hk;have h3:=W1d.1 hr;have l2:=Qap hk;have:=h3 _ _ hlt l2 (show plN l i<plN l i+1+k by omega);have e1:l[plN l i]=c:=W0c ((W0d hlt).symm.trans hc);have e2:l[plN l i+1+k]=x:=W0c ((W0d l2).symm.trans hk);rw [e1,e2] at this;have hne:¬ x.ino=i:=by omega
  simpa using hne
 | false=>
  refine Ql1 fun x hx=>?_;have h0:=(Qow hr ht).1;have:=W2d.1 h0 x (W2e hx);simpa [isNo] using this
theorem Qm3 {l:List Nod} {n:Nod} {i k:Nat} (hr:Qb1 l) (hk:l.length≤k) (hi:plN l n.ino=i):putK l n i k=putN l n:=by
 unfold putK putN;subst hi;rw [Qat hk,Qhk hr]
def outK (l:List Nod) (i:Int) (k:Nat):List Nod:=(l.take k).filter fun x=>x.ino != i
theorem Qy5 {l:List Nod} {i:Int} {k:Nat} {x:Nod} (hx:l[k]?=some x) (h:(x.ino != i)=true):outK l i (k+1)=outK l i k++[x]:=by
 unfold outK;rw [Qam hx,W1k];simp [h]
theorem Ze7 {l:List Nod} {i:Int} {k:Nat} {x:Nod} (hx:l[k]?=some x) (h:(x.ino != i)=false):outK l i (k+1)=outK l i k:=by
 unfold outK;rw [Qam hx,W1k];simp [h]
theorem Ze8 (l:List Nod) (i:Int) (k:Nat):(outK l i k).length≤k:=by
 have:=W2h (fun x:Nod=>x.ino != i) (l.take k);rw [W0g] at this;unfold outK;omega
theorem Qhe {l:List Nod} {i:Int} (hr:Qb1 l):outN l i=l.filter fun x=>x.ino != i:=by
 have e:l.filter (fun x=>x.ino != i)=l.take (plN l i)++(l.drop (plN l i)).filter (fun x=>x.ino != i):=by
  conv=>lhs;rw [← W1h (plN l i) l,W1k]
  congr 1;refine Ql1 fun x hx=>?_;have:=(hr.cut i).1 x hx;have hne:¬ x.ino=i:=by omega
  simpa using hne
 rw [e,Qhk hr];unfold outN;cases thN l i with
 | true=>rfl
 | false=>simp
theorem Zjn {l:List Nod} {i:Int} {k:Nat} (hr:Qb1 l) (hk:l.length≤k):outK l i k=outN l i:=by
 unfold outK;rw [Qat hk,Qhe hr]
theorem Qnv (l:List Nod) (n:Nod):(putN l n).length≤l.length+1:=by
 unfold putN;simp only [W0e,W0b,W0g,W0p];omega
theorem Qw6 (l:List Nod) (i:Int):(outN l i).length≤l.length:=by
 unfold outN
 split
 ·simp only [W0e,W0g,W0p];omega
 ·exact W0m _
theorem Qfz (f:Fsy) (n:Nod) (hn:I64 n.ino∧n.ino<9223372036854775807) (hl:f.l.length≤90000) (hr:Qb1 f.l):Qai prog 177 [.agg (fsyA f),.agg (nodA n)] (.agg (fsyA (putF f n))):=by
 have hn1:=hn.1.1;have hpl0:=Qf1 f.l n.ino;exact Qae func177 (
 .new fun b1=>.new fun b2=>.new fun b3=>.u 3 [b1,b2]<|
 .call (Qyc f n.ino (by omega) hr)<|
 .r 5<|.r 2<|.r 1<|.br 16 (thN f.l n.ino) (fun q1=>have p1:=booT q1;.run 3 [rng .i64 ((plN f.l n.ino:Int)+1)] ⟨Qah,trivial⟩<|
 .ord [0,1,2,3,4,6,7,8,9,12,13,14,15,16,17,5,10,11,18,19]<|.u 3 [b1]<|
 .slc 5 false (f.l.map nodA) none (some (plN f.l n.ino:Int)) none 0 (plN f.l n.ino) false (.inl ⟨rfl,rfl⟩) (.inr rfl) (.inl ⟨rfl,fun h=>by cases h⟩) (by have hpl:=Qf1 f.l n.ino;(try have hth:=Qgo (by assumption:thN f.l n.ino=true));first | omega | (rw [W0a];omega)) (by have hpl:=Qf1 f.l n.ino;(try have hth:=Qgo (by assumption:thN f.l n.ino=true));first | omega | (rw [W0a];omega))<|
 .u 4 [b2,b1]<|
 .slc 5 false (f.l.map nodA) (some ((plN f.l n.ino:Int)+1)) none none (plN f.l n.ino+1) ((f.l.map nodA).length) false (.inr (W1z some (by omega))) (.inl ⟨rfl,rfl⟩) (.inl ⟨rfl,fun h=>by cases h⟩) (by have hpl:=Qf1 f.l n.ino;(try have hth:=Qgo (by assumption:thN f.l n.ino=true));first | omega | (rw [W0a];omega)) (by have hpl:=Qf1 f.l n.ino;(try have hth:=Qgo (by assumption:thN f.l n.ino=true));first | omega | (rw [W0a];omega))<|
 .run 5 [b1=b1,b2=b2,rng .i64 (n.ino+1)] ⟨rfl,rfl,Qah,trivial⟩<|
 .op (mxR) (f.next,n.ino+1,some 36) (fun (_:Unit) σ=>σ.put (some 36) (aI (if (n.ino+1)>f.next then n.ino+1 else f.next))) (Zd3) fun _=>
 .r 2<|.cs (args0:=[.sl 1 true ([[.sl 5 false (((f.l.map nodA).take (plN f.l n.ino)).drop 0)],[.sl 5 true ([(nodA n)])],[.sl 5 false (((f.l.map nodA).take ((f.l.map nodA).length)).drop (plN f.l n.ino+1))]])]) (Qhm [((f.l.map nodA).take (plN f.l n.ino)).drop 0,[(nodA n)],((f.l.map nodA).take ((f.l.map nodA).length)).drop (plN f.l n.ino+1)] (by simp) (by simp only [W1g,List.flatten_nil,W0e,W0g,W0p,W0a,W0b,W0f];omega)) ⟨pcs3 _ _ _,trivial⟩<|
 .u 2 [b3]<|
 .f (.agg (fsyA (putF f n))) [b3] (.agg [.sl 5 false ([((f.l.map nodA).take (plN f.l n.ino)).drop 0,[(nodA n)],((f.l.map nodA).take ((f.l.map nodA).length)).drop (plN f.l n.ino+1)].flatten),aI (if (n.ino+1)>f.next then n.ino+1 else f.next)]) (by
  refine W2t ⟨W2p (W1z (AV.sl 5 false) ?_),W2p (W1z aI rfl),trivial⟩;show _=(putN f.l n).map nodA;unfold putN;rw [q1];simp [nodA,W17,W2f,Qat]))
 <| fun q1=>have p1:=booF q1;.ord [0,1,2,3,4,6,7,8,9,12,13,14,15,16,17,5,10,11,18,19]<|.u 3 [b1]<|
 .slc 5 false (f.l.map nodA) none (some (plN f.l n.ino:Int)) none 0 (plN f.l n.ino) false (.inl ⟨rfl,rfl⟩) (.inr rfl) (.inl ⟨rfl,fun h=>by cases h⟩) (by have hpl:=Qf1 f.l n.ino;(try have hth:=Qgo (by assumption:thN f.l n.ino=true));first | omega | (rw [W0a];omega)) (by have hpl:=Qf1 f.l n.ino;(try have hth:=Qgo (by assumption:thN f.l n.ino=true));first | omega | (rw [W0a];omega))<|
 .u 4 [b2,b1]<|
 .slc 5 false (f.l.map nodA) (some (plN f.l n.ino:Int)) none none (plN f.l n.ino) ((f.l.map nodA).length) false (.inr rfl) (.inl ⟨rfl,rfl⟩) (.inl ⟨rfl,fun h=>by cases h⟩) (by have hpl:=Qf1 f.l n.ino;(try have hth:=Qgo (by assumption:thN f.l n.ino=true));first | omega | (rw [W0a];omega)) (by have hpl:=Qf1 f.l n.ino;(try have hth:=Qgo (by assumption:thN f.l n.ino=true));first | omega | (rw [W0a];omega))<|
 .run 5 [b1=b1,b2=b2,rng .i64 (n.ino+1)] ⟨rfl,rfl,Qah,trivial⟩<|
 .op (mxR) (f.next,n.ino+1,some 36) (fun (_:Unit) σ=>σ.put (some 36) (aI (if (n.ino+1)>f.next then n.ino+1 else f.next))) (Zd3) fun _=>
 .r 2<|.cs (args0:=[.sl 1 true ([[.sl 5 false (((f.l.map nodA).take (plN f.l n.ino)).drop 0)],[.sl 5 true ([(nodA n)])],[.sl 5 false (((f.l.map nodA).take ((f.l.map nodA).length)).drop (plN f.l n.ino))]])]) (Qhm [((f.l.map nodA).take (plN f.l n.ino)).drop 0,[(nodA n)],((f.l.map nodA).take ((f.l.map nodA).length)).drop (plN f.l n.ino)] (by simp) (by simp only [W1g,List.flatten_nil,W0e,W0g,W0p,W0a,W0b,W0f];omega)) ⟨pcs3 _ _ _,trivial⟩<|
 .u 2 [b3]<|
 .f (.agg (fsyA (putF f n))) [b3] (.agg [.sl 5 false ([((f.l.map nodA).take (plN f.l n.ino)).drop 0,[(nodA n)],((f.l.map nodA).take ((f.l.map nodA).length)).drop (plN f.l n.ino)].flatten),aI (if (n.ino+1)>f.next then n.ino+1 else f.next)]) (by
  refine W2t ⟨W2p (W1z (AV.sl 5 false) ?_),W2p (W1z aI rfl),trivial⟩;show _=(putN f.l n).map nodA;unfold putN;rw [q1];simp [nodA,W17,W2f,Qat]))
theorem Zjm (f:Fsy) (i:Int) (hl:f.l.length≤90000) (hr:Qb1 f.l):Qai prog 223 [.agg (fsyA f),aI i] (.agg (fsyA (outF f i))):=by
 have hpl0:=Qf1 f.l i;exact Qae func223 (
 .new fun b1=>.new fun b2=>.u 2 [b1]<|
 .call (Qyc f i (by omega) hr)<|
 .r 5<|.r 2<|.br 14 (!(thN f.l i)) (fun q1=>have q1:=notT q1;have p1:=booF q1;.u 2 [b1,b2]<|
 .f (.agg (fsyA (outF f i))) [b2] (.agg (fsyA f)) (by exact W2t ⟨W2p (by rw [show (outF f i).l=f.l from by show outN f.l i=_;unfold outN;rw [W1x (by rw [q1];simp)]]),sR,trivial⟩))
 <| fun q1=>have q1:=notF q1;have p1:=booT q1;.ord [0,1,2,3,4,5,6,7,8,11,12,9,10,13,14]<|.u 3 [b1]<|
 .slc 5 false (f.l.map nodA) none (some (plN f.l i:Int)) none 0 (plN f.l i) false (.inl ⟨rfl,rfl⟩) (.inr rfl) (.inl ⟨rfl,fun h=>by cases h⟩) (by have hpl:=Qf1 f.l i;(try have hth:=Qgo (by assumption:thN f.l i=true));first | omega | (rw [W0a];omega)) (by have hpl:=Qf1 f.l i;(try have hth:=Qgo (by assumption:thN f.l i=true));first | omega | (rw [W0a];omega))<|
 .run 4 [b1=b1,rng .i64 ((plN f.l i:Int)+1)] ⟨rfl,Qah,trivial⟩<|
 .slc 5 false (f.l.map nodA) (some ((plN f.l i:Int)+1)) none none (plN f.l i+1) ((f.l.map nodA).length) false (.inr (W1z some (by omega))) (.inl ⟨rfl,rfl⟩) (.inl ⟨rfl,fun h=>by cases h⟩) (by have hpl:=Qf1 f.l i;(try have hth:=Qgo (by assumption:thN f.l i=true));first | omega | (rw [W0a];omega)) (by have hpl:=Qf1 f.l i;(try have hth:=Qgo (by assumption:thN f.l i=true));first | omega | (rw [W0a];omega))<|
 .u 3 [b1]<|
 .cs (args0:=[.sl 1 true ([[.sl 5 false (((f.l.map nodA).take (plN f.l i)).drop 0)],[.sl 5 false (((f.l.map nodA).take ((f.l.map nodA).length)).drop (plN f.l i+1))]])]) (Qhm [((f.l.map nodA).take (plN f.l i)).drop 0,((f.l.map nodA).take ((f.l.map nodA).length)).drop (plN f.l i+1)] (by simp) (by simp only [W1g,List.flatten_nil,W0e,W0g,W0p,W0a,W0b,W0f];omega)) ⟨pcs2 _ _,trivial⟩<|
 .u 2 [b2]<|
 .f (.agg (fsyA (outF f i))) [b2] (.agg [.sl 5 false ([((f.l.map nodA).take (plN f.l i)).drop 0,((f.l.map nodA).take ((f.l.map nodA).length)).drop (plN f.l i+1)].flatten),aI f.next]) (by
  refine W2t ⟨W2p (W1z (AV.sl 5 false) ?_),sR,trivial⟩;show _=(outN f.l i).map nodA;unfold outN;rw [W1y q1];simp [W17,W2f,Qat]))
theorem Qd4 (f:Fsy) (n:Nod) (hn:I64 n.ino∧n.ino<9223372036854775807) (hl:f.l.length≤90000) (hr:Qb1 f.l):Qai prog 119 [.agg (fsyA f),.agg (nodA n)] (.agg (fsyA (putF f n))):=by
 have hn1:=hn.1.1;exact Qae func119 (
 .new fun b1=>.new fun b2=>.new fun b3=>.u 3 [b1]<|
 .new fun b4=>.u 1 [b4]<|
 .run 6 [b2=b2,rng .i64 (n.ino+1),b4=b4] ⟨rfl,Qah,rfl,trivial⟩<|
 .bd 15 ((n.ino+1)>f.next) (fun p1=>.run 5 [b2=b2,rng .i64 (n.ino+1),b4=b4] ⟨rfl,Qah,rfl,trivial⟩<|
 .rowNilB 100 5 0 84 5<|.r 1<|let L1:Lp (Nat × Value):=⟨fun a1=>⟨[(2,.ptr 2 b1 0),(3,.ptr 3 b2 0),(4,.ptr 4 b3 0),(5,.ptr 5 b4 0),(6,aI (a1.1:Int))],[(2,.box b1 28 (fsyA f)),(3,.box b2 84 (nodA n)),(4,.box b3 28 [aN,aI 0]),(5,.box b4 28 [.rw 100 a1.2 ((f.l.take a1.1).length),aI (n.ino+1)]),(100,.row a1.2 84 5 ((f.l.take a1.1).map nodA))]⟩,fun a1=>f.l.length-a1.1,fun a1=>a1.1≤f.l.length∧Qba (fun _ x=>x.ino<n.ino) f.l a1.1⟩
 .lp L1 (0,.slice none 0 0) ⟨W0j _,Qba.zero _ _⟩ [(6,aI 0)] [(5,.box b4 28 [.rw 100 (.slice none 0 0) 0,aI (n.ino+1)]),(100,.row (.slice none 0 0) 84 5 ([]))] ⟨sR,sR,sR,sR,sO,trivial⟩ ⟨sB,sB,sB,⟨_,rfl,W2u ⟨W2p (W1z (AV.rw 100 (.slice none 0 0)) (by simp)),sR,trivial⟩⟩,⟨_,rfl,W2q (by simp)⟩,trivial⟩ fun a1 ha1=>
 (fun (k:Nat) (V:Value) (hH1:k≤f.l.length∧Qba (fun _ x=>x.ino<n.ino) f.l k)=>.ord [0,1,2,3,4,5,6,7,8,9,10,11,12,13,14,15]<|.u 4 [b1]<|
 .lm 23 f.l nodA<|.r 2<|.bd 25 ((k:Int)<(f.l.length:Int)) (fun p2=>.u 3 [b1]<|
 .idxM f.l nodA k (m:=(k:Int)) rfl (by omega) fun x1 hx1=>
 .u 6 [b2]<|
 .bd 35 (x1.ino<n.ino) (fun p3=>.ord [0,1,2,3,4,5,6,7,8,9,10]<|.u 5 [b4,b1]<|
 .idx k (m:=(k:Int)) (xs:=f.l.map nodA) (e:=nodA x1) rfl (map_some hx1)<|
 .r 2<|.app 64 V ((f.l.take k).map nodA) ([(nodA x1)]) (by first | (simp;omega) | (have:=Qcs f.l n k j (by omega) (by omega);simp only [W0a,W0b,W0f,W0g];omega) | (simp only [W0a,W0b,W0f,W0g];omega)) (by first | (simp;omega) | (have:=Qcs f.l n k j (by omega) (by omega);simp only [W0a,W0b,W0f,W0g];omega) | (simp only [W0a,W0b,W0f,W0g];omega)) fun V1=>
 .u 2 [b4]<|
 .run 3 [rng .i64 ((k:Int)+1)] ⟨Qah,trivial⟩<|
 .bk L1 (k,V) ((k+1),V1) ⟨by omega,hH1.2.step hx1 (by omega)⟩ (show f.l.length-(k+1)<f.l.length-k from (by omega)) [(6,aI ((k:Int)+1))] [(5,.box b4 28 [.rw 100 V1 (((f.l.take k).map nodA).length+([(nodA x1)]:List (List AV)).length),aI (n.ino+1)]),(100,.row V1 84 5 (((f.l.take k).map nodA)++([(nodA x1)])))] ⟨sR,sR,sR,sR,sO,trivial⟩ ⟨sB,sB,sB,⟨_,rfl,W2u ⟨W2p (W1z (AV.rw 100 V1) (by rw [Qam hx1];simp)),sR,trivial⟩⟩,⟨_,rfl,W2q (by rw [Qam hx1];simp [nodA])⟩,trivial⟩)
 <| fun p3=>.u 4 [b4,b2]<|
 .app 64 V ((f.l.take k).map nodA) ([(nodA n)]) (by first | (simp;omega) | (have:=Qcs f.l n k j (by omega) (by omega);simp only [W0a,W0b,W0f,W0g];omega) | (simp only [W0a,W0b,W0f,W0g];omega)) (by first | (simp;omega) | (have:=Qcs f.l n k j (by omega) (by omega);simp only [W0a,W0b,W0f,W0g];omega) | (simp only [W0a,W0b,W0f,W0g];omega)) fun V2=>
 .u 2 [b4]<|
 let L2:Lp (Nat × Value):=⟨fun a2=>⟨[(2,.ptr 2 b1 0),(3,.ptr 3 b2 0),(4,.ptr 4 b3 0),(5,.ptr 5 b4 0),(6,aI (a2.1:Int))],[(2,.box b1 28 (fsyA f)),(3,.box b2 84 (nodA n)),(4,.box b3 28 [aN,aI 0]),(5,.box b4 28 [.rw 100 a2.2 ((putK f.l n k a2.1).length),aI (n.ino+1)]),(100,.row a2.2 84 5 ((putK f.l n k a2.1).map nodA))]⟩,fun a2=>f.l.length-a2.1,fun a2=>k≤a2.1∧a2.1≤f.l.length⟩
 .lp L2 (k,V2) ⟨W0m _,by omega⟩ [] [(5,.box b4 28 [.rw 100 V2 (((f.l.take k).map nodA).length+([(nodA n)]:List (List AV)).length),aI (n.ino+1)]),(100,.row V2 84 5 (((f.l.take k).map nodA)++([(nodA n)])))] sr5 ⟨sB,sB,sB,⟨_,rfl,W2u ⟨W2p (W1z (AV.rw 100 V2) (by simp [putK])),sR,trivial⟩⟩,⟨_,rfl,W2q (by simp [putK,nodA])⟩,trivial⟩ fun a2 ha2=>
 (fun (j:Nat) (V:Value) (hH2:k≤j∧j≤f.l.length)=>.u 4 [b1]<|
 .lm 57 f.l nodA<|.r 1<|.bd 58 ((j:Int)<(f.l.length:Int)) (fun p4=>.ord [0,1,2,3,4,5,6,7,8]<|.u 3 [b1]<|
 .idxM f.l nodA j (m:=(j:Int)) rfl (by omega) fun x2 hx2=>
 .u 5 [b2]<|
 .br 67 (x2.ino != n.ino) (fun q5=>have p5:=bneT q5;.ord [0,1,2,3,4,5,6,7,8,9,10]<|.u 5 [b4,b1]<|
 .idx j (m:=(j:Int)) (xs:=f.l.map nodA) (e:=nodA x2) rfl (map_some hx2)<|
 .r 2<|.app 64 V ((putK f.l n k j).map nodA) ([(nodA x2)]) (by first | (simp;omega) | (have:=Qcs f.l n k j (by omega) (by omega);simp only [W0a,W0b,W0f,W0g];omega) | (simp only [W0a,W0b,W0f,W0g];omega)) (by first | (simp;omega) | (have:=Qcs f.l n k j (by omega) (by omega);simp only [W0a,W0b,W0f,W0g];omega) | (simp only [W0a,W0b,W0f,W0g];omega)) fun V3=>
 .u 2 [b4]<|
 .run 3 [rng .i64 ((j:Int)+1)] ⟨Qah,trivial⟩<|
 .bk L2 (j,V) ((j+1),V3) (show k≤(j+1)∧(j+1)≤f.l.length from (by show _≤_∧_;omega)) (show f.l.length-(j+1)<f.l.length-j from (by omega)) [(6,aI ((j:Int)+1))] [(5,.box b4 28 [.rw 100 V3 (((putK f.l n k j).map nodA).length+([(nodA x2)]:List (List AV)).length),aI (n.ino+1)]),(100,.row V3 84 5 (((putK f.l n k j).map nodA)++([(nodA x2)])))] ⟨sR,sR,sR,sR,sO,trivial⟩ ⟨sB,sB,sB,⟨_,rfl,W2u ⟨W2p (W1z (AV.rw 100 V3) (by rw [Qf0 hx2 (by omega) q5];simp)),sR,trivial⟩⟩,⟨_,rfl,W2q (by rw [Qf0 hx2 (by omega) q5];simp [nodA])⟩,trivial⟩)
 <| fun q5=>have p5:=bneF q5;.run 3 [rng .i64 ((j:Int)+1)] ⟨Qah,trivial⟩<|
 .bk L2 (j,V) ((j+1),V) (show k≤(j+1)∧(j+1)≤f.l.length from (by show _≤_∧_;omega)) (show f.l.length-(j+1)<f.l.length-j from (by omega)) [(6,aI ((j:Int)+1))] [(5,.box b4 28 [.rw 100 V ((putK f.l n k j).length),aI (n.ino+1)]),(100,.row V 84 5 ((putK f.l n k j).map nodA))] ⟨sR,sR,sR,sR,sO,trivial⟩ ⟨sB,sB,sB,⟨_,rfl,W2u ⟨W2p (W1z (AV.rw 100 V) (by rw [Qh9 hx2 (by omega) q5])),sR,trivial⟩⟩,⟨_,rfl,W2q (by rw [Qh9 hx2 (by omega) q5])⟩,trivial⟩)
 <| fun p4=>.u 2 [b4,b3]<|
 .frz 100 [4] [4] [V=V,(putK f.l n k j).length=((putK f.l n k j).map nodA).length] ⟨rfl,(by first | rfl | (simp;done) | (simp;omega)),trivial⟩<|
 .f (.agg (fsyA (putF f n))) [b3] (.agg [.sl 5 false ((putK f.l n k j).map nodA),aI (n.ino+1)]) (by exact W2t ⟨W2p (by rw [Qm3 hr (by omega) (Qgn hH1.1 hH1.2 (fun x hx=>by rw [hx1] at hx;obtain rfl:=W0c hx;omega))];rfl),W2p (W1z aI (show _=(if n.ino+1>f.next then n.ino+1 else f.next) from (W1y (by omega)).symm)),trivial⟩)) a2.1 a2.2 ha2)
 <| fun p2=>.r 10<|.u 4 [b4,b2]<|
 .app 64 V ((f.l.take k).map nodA) ([(nodA n)]) (by first | (simp;omega) | (have:=Qcs f.l n k j (by omega) (by omega);simp only [W0a,W0b,W0f,W0g];omega) | (simp only [W0a,W0b,W0f,W0g];omega)) (by first | (simp;omega) | (have:=Qcs f.l n k j (by omega) (by omega);simp only [W0a,W0b,W0f,W0g];omega) | (simp only [W0a,W0b,W0f,W0g];omega)) fun V4=>
 .u 2 [b4]<|
 let L2:Lp (Nat × Value):=⟨fun a2=>⟨[(2,.ptr 2 b1 0),(3,.ptr 3 b2 0),(4,.ptr 4 b3 0),(5,.ptr 5 b4 0),(6,aI (a2.1:Int))],[(2,.box b1 28 (fsyA f)),(3,.box b2 84 (nodA n)),(4,.box b3 28 [aN,aI 0]),(5,.box b4 28 [.rw 100 a2.2 ((putK f.l n k a2.1).length),aI (n.ino+1)]),(100,.row a2.2 84 5 ((putK f.l n k a2.1).map nodA))]⟩,fun a2=>f.l.length-a2.1,fun a2=>k≤a2.1∧a2.1≤f.l.length⟩
 .lp L2 (k,V4) ⟨W0m _,by omega⟩ [] [(5,.box b4 28 [.rw 100 V4 (((f.l.take k).map nodA).length+([(nodA n)]:List (List AV)).length),aI (n.ino+1)]),(100,.row V4 84 5 (((f.l.take k).map nodA)++([(nodA n)])))] sr5 ⟨sB,sB,sB,⟨_,rfl,W2u ⟨W2p (W1z (AV.rw 100 V4) (by simp [putK])),sR,trivial⟩⟩,⟨_,rfl,W2q (by simp [putK,nodA])⟩,trivial⟩ fun a2 ha2=>
 (fun (j:Nat) (V:Value) (hH2:k≤j∧j≤f.l.length)=>.u 4 [b1]<|
 .lm 57 f.l nodA<|.r 1<|.bd 58 ((j:Int)<(f.l.length:Int)) (fun p6=>.ord [0,1,2,3,4,5,6,7,8]<|.u 3 [b1]<|
 .idxM f.l nodA j (m:=(j:Int)) rfl (by omega) fun x3 hx3=>
 .u 5 [b2]<|
 .br 67 (x3.ino != n.ino) (fun q7=>have p7:=bneT q7;.ord [0,1,2,3,4,5,6,7,8,9,10]<|.u 5 [b4,b1]<|
 .idx j (m:=(j:Int)) (xs:=f.l.map nodA) (e:=nodA x3) rfl (map_some hx3)<|
 .r 2<|.app 64 V ((putK f.l n k j).map nodA) ([(nodA x3)]) (by first | (simp;omega) | (have:=Qcs f.l n k j (by omega) (by omega);simp only [W0a,W0b,W0f,W0g];omega) | (simp only [W0a,W0b,W0f,W0g];omega)) (by first | (simp;omega) | (have:=Qcs f.l n k j (by omega) (by omega);simp only [W0a,W0b,W0f,W0g];omega) | (simp only [W0a,W0b,W0f,W0g];omega)) fun V5=>
 .u 2 [b4]<|
 .run 3 [rng .i64 ((j:Int)+1)] ⟨Qah,trivial⟩<|
 .bk L2 (j,V) ((j+1),V5) (show k≤(j+1)∧(j+1)≤f.l.length from (by show _≤_∧_;omega)) (show f.l.length-(j+1)<f.l.length-j from (by omega)) [(6,aI ((j:Int)+1))] [(5,.box b4 28 [.rw 100 V5 (((putK f.l n k j).map nodA).length+([(nodA x3)]:List (List AV)).length),aI (n.ino+1)]),(100,.row V5 84 5 (((putK f.l n k j).map nodA)++([(nodA x3)])))] ⟨sR,sR,sR,sR,sO,trivial⟩ ⟨sB,sB,sB,⟨_,rfl,W2u ⟨W2p (W1z (AV.rw 100 V5) (by rw [Qf0 hx3 (by omega) q7];simp)),sR,trivial⟩⟩,⟨_,rfl,W2q (by rw [Qf0 hx3 (by omega) q7];simp [nodA])⟩,trivial⟩)
 <| fun q7=>have p7:=bneF q7;.run 3 [rng .i64 ((j:Int)+1)] ⟨Qah,trivial⟩<|
 .bk L2 (j,V) ((j+1),V) (show k≤(j+1)∧(j+1)≤f.l.length from (by show _≤_∧_;omega)) (show f.l.length-(j+1)<f.l.length-j from (by omega)) [(6,aI ((j:Int)+1))] [(5,.box b4 28 [.rw 100 V ((putK f.l n k j).length),aI (n.ino+1)]),(100,.row V 84 5 ((putK f.l n k j).map nodA))] ⟨sR,sR,sR,sR,sO,trivial⟩ ⟨sB,sB,sB,⟨_,rfl,W2u ⟨W2p (W1z (AV.rw 100 V) (by rw [Qh9 hx3 (by omega) q7])),sR,trivial⟩⟩,⟨_,rfl,W2q (by rw [Qh9 hx3 (by omega) q7])⟩,trivial⟩)
 <| fun p6=>.u 2 [b4,b3]<|
 .frz 100 [4] [4] [V=V,(putK f.l n k j).length=((putK f.l n k j).map nodA).length] ⟨rfl,(by first | rfl | (simp;done) | (simp;omega)),trivial⟩<|
 .f (.agg (fsyA (putF f n))) [b3] (.agg [.sl 5 false ((putK f.l n k j).map nodA),aI (n.ino+1)]) (by exact W2t ⟨W2p (by rw [Qm3 hr (by omega) (Qgn hH1.1 hH1.2 (fun x hx=>by have:=Qap hx;omega))];rfl),W2p (W1z aI (show _=(if n.ino+1>f.next then n.ino+1 else f.next) from (W1y (by omega)).symm)),trivial⟩)) a2.1 a2.2 ha2) a1.1 a1.2 ha1)
 <| fun p1=>.rowNilB 100 5 0 84 5<|.r 1<|let L1:Lp (Nat × Value):=⟨fun a1=>⟨[(2,.ptr 2 b1 0),(3,.ptr 3 b2 0),(4,.ptr 4 b3 0),(5,.ptr 5 b4 0),(6,aI (a1.1:Int))],[(2,.box b1 28 (fsyA f)),(3,.box b2 84 (nodA n)),(4,.box b3 28 [aN,aI 0]),(5,.box b4 28 [.rw 100 a1.2 ((f.l.take a1.1).length),aI f.next]),(100,.row a1.2 84 5 ((f.l.take a1.1).map nodA))]⟩,fun a1=>f.l.length-a1.1,fun a1=>a1.1≤f.l.length∧Qba (fun _ x=>x.ino<n.ino) f.l a1.1⟩
 .lp L1 (0,.slice none 0 0) ⟨W0j _,Qba.zero _ _⟩ [(6,aI 0)] [(5,.box b4 28 [.rw 100 (.slice none 0 0) 0,aI f.next]),(100,.row (.slice none 0 0) 84 5 ([]))] ⟨sR,sR,sR,sR,sO,trivial⟩ ⟨sB,sB,sB,⟨_,rfl,W2u ⟨W2p (W1z (AV.rw 100 (.slice none 0 0)) (by simp)),sR,trivial⟩⟩,⟨_,rfl,W2q (by simp)⟩,trivial⟩ fun a1 ha1=>
 (fun (k:Nat) (V:Value) (hH1:k≤f.l.length∧Qba (fun _ x=>x.ino<n.ino) f.l k)=>.ord [0,1,2,3,4,5,6,7,8,9,10,11,12,13,14,15]<|.u 4 [b1]<|
 .lm 23 f.l nodA<|.r 2<|.bd 25 ((k:Int)<(f.l.length:Int)) (fun p8=>.u 3 [b1]<|
 .idxM f.l nodA k (m:=(k:Int)) rfl (by omega) fun x4 hx4=>
 .u 6 [b2]<|
 .bd 35 (x4.ino<n.ino) (fun p9=>.ord [0,1,2,3,4,5,6,7,8,9,10]<|.u 5 [b4,b1]<|
 .idx k (m:=(k:Int)) (xs:=f.l.map nodA) (e:=nodA x4) rfl (map_some hx4)<|
 .r 2<|.app 64 V ((f.l.take k).map nodA) ([(nodA x4)]) (by first | (simp;omega) | (have:=Qcs f.l n k j (by omega) (by omega);simp only [W0a,W0b,W0f,W0g];omega) | (simp only [W0a,W0b,W0f,W0g];omega)) (by first | (simp;omega) | (have:=Qcs f.l n k j (by omega) (by omega);simp only [W0a,W0b,W0f,W0g];omega) | (simp only [W0a,W0b,W0f,W0g];omega)) fun V6=>
 .u 2 [b4]<|
 .run 3 [rng .i64 ((k:Int)+1)] ⟨Qah,trivial⟩<|
 .bk L1 (k,V) ((k+1),V6) ⟨by omega,hH1.2.step hx4 (by omega)⟩ (show f.l.length-(k+1)<f.l.length-k from (by omega)) [(6,aI ((k:Int)+1))] [(5,.box b4 28 [.rw 100 V6 (((f.l.take k).map nodA).length+([(nodA x4)]:List (List AV)).length),aI f.next]),(100,.row V6 84 5 (((f.l.take k).map nodA)++([(nodA x4)])))] ⟨sR,sR,sR,sR,sO,trivial⟩ ⟨sB,sB,sB,⟨_,rfl,W2u ⟨W2p (W1z (AV.rw 100 V6) (by rw [Qam hx4];simp)),sR,trivial⟩⟩,⟨_,rfl,W2q (by rw [Qam hx4];simp [nodA])⟩,trivial⟩)
 <| fun p9=>.u 4 [b4,b2]<|
 .app 64 V ((f.l.take k).map nodA) ([(nodA n)]) (by first | (simp;omega) | (have:=Qcs f.l n k j (by omega) (by omega);simp only [W0a,W0b,W0f,W0g];omega) | (simp only [W0a,W0b,W0f,W0g];omega)) (by first | (simp;omega) | (have:=Qcs f.l n k j (by omega) (by omega);simp only [W0a,W0b,W0f,W0g];omega) | (simp only [W0a,W0b,W0f,W0g];omega)) fun V7=>
 .u 2 [b4]<|
 let L2:Lp (Nat × Value):=⟨fun a2=>⟨[(2,.ptr 2 b1 0),(3,.ptr 3 b2 0),(4,.ptr 4 b3 0),(5,.ptr 5 b4 0),(6,aI (a2.1:Int))],[(2,.box b1 28 (fsyA f)),(3,.box b2 84 (nodA n)),(4,.box b3 28 [aN,aI 0]),(5,.box b4 28 [.rw 100 a2.2 ((putK f.l n k a2.1).length),aI f.next]),(100,.row a2.2 84 5 ((putK f.l n k a2.1).map nodA))]⟩,fun a2=>f.l.length-a2.1,fun a2=>k≤a2.1∧a2.1≤f.l.length⟩
 .lp L2 (k,V7) ⟨W0m _,by omega⟩ [] [(5,.box b4 28 [.rw 100 V7 (((f.l.take k).map nodA).length+([(nodA n)]:List (List AV)).length),aI f.next]),(100,.row V7 84 5 (((f.l.take k).map nodA)++([(nodA n)])))] sr5 ⟨sB,sB,sB,⟨_,rfl,W2u ⟨W2p (W1z (AV.rw 100 V7) (by simp [putK])),sR,trivial⟩⟩,⟨_,rfl,W2q (by simp [putK,nodA])⟩,trivial⟩ fun a2 ha2=>
 (fun (j:Nat) (V:Value) (hH2:k≤j∧j≤f.l.length)=>.u 4 [b1]<|
 .lm 57 f.l nodA<|.r 1<|.bd 58 ((j:Int)<(f.l.length:Int)) (fun p10=>.ord [0,1,2,3,4,5,6,7,8]<|.u 3 [b1]<|
 .idxM f.l nodA j (m:=(j:Int)) rfl (by omega) fun x5 hx5=>
 .u 5 [b2]<|
 .br 67 (x5.ino != n.ino) (fun q11=>have p11:=bneT q11;.ord [0,1,2,3,4,5,6,7,8,9,10]<|.u 5 [b4,b1]<|
 .idx j (m:=(j:Int)) (xs:=f.l.map nodA) (e:=nodA x5) rfl (map_some hx5)<|
 .r 2<|.app 64 V ((putK f.l n k j).map nodA) ([(nodA x5)]) (by first | (simp;omega) | (have:=Qcs f.l n k j (by omega) (by omega);simp only [W0a,W0b,W0f,W0g];omega) | (simp only [W0a,W0b,W0f,W0g];omega)) (by first | (simp;omega) | (have:=Qcs f.l n k j (by omega) (by omega);simp only [W0a,W0b,W0f,W0g];omega) | (simp only [W0a,W0b,W0f,W0g];omega)) fun V8=>
 .u 2 [b4]<|
 .run 3 [rng .i64 ((j:Int)+1)] ⟨Qah,trivial⟩<|
 .bk L2 (j,V) ((j+1),V8) (show k≤(j+1)∧(j+1)≤f.l.length from (by show _≤_∧_;omega)) (show f.l.length-(j+1)<f.l.length-j from (by omega)) [(6,aI ((j:Int)+1))] [(5,.box b4 28 [.rw 100 V8 (((putK f.l n k j).map nodA).length+([(nodA x5)]:List (List AV)).length),aI f.next]),(100,.row V8 84 5 (((putK f.l n k j).map nodA)++([(nodA x5)])))] ⟨sR,sR,sR,sR,sO,trivial⟩ ⟨sB,sB,sB,⟨_,rfl,W2u ⟨W2p (W1z (AV.rw 100 V8) (by rw [Qf0 hx5 (by omega) q11];simp)),sR,trivial⟩⟩,⟨_,rfl,W2q (by rw [Qf0 hx5 (by omega) q11];simp [nodA])⟩,trivial⟩)
 <| fun q11=>have p11:=bneF q11;.run 3 [rng .i64 ((j:Int)+1)] ⟨Qah,trivial⟩<|
 .bk L2 (j,V) ((j+1),V) (show k≤(j+1)∧(j+1)≤f.l.length from (by show _≤_∧_;omega)) (show f.l.length-(j+1)<f.l.length-j from (by omega)) [(6,aI ((j:Int)+1))] [(5,.box b4 28 [.rw 100 V ((putK f.l n k j).length),aI f.next]),(100,.row V 84 5 ((putK f.l n k j).map nodA))] ⟨sR,sR,sR,sR,sO,trivial⟩ ⟨sB,sB,sB,⟨_,rfl,W2u ⟨W2p (W1z (AV.rw 100 V) (by rw [Qh9 hx5 (by omega) q11])),sR,trivial⟩⟩,⟨_,rfl,W2q (by rw [Qh9 hx5 (by omega) q11])⟩,trivial⟩)
 <| fun p10=>.u 2 [b4,b3]<|
 .frz 100 [4] [4] [V=V,(putK f.l n k j).length=((putK f.l n k j).map nodA).length] ⟨rfl,(by first | rfl | (simp;done) | (simp;omega)),trivial⟩<|
 .f (.agg (fsyA (putF f n))) [b3] (.agg [.sl 5 false ((putK f.l n k j).map nodA),aI f.next]) (by exact W2t ⟨W2p (by rw [Qm3 hr (by omega) (Qgn hH1.1 hH1.2 (fun x hx=>by rw [hx4] at hx;obtain rfl:=W0c hx;omega))];rfl),W2p (W1z aI (show _=(if n.ino+1>f.next then n.ino+1 else f.next) from (W1x (by omega)).symm)),trivial⟩)) a2.1 a2.2 ha2)
 <| fun p8=>.r 10<|.u 4 [b4,b2]<|
 .app 64 V ((f.l.take k).map nodA) ([(nodA n)]) (by first | (simp;omega) | (have:=Qcs f.l n k j (by omega) (by omega);simp only [W0a,W0b,W0f,W0g];omega) | (simp only [W0a,W0b,W0f,W0g];omega)) (by first | (simp;omega) | (have:=Qcs f.l n k j (by omega) (by omega);simp only [W0a,W0b,W0f,W0g];omega) | (simp only [W0a,W0b,W0f,W0g];omega)) fun V9=>
 .u 2 [b4]<|
 let L2:Lp (Nat × Value):=⟨fun a2=>⟨[(2,.ptr 2 b1 0),(3,.ptr 3 b2 0),(4,.ptr 4 b3 0),(5,.ptr 5 b4 0),(6,aI (a2.1:Int))],[(2,.box b1 28 (fsyA f)),(3,.box b2 84 (nodA n)),(4,.box b3 28 [aN,aI 0]),(5,.box b4 28 [.rw 100 a2.2 ((putK f.l n k a2.1).length),aI f.next]),(100,.row a2.2 84 5 ((putK f.l n k a2.1).map nodA))]⟩,fun a2=>f.l.length-a2.1,fun a2=>k≤a2.1∧a2.1≤f.l.length⟩
 .lp L2 (k,V9) ⟨W0m _,by omega⟩ [] [(5,.box b4 28 [.rw 100 V9 (((f.l.take k).map nodA).length+([(nodA n)]:List (List AV)).length),aI f.next]),(100,.row V9 84 5 (((f.l.take k).map nodA)++([(nodA n)])))] sr5 ⟨sB,sB,sB,⟨_,rfl,W2u ⟨W2p (W1z (AV.rw 100 V9) (by simp [putK])),sR,trivial⟩⟩,⟨_,rfl,W2q (by simp [putK,nodA])⟩,trivial⟩ fun a2 ha2=>
 (fun (j:Nat) (V:Value) (hH2:k≤j∧j≤f.l.length)=>.u 4 [b1]<|
 .lm 57 f.l nodA<|.r 1<|.bd 58 ((j:Int)<(f.l.length:Int)) (fun p12=>.ord [0,1,2,3,4,5,6,7,8]<|.u 3 [b1]<|
 .idxM f.l nodA j (m:=(j:Int)) rfl (by omega) fun x6 hx6=>
 .u 5 [b2]<|
 .br 67 (x6.ino != n.ino) (fun q13=>have p13:=bneT q13;.ord [0,1,2,3,4,5,6,7,8,9,10]<|.u 5 [b4,b1]<|
 .idx j (m:=(j:Int)) (xs:=f.l.map nodA) (e:=nodA x6) rfl (map_some hx6)<|
 .r 2<|.app 64 V ((putK f.l n k j).map nodA) ([(nodA x6)]) (by first | (simp;omega) | (have:=Qcs f.l n k j (by omega) (by omega);simp only [W0a,W0b,W0f,W0g];omega) | (simp only [W0a,W0b,W0f,W0g];omega)) (by first | (simp;omega) | (have:=Qcs f.l n k j (by omega) (by omega);simp only [W0a,W0b,W0f,W0g];omega) | (simp only [W0a,W0b,W0f,W0g];omega)) fun V10=>
 .u 2 [b4]<|
 .run 3 [rng .i64 ((j:Int)+1)] ⟨Qah,trivial⟩<|
 .bk L2 (j,V) ((j+1),V10) (show k≤(j+1)∧(j+1)≤f.l.length from (by show _≤_∧_;omega)) (show f.l.length-(j+1)<f.l.length-j from (by omega)) [(6,aI ((j:Int)+1))] [(5,.box b4 28 [.rw 100 V10 (((putK f.l n k j).map nodA).length+([(nodA x6)]:List (List AV)).length),aI f.next]),(100,.row V10 84 5 (((putK f.l n k j).map nodA)++([(nodA x6)])))] ⟨sR,sR,sR,sR,sO,trivial⟩ ⟨sB,sB,sB,⟨_,rfl,W2u ⟨W2p (W1z (AV.rw 100 V10) (by rw [Qf0 hx6 (by omega) q13];simp)),sR,trivial⟩⟩,⟨_,rfl,W2q (by rw [Qf0 hx6 (by omega) q13];simp [nodA])⟩,trivial⟩)
 <| fun q13=>have p13:=bneF q13;.run 3 [rng .i64 ((j:Int)+1)] ⟨Qah,trivial⟩<|
 .bk L2 (j,V) ((j+1),V) (show k≤(j+1)∧(j+1)≤f.l.length from (by show _≤_∧_;omega)) (show f.l.length-(j+1)<f.l.length-j from (by omega)) [(6,aI ((j:Int)+1))] [(5,.box b4 28 [.rw 100 V ((putK f.l n k j).length),aI f.next]),(100,.row V 84 5 ((putK f.l n k j).map nodA))] ⟨sR,sR,sR,sR,sO,trivial⟩ ⟨sB,sB,sB,⟨_,rfl,W2u ⟨W2p (W1z (AV.rw 100 V) (by rw [Qh9 hx6 (by omega) q13])),sR,trivial⟩⟩,⟨_,rfl,W2q (by rw [Qh9 hx6 (by omega) q13])⟩,trivial⟩)
 <| fun p12=>.u 2 [b4,b3]<|
 .frz 100 [4] [4] [V=V,(putK f.l n k j).length=((putK f.l n k j).map nodA).length] ⟨rfl,(by first | rfl | (simp;done) | (simp;omega)),trivial⟩<|
 .f (.agg (fsyA (putF f n))) [b3] (.agg [.sl 5 false ((putK f.l n k j).map nodA),aI f.next]) (by exact W2t ⟨W2p (by rw [Qm3 hr (by omega) (Qgn hH1.1 hH1.2 (fun x hx=>by have:=Qap hx;omega))];rfl),W2p (W1z aI (show _=(if n.ino+1>f.next then n.ino+1 else f.next) from (W1x (by omega)).symm)),trivial⟩)) a2.1 a2.2 ha2) a1.1 a1.2 ha1)
theorem Zeb (f:Fsy) (i:Int) (hl:f.l.length≤90000) (hr:Qb1 f.l):Qai prog 167 [.agg (fsyA f),aI i] (.agg (fsyA (outF f i))):=by
 exact Qae func167 (
 .new fun b1=>.new fun b2=>.u 3 [b1]<|
 .new fun b3=>.u 1 [b3]<|
 .rowNilB 100 5 0 84 5<|.r 1<|let L1:Lp (Nat × Value):=⟨fun a1=>⟨[(1,aI i),(2,.ptr 2 b1 0),(4,.ptr 4 b2 0),(5,.ptr 5 b3 0),(6,aI (a1.1:Int))],[(2,.box b1 28 (fsyA f)),(4,.box b2 28 [aN,aI 0]),(5,.box b3 28 [.rw 100 a1.2 ((outK f.l i a1.1).length),aI f.next]),(100,.row a1.2 84 5 ((outK f.l i a1.1).map nodA))]⟩,fun a1=>f.l.length-a1.1,fun a1=>a1.1≤f.l.length⟩
 .lp L1 (0,.slice none 0 0) (show 0≤f.l.length from W0j _) [(6,aI 0)] [(5,.box b3 28 [.rw 100 (.slice none 0 0) 0,aI f.next]),(100,.row (.slice none 0 0) 84 5 ([]))] ⟨sR,sR,sR,sR,sO,trivial⟩ ⟨sB,sB,⟨_,rfl,W2u ⟨W2p (W1z (AV.rw 100 (.slice none 0 0)) (by simp [outK])),sR,trivial⟩⟩,⟨_,rfl,W2q (by simp [outK])⟩,trivial⟩ fun a1 ha1=>
 (fun (k:Nat) (V:Value) (hH1:k≤f.l.length)=>.u 4 [b1]<|
 .lm 13 f.l nodA<|.r 1<|.bd 14 ((k:Int)<(f.l.length:Int)) (fun p1=>.u 3 [b1]<|
 .idxM f.l nodA k (m:=(k:Int)) rfl (by omega) fun x1 hx1=>
 .r 4<|.br 24 (x1.ino != i) (fun q2=>have p2:=bneT q2;.ord [0,1,2,3,4,5,6,7,8,9,10]<|.u 5 [b3,b1]<|
 .idx k (m:=(k:Int)) (xs:=f.l.map nodA) (e:=nodA x1) rfl (map_some hx1)<|
 .r 2<|.app 64 V ((outK f.l i k).map nodA) ([(nodA x1)]) (by have:=Ze8 f.l i k;simp only [W0a,W0b,W0f];omega) (by have:=Ze8 f.l i k;simp only [W0a,W0b,W0f];omega) fun V1=>
 .u 2 [b3]<|
 .run 3 [rng .i64 ((k:Int)+1)] ⟨Qah,trivial⟩<|
 .bk L1 (k,V) ((k+1),V1) (show (k+1)≤f.l.length from (by show _≤_;omega)) (show f.l.length-(k+1)<f.l.length-k from (by omega)) [(6,aI ((k:Int)+1))] [(5,.box b3 28 [.rw 100 V1 (((outK f.l i k).map nodA).length+([(nodA x1)]:List (List AV)).length),aI f.next]),(100,.row V1 84 5 (((outK f.l i k).map nodA)++([(nodA x1)])))] ⟨sR,sR,sR,sR,sO,trivial⟩ ⟨sB,sB,⟨_,rfl,W2u ⟨W2p (W1z (AV.rw 100 V1) (by rw [Qy5 hx1 q2];simp)),sR,trivial⟩⟩,⟨_,rfl,W2q (by rw [Qy5 hx1 q2];simp [nodA])⟩,trivial⟩)
 <| fun q2=>have p2:=bneF q2;.run 3 [rng .i64 ((k:Int)+1)] ⟨Qah,trivial⟩<|
 .bk L1 (k,V) ((k+1),V) (show (k+1)≤f.l.length from (by show _≤_;omega)) (show f.l.length-(k+1)<f.l.length-k from (by omega)) [(6,aI ((k:Int)+1))] [(5,.box b3 28 [.rw 100 V ((outK f.l i k).length),aI f.next]),(100,.row V 84 5 ((outK f.l i k).map nodA))] ⟨sR,sR,sR,sR,sO,trivial⟩ ⟨sB,sB,⟨_,rfl,W2u ⟨W2p (W1z (AV.rw 100 V) (by rw [Ze7 hx1 q2])),sR,trivial⟩⟩,⟨_,rfl,W2q (by rw [Ze7 hx1 q2])⟩,trivial⟩)
 <| fun p1=>.u 2 [b3,b2]<|
 .frz 100 [4] [4] [V=V,(outK f.l i k).length=((outK f.l i k).map nodA).length] ⟨rfl,(by first | rfl | (simp;done) | (simp;omega)),trivial⟩<|
 .f (.agg (fsyA (outF f i))) [b2] (.agg [.sl 5 false ((outK f.l i k).map nodA),aI f.next]) (by exact W2t ⟨W2p (by rw [Zjn hr (by omega)];rfl),sR,trivial⟩)) a1.1 a1.2 ha1)
end Go.Proofs.YtahlldgocpabjaaGreat
