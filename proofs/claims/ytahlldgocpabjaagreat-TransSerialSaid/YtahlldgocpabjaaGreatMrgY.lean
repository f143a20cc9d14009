import Derived.Test.YtahlldgocpabjaaGreatAl
import Derived.Test.YtahlldgocpabjaaGreatShelf
import Derived.Sort.OwnSortedInts
import Derived.Test.YtahlldgocpabjaaGreatMrgX
set_option maxRecDepth 100000
set_option maxHeartbeats 8000000
set_option linter.unusedVariables false
set_option linter.unusedSimpArgs false
namespace Go.Proofs.YtahlldgocpabjaaGreat
open Go Go.RowKit Copyhold Go.Proofs.Tryz
theorem Qsb:∀ (l:List Int),(l.map intA).flatten=l.map aI
 | []=>rfl
 | x :: r=>by
  rw [W1u,W1g,Qsb r];rfl
theorem Zd9 {D:Nat→Prop} {w:World} {V:Value} {e:TypeId} {l:List Int} (h:BoxR D w (.row V e 1 (l.map intA))) (h1:1≤l.length) :
  ∃ g cap cur,V=.slice (some ⟨g,0,none⟩) l.length cap∧w.heap[g]?=some (.cells cur e (0,0))∧l.length≤cap∧cap≤maxLen∧cur.size=cap*1∧cur.toList.take l.length=l.map (Value.int .i64):=by
 obtain ⟨_,us,h2,_,h4⟩:=h;have hn:us.length=l.length:=by have:=h2.1;rw [W0a] at this;omega
 have hus:us=l.map (Value.int .i64):=by
  apply List.ext_getElem?;intro j;by_cases hj:j<l.length
  ·have hu:us[j]?=some us[j]:=W0d (by omega);have:=h4 j (aI l[j]) us[j] (by rw [Qsb,W0v,W0d hj];rfl) hu;rw [hu,W0v,W0d hj];generalize us[j]=q at this;cases this;rfl
  ·rw [W1i (by omega),W1i (by rw [W0a];omega)]
 rw [W0a] at h2;rcases h2.2 with ⟨_,h0⟩ | ⟨g,cap,cur,hv,_,hb,a1,a2,a3,a4⟩
 ·omega
 ·exact ⟨g,cap,cur,hv,hb,a1,a2,a3,by rw [Nat.mul_one] at a4;rw [a4,hus]⟩
theorem Zo1 {D:Nat→Prop} {w:World} {V:Value} {e:TypeId} {l:List Int} (h:w.ownsRow 0 e 1 V l.length (l.map (Value.int .i64))):BoxR D w (.row V e 1 (l.map intA)):=by
 refine ⟨fun x hx=>?_,l.map (Value.int .i64),by rw [W0a];exact h,fun u hu=>?_,fun j a u ha hu=>?_⟩
 ·obtain ⟨y,_,rfl⟩:=W1j.1 hx;rfl
 ·obtain ⟨y,_,rfl⟩:=W1j.1 hu;rfl
 ·rw [Qsb,W0v] at ha;rw [W0v] at hu;cases hl:l[j]? with
  | none=>rw [hl] at ha;cases ha
  | some x=>
   rw [hl] at ha hu;obtain rfl:=W0c ha;obtain rfl:=W0c hu;exact .val _
theorem Qpu (l:List Int) (V:Value) (h1:1≤l.length) (hl:l.length≤1000000):Qjt prog 90 [.rw 30 V l.length] (.row V 3 1 (l.map intA)) (.tup []) (.row V 3 1 ((l.mergeSort fun x y=>decide (x≤y)).map intA)):=by
 intro D w vs hD hvs hy hyD;obtain ⟨g,cap,cur,rfl,hb,hc1,hc2,hc3,ht⟩:=Zd9 hy h1;obtain ⟨u,rfl,hu⟩:=Qdj.one hvs;have hu':u=.slice (some ⟨g,0,none⟩) l.length cap:=by cases hu;rfl
 subst hu';have hg:g<w.heap.size:=(W07.1 hb).1;refine (Tryz.slices_Sort_int g 0 cap l w (holds_of_blockI hb ht) hg (by omega)).mono ?_;rintro e w' ⟨rfl,n,os,rfl⟩;have hgb:=Go.grownBy_sortedI (w:=w) (g:=g) (n:=n) (os:=os) (l.mergeSort fun x y=>decide (x≤y)).toArray;have hlen:(l.mergeSort fun x y=>decide (x≤y)).length=l.length:=List.length_mergeSort l;have how:=Go.ownsRow_sortedI (n:=n) (os:=os) (ts:=l.mergeSort fun x y=>decide (x≤y)) hlen (W0j g) hb hc1 hc2 hc3;refine ⟨_,D,rfl,⟨hgb.os,hgb.tape,hgb.output,hgb.size,fun k hk=>absurd hk (by omega)⟩,fun k hk hl=>hgb.block k hl (fun e=>hk e.symm),fun _ h=>h,fun b hb=>⟨W09 (hD b hb) hgb.size,.inl hb⟩,fun g' hg'=>⟨.inl hg',hyD g' hg'⟩,Zo1 (by rw [hlen];exact how),.tup [] #[] rfl (by simp)⟩
theorem Qk7 (l:List Int) (V:Value) (h1:1≤l.length) (hl:l.length≤1000000):Qs1 prog 91 [.rw 30 V l.length] (.row V 3 1 (l.map intA)) (.sl 1 false ((Lib.compact l).map intA)):=by
 intro D w vs hD hvs hy hyD;obtain ⟨g,cap,cur,rfl,hb,hc1,hc2,hc3,ht⟩:=Zd9 hy h1;obtain ⟨u,rfl,hu⟩:=Qdj.one hvs;have hu':u=.slice (some ⟨g,0,none⟩) l.length cap:=by cases hu;rfl
 subst hu';have hg:g<w.heap.size:=(W07.1 hb).1;refine (Tryz.slices_Compact_int g 0 cap l w (holds_of_blockI hb ht) (by omega) hc1).mono ?_;rintro e w' ⟨rfl,q,hw'⟩;have hcl:=Qo2 l;have hlen:(Lib.compact l++List.replicate (l.length-(Lib.compact l).length) 0).length=l.length:=by rw [W0e,W00];omega
 have hgr:∀ W:World,Go.Sort.grow W #[]=W:=fun W=>by simp [Go.Sort.grow]
 rw [← hgr (Go.Sort.putRow _ _ _ _ _)] at hw';have hgb:=Go.grownBy_sortedI (w:=w) (g:=g) (n:=q) (os:=#[]) (Lib.compact l++List.replicate (l.length-(Lib.compact l).length) 0).toArray;have how:=Go.ownsRow_sortedI (n:=q) (os:=#[]) (ts:=Lib.compact l++List.replicate (l.length-(Lib.compact l).length) 0) hlen (W0j g) hb hc1 hc2 hc3;rw [← hw'] at hgb how;refine ⟨_,fun b=>D b∨b=g,rfl,⟨hgb.os,hgb.tape,hgb.output,hgb.size,fun k hk=>absurd hk (by omega)⟩,fun k hk hl=>hgb.block k hl (fun e=>hk e.symm),fun _ h=>.inl h,fun b hb=>?_,?_⟩
 ·rcases hb with hb | rfl
  ·exact ⟨W09 (hD b hb) hgb.size,.inl hb⟩
  ·exact ⟨W09 hg hgb.size,.inr (.inl rfl)⟩
 ·have h:=Ra.sl (D:=fun b=>D b∨b=g) (w:=w') 1 false ((Lib.compact l).map intA) (some ⟨g,0,none⟩) cap g 0 (fun i _=>.int .i64 ((Lib.compact l).getD i 0)) (by rw [W0a];omega) (fun h=>by cases h) (fun _=>⟨rfl,.inr rfl,W09 hg hgb.size⟩)
   (fun i e he=>by
    rw [W0v] at he;cases hc:(Lib.compact l)[i]? with
    | none=>rw [hc] at he;cases he
    | some x=>rw [hc] at he;obtain rfl:=W0c he;rfl)
   (fun i e j x he hx=>by
    rw [W0v] at he;cases hc:(Lib.compact l)[i]? with
    | none=>rw [hc] at he;cases he
    | some y=>
     rw [hc] at he;obtain rfl:=W0c he;have hj:j=0:=by have:=(W0i.1 hx).1;have e:(intA y).length=1:=rfl;omega
     subst hj;have hi:=(W0i.1 hc).1;refine ⟨?_,rfl⟩;rw [Nat.mul_one,Nat.add_zero,Nat.zero_add,how.cellAt i (by omega),W0v,W0o hi,hc];simp [List.getD,hc])
   (fun i e j x he hx=>by
    rw [W0v] at he;cases hc:(Lib.compact l)[i]? with
    | none=>rw [hc] at he;cases he
    | some y=>
     rw [hc] at he;obtain rfl:=W0c he;have hj:j=0:=by have:=(W0i.1 hx).1;have e:(intA y).length=1:=rfl;omega
     subst hj;obtain rfl:=W0c hx;have e:(Lib.compact l).getD i 0=y:=by simp [List.getD,hc]
     show Ra _ _ (aI y) (.int .i64 ((Lib.compact l).getD i 0));rw [e];exact .val _)
  rw [W0a] at h;exact h
theorem Qx4 (l:List Int) (h1:1≤l.length) (hl:l.length≤100000):Qex prog 157 [.sl 1 false (l.map intA)] 3 1 (l.map intA):=by
 exact Qfb func157 (
 .r 1<|.r 1<|.isNil (l.map intA) fun b1 hnb1=>
 .br 4 (b1) (fun q1=>have p1:=booT q1;.r 1<|.rowNil 199 2 3 1<|.finRow (x:=[]) (r:=l.map intA) [] trivial 199 3 1 (0) (.slice none 0 0) (by first | (simp;done) | (exfalso;have h0:l=[]:=(by simpa using hnb1 (by assumption));rw [h0] at h1;simp at h1)))
 <| fun q1=>have p1:=booF q1;.lit0 fun V1=>.r 1<|.app 8 V1 ([]:List (List AV)) (l.map intA) (by simp<;>omega) (by simp<;>omega) fun V2=>
 .r 1<|.finRow (x:=([]:List (List AV))++(l.map intA)) (r:=l.map intA) [] trivial 5 3 1 (([]:List (List AV)).length+(l.map intA).length) V2 (by first | (simp;done) | (exfalso;have h0:l=[]:=(by simpa using hnb1 (by assumption));rw [h0] at h1;simp at h1)))
theorem Qmj (l:List Int) (h1:1≤l.length) (hl:l.length≤100000):Qai prog 97 [.sl 1 false (l.map intA)] (.sl 1 false ((Qdn l).map intA)):=by
 exact Qae func97 (let R:AV:=.sl 1 false ((Qdn l).map intA);
 .r 1<|.r 1<|.op (crR prog 30) (157,[.sl 1 false (l.map intA)],5) (fun (V:Value) σ=>(σ.put (some 5) (.rw 30 V (l.map intA).length)).setB 30 (.row V 3 1 (l.map intA))) (Qh3 (args':=[.sl 1 false (l.map intA)]) sr1 (Qx4 l h1 hl)) fun V1=>
 .r 1<|.lent 1<|.r 1<|.lop (lcR prog 30) ((90,[.rw 30 V1 ((l.map intA).length)],some 7),.row V1 3 1 (l.map intA)) (fun (_:Unit) σ=>(σ.put (some 7) (.tup [])).setB 30 (.row V1 3 1 ((l.mergeSort fun x y=>decide (x≤y)).map intA))) (Qdw (args':=[.rw 30 V1 l.length]) ⟨W2p (W1z (AV.rw 30 V1) (by simp)),trivial⟩ (Qpu l V1 h1 (by omega))) fun _=>
 .lent 1<|.r 1<|.lop (lcR prog 30) ((91,[.rw 30 V1 ((l.map intA).length)],some 9),.row V1 3 1 ((l.mergeSort fun x y=>decide (x≤y)).map intA)) (fun (_:Unit) σ=>(σ.put (some 9) (.sl 1 false ((Qdn l).map intA))).setB 30 gone) (Qc4 (args':=[.rw 30 V1 ((l.mergeSort fun x y=>decide (x≤y)).length)]) ⟨W2p (W1z (AV.rw 30 V1) (by simp [List.length_mergeSort])),trivial⟩ (Qk7 (l.mergeSort fun x y=>decide (x≤y)) V1 (by rw [List.length_mergeSort];exact h1) (by rw [List.length_mergeSort];omega))) fun _=>
 .r 1<|.fi R [])
theorem Qx5 :Qex prog 157 [.sl 1 false ([])] 3 1 ([]):=by
 exact Qfb func157 (
 .r 1<|.r 1<|.isNil ([]) fun b1 hnb1=>
 .bb 4 b1 (fun p1=>.r 1<|.rowNil 199 2 3 1<|.finRow (x:=[]) (r:=[]) [] trivial 199 3 1 (0) (.slice none 0 0) (by first | (simp;done) | rfl))
 <| fun p1=>.lit0 fun V1=>.r 1<|.app 8 V1 ([]:List (List AV)) ([]) (by simp<;>omega) (by simp<;>omega) fun V2=>
 .r 1<|.finRow (x:=([]:List (List AV))++([])) (r:=[]) [] trivial 5 3 1 (([]:List (List AV)).length+([]:List (List AV)).length) V2 (by first | (simp;done) | rfl))
theorem Zgk (V:Value):Qjt prog 193 [.rw 30 V 0,aI 0,aI 0] (.row V 3 1 ([])) (.tup []) (.row V 3 1 ([])):=by
 exact Qkv (q:=30) func193 (
 .run 3 [rng .i64 (0+1)] ⟨Qah,trivial⟩<|
 let L1:Lp (Nat):=⟨fun a1=>⟨[(0,.rw 30 V 0),(1,aI 0),(2,aI 0),(6,aI (a1:Int))],[(30,.row V 3 1 ([]))]⟩,fun a1=>0-a1,fun a1=>1≤a1⟩
 .lp L1 1 (show 1≤1 from (W0m _)) [(6,aI (0+1))] [] ⟨sR,sR,sR,sO,trivial⟩ bb1 fun a1 ha1=>
 (fun (i:Nat) (hH1:1≤i)=>.r 3<|.is 12 (show (decide ((i:Int)<0))=false from (decide_eq_false (by omega)))<|.finB (x:=.tup []) (r:=.tup []) [] trivial (.row V 3 1 ([])) (by exact sR)) a1 ha1)
theorem Ze3 (V:Value) (lm:Int):Qjt prog 152 [.rw 30 V 0,aI 0,aI 0,aI lm] (.row V 3 1 ([])) (.tup []) (.row V 3 1 ([])):=by
 exact Qkv (q:=30) func152 (
 .r 1<|.r 1<|let L1:Lp (Nat):=⟨fun a1=>⟨[(0,.rw 30 V 0),(1,aI 0),(2,aI 0),(3,aI lm),(8,aB true),(9,aB true)],[(30,.row V 3 1 ([]))]⟩,fun a1=>0-a1,fun a1=>0≤a1⟩
 .lp L1 0 (show 0≤0 from W0j _) [] [] sr6 bb1 fun a1 ha1=>
 (fun (k:Nat) (hH1:0≤k)=>.run 4 [rng .i64 (0-0)] ⟨Qah,trivial⟩<|
 .r 2<|.is 23 (show (decide ((0-0)≤12))=true from (by decide))<|.lent 3<|.r 3<|.lop (lcR prog 30) ((193,[.rw 30 V 0,aI 0,aI 0],some 27),.row V 3 1 ([])) (fun (_:Unit) σ=>(σ.put (some 27) (.tup [])).setB 30 (.row V 3 1 ([]))) (Qdw (args':=[.rw 30 V 0,aI 0,aI 0]) sr3 (Zgk V)) fun _=>
 .finB (x:=.tup []) (r:=.tup []) [] trivial (.row V 3 1 ([])) (by exact sR)) a1 ha1)
theorem Qpv (V:Value):Qjt prog 90 [.rw 30 V 0] (.row V 3 1 ([])) (.tup []) (.row V 3 1 ([])):=by
 exact Qkv (q:=30) func90 (
 .r 3<|.lent 5<|.r 3<|.op (cvR) (3,188,.int .i64 (0:Int),some 8) (fun (_:Unit) σ=>σ.put (some 8) (.val (.int .u64 (0:Int)))) (Qwg (Qsq (by kernel_rfl) (by kernel_rfl) (rngu (by omega) (by omega)))) fun _=>
 .cs (args0:=[.val (.int .u64 (0:Int))]) (Zjz 0 (by omega) (by omega)) sr1<|
 .lop (lcR prog 30) ((152,[.rw 30 V 0,aI 0,aI (0:Int),aI (lenB 0)],some 10),.row V 3 1 ([])) (fun (_:Unit) σ=>(σ.put (some 10) (.tup [])).setB 30 (.row V 3 1 ([]))) (Qdw (args':=[.rw 30 V 0,aI 0,aI 0,aI (lenB 0)]) ⟨sR,sR,sO,sR,trivial⟩ (Ze3 V (lenB 0))) fun _=>
 .finB (x:=.tup []) (r:=.tup []) [] trivial (.row V 3 1 ([])) (by exact sR))
theorem Qk8 (V:Value):Qs1 prog 91 [.rw 30 V 0] (.row V 3 1 ([])) (.sl 1 false []):=by
 exact Qku (q:=30) func91 (
 .r 1<|.r 3<|.is 8 (show (decide ((0:Int)<2))=true from (by decide))<|.r 2<|.frz 30 [2] [] [V=V,0=([]:List (List AV)).length] ⟨rfl,(by first | rfl | (simp;done) | (simp;omega)),trivial⟩<|
 .fi (.sl 1 false []) [])
theorem Qux :Qai prog 97 [.sl 1 false ([])] (.sl 1 false []):=by
 exact Qae func97 (
 .r 1<|.r 1<|.op (crR prog 30) (157,[.sl 1 false ([])],5) (fun (V:Value) σ=>(σ.put (some 5) (.rw 30 V ([]:List (List AV)).length)).setB 30 (.row V 3 1 (([]:List (List AV))))) (Qh3 (args':=[.sl 1 false ([])]) sr1 (Qx5)) fun V1=>
 .r 1<|.lent 1<|.r 1<|.lop (lcR prog 30) ((90,[.rw 30 V1 (([]:List (List AV)).length)],some 7),.row V1 3 1 ([]:List (List AV))) (fun (_:Unit) σ=>(σ.put (some 7) (.tup [])).setB 30 (.row V1 3 1 ([]))) (Qdw (args':=[.rw 30 V1 0]) ⟨W2p rfl,trivial⟩ (Qpv V1)) fun _=>
 .lent 1<|.r 1<|.lop (lcR prog 30) ((91,[.rw 30 V1 (([]:List (List AV)).length)],some 9),.row V1 3 1 ([])) (fun (_:Unit) σ=>(σ.put (some 9) (.sl 1 false ([]))).setB 30 gone) (Qc4 (args':=[.rw 30 V1 0]) ⟨W2p rfl,trivial⟩ (Qk8 V1)) fun _=>
 .r 1<|.fi (.sl 1 false []) [])
theorem Quw (l:List Int) (hl:l.length≤100000):Qai prog 97 [.sl 1 false (l.map intA)] (.sl 1 false ((Qdn l).map intA)):=by
 cases l with
 | nil=>rw [show Qdn []=[] from W0l (Nat.le_zero.1 (Qka []))];exact Qux
 | cons x r=>exact Qmj (x :: r) (by simp) hl
theorem Qxe (f:Fsy) (c:Cal) (okf:OkF f) (okc:OkCal c) (hp:Qan f):Qai prog 53 [.agg (fsyA f),.agg (calA c)] (.sl 1 false ((Qaq f c).map intA)):=by
 have hl:=hp.1;have hr:=Qaf hp;have hcn:=okc.name;have hcn2:=okc.name2;have hct:=okc.text;exact Qae func53 (
 .new fun b1=>.new fun b2=>.r 1<|.u 3 [b2]<|
 .br 16 (c.kind==15) (fun q1=>have p1:=beqT q1;.r 2<|.f (.sl 1 false ((Qaq f c).map intA)) [] (.sl 1 true ([[aI 0]])) (by
  rw [show Qaq f c=_ from W1y (by omega)];exact W2r _ _ _))
 <| fun q1=>have p1:=beqF q1;.u 4 [b2,b2]<|
 .litN fun V1=>.r 1<|.u 7 [b2,b2]<|
 let L1:Lp (Nat × Value):=⟨fun a1=>⟨[(2,.ptr 2 b1 0),(3,.ptr 3 b2 0),(29,aI (a1.1:Int)),(27,.sl 1 false ([c.ino,c.to].map intA)),(28,aI 2),(5,.rw 22 a1.2 ((lk0 f c ([c.ino,c.to].take a1.1)).length))],[(2,.box b1 28 (fsyA f)),(3,.box b2 33 (calA c)),(22,.row a1.2 3 1 ((lk0 f c ([c.ino,c.to].take a1.1)).map intA))]⟩,fun a1=>2-a1.1,fun a1=>a1.1≤2⟩
 .lp L1 (0,V1) (show 0≤2 from (by show 0≤2;omega)) [(29,aI 0),(27,.sl 1 true ([[aI c.ino],[aI c.to]])),(28,aI (([[aI c.ino],[aI c.to]]).length:Int)),(5,.rw 22 V1 2)] [(22,.row V1 3 1 ([[aI c.ino],[aI c.to]]))] ⟨sR,sR,sO,(Qqj _ _),sR,sR,trivial⟩ ⟨sB,sB,⟨_,rfl,W2q rfl⟩,trivial⟩ fun a1 ha1=>
 (fun (k:Nat) (V:Value) (hH1:k≤2)=>have hk0:=Qxh f c ([c.ino,c.to].take k) [c.ino,c.to];have hk1:(lk0 f c ([c.ino,c.to].take k)).length≤6:=(by have h2:([c.ino,c.to].take k).length≤2:=(by rw [W0g];simp only [W0b,W0f];omega);have h3:=hk0.2;unfold lk0;simp only [W0b,W0f] at h3;omega);.r 1<|.br 30 (decide ((k:Int)<2)) (fun q2=>have p2:=decT q2;.idxM ([c.ino,c.to]) intA k (m:=(k:Int)) rfl (by simp only [W0b,W0f];omega) fun x1 hx1=>
 .r 2<|.u 2 [b1]<|
 .call (Qjg f x1 hp)<|
 .r 3<|.new fun b3=>.u 2 [b3]<|
 .r 2<|.br 40 ((dirE f x1) != 0) (fun q3=>have p3:=bneT q3;.run 2 [rng .i64 ((k:Int)+1)] ⟨Qah,trivial⟩<|
 .bk L1 (k,V) ((k+1),V) (show (k+1)≤2 from (by show _≤2;omega)) (show 2-(k+1)<2-k from (by omega)) [(29,aI ((k:Int)+1)),(5,.rw 22 V ((lk0 f c ([c.ino,c.to].take k)).length))] [(22,.row V 3 1 ((lk0 f c ([c.ino,c.to].take k)).map intA))] ⟨sR,sR,sO,sR,sR,W2p (W1z (AV.rw 22 V) (by rw [show lk0 f c ([c.ino,c.to].take (k+1))=lk0 f c ([c.ino,c.to].take k) from by rw [Qm4 hx1];unfold lk1;rw [W1x (bneT q3)]])),trivial⟩ ⟨sB,sB,⟨_,rfl,W2q (by rw [show lk0 f c ([c.ino,c.to].take (k+1))=lk0 f c ([c.ino,c.to].take k) from by rw [Qm4 hx1];unfold lk1;rw [W1x (bneT q3)]])⟩,trivial⟩)
 <| fun q3=>have p3:=bneF q3;.u 7 [b2,b2]<|
 let L2:Lp (Nat × Value):=⟨fun a2=>⟨[(2,.ptr 2 b1 0),(3,.ptr 3 b2 0),(29,aI (k:Int)),(27,.sl 1 false ([c.ino,c.to].map intA)),(28,aI 2),(8,.ptr 8 b3 0),(47,aI (a2.1:Int)),(45,.sl 1 false ([c.name,c.name2].map txA)),(46,aI 2),(5,.rw 22 a2.2 ((lk2 (dirN f x1).l ([c.name,c.name2].take a2.1) (lk0 f c ([c.ino,c.to].take k))).length))],[(2,.box b1 28 (fsyA f)),(3,.box b2 33 (calA c)),(8,.box b3 84 [aI ((dirN f x1).ino),aI ((dirN f x1).kind),aI ((dirN f x1).links),aS ((dirN f x1).text),.sl 2 false ((dirN f x1).l.map entA)]),(22,.row a2.2 3 1 ((lk2 (dirN f x1).l ([c.name,c.name2].take a2.1) (lk0 f c ([c.ino,c.to].take k))).map intA))]⟩,fun a2=>2-a2.1,fun a2=>a2.1≤2⟩
 .lp L2 (0,V) (show 0≤2 from (by show 0≤2;omega)) [(47,aI 0),(45,.sl 1 true ([[aS c.name],[aS c.name2]])),(46,aI (([[aS c.name],[aS c.name2]]).length:Int)),(5,.rw 22 V ((lk0 f c ([c.ino,c.to].take k)).length))] [(22,.row V 3 1 ((lk0 f c ([c.ino,c.to].take k)).map intA))] ⟨sR,sR,sR,sR,sR,sR,sO,(Zcf _ _),sR,sR,trivial⟩ ⟨sB,sB,sB,⟨_,rfl,W2q rfl⟩,trivial⟩ fun a2 ha2=>
 (fun (j:Nat) (Y:Value) (hH2:j≤2)=>have hj0:=(Qxg (dirN f x1).l ([c.name,c.name2].take j) (lk0 f c ([c.ino,c.to].take k))).2;have hj1:([c.name,c.name2].take j).length≤2:=(by rw [W0g];simp only [W0b,W0f];omega);.r 1<|.br 48 (decide ((j:Int)<2)) (fun q4=>have p4:=decT q4;.idxM ([c.name,c.name2]) txA j (m:=(j:Int)) rfl (by simp only [W0b,W0f];omega) fun x2 hx2=>
 have nlx2:x2.length≤1000000:=(by have h9:=W0h hx2;simp only [W0y,List.not_mem_nil,or_false] at h9;rcases h9 with e | e<;>rw [e]<;>assumption);.r 2<|.u 3 [b3]<|
 .call (Qgs ((dirN f x1).l) x2 (by have:=(Qdo hp x1).2;omega) (Qdo hp x1).1)<|
 .r 5<|.r 1<|.br 58 (isB ((dirN f x1).l) x2) (fun q5=>have p5:=booT q5;.r 3<|.app 8 Y ((lk2 (dirN f x1).l ([c.name,c.name2].take j) (lk0 f c ([c.ino,c.to].take k))).map intA) ([[aI (getI ((dirN f x1).l) x2)]]) (by simp only [W0a,W0b,W0f];omega) (by simp only [W0a,W0b,W0f];omega) fun V2=>
 .r 1<|.run 2 [rng .i64 ((j:Int)+1)] ⟨Qah,trivial⟩<|
 .bk L2 (j,Y) ((j+1),V2) (show (j+1)≤2 from (by show _≤2;omega)) (show 2-(j+1)<2-j from (by omega)) [(47,aI ((j:Int)+1)),(5,.rw 22 V2 (((lk2 (dirN f x1).l ([c.name,c.name2].take j) (lk0 f c ([c.ino,c.to].take k))).map intA).length+([[aI (getI ((dirN f x1).l) x2)]]:List (List AV)).length))] [(22,.row V2 3 1 (((lk2 (dirN f x1).l ([c.name,c.name2].take j) (lk0 f c ([c.ino,c.to].take k))).map intA)++([[aI (getI ((dirN f x1).l) x2)]])))] ⟨sR,sR,sR,sR,sR,sR,sO,sR,sR,W2p (W1z (AV.rw 22 V2) (by rw [Zfx hx2 q5];simp)),trivial⟩ ⟨sB,sB,sB,⟨_,rfl,W2q (by rw [Zfx hx2 q5];simp [intA])⟩,trivial⟩)
 <| fun q5=>have p5:=booF q5;.run 2 [rng .i64 ((j:Int)+1)] ⟨Qah,trivial⟩<|
 .bk L2 (j,Y) ((j+1),Y) (show (j+1)≤2 from (by show _≤2;omega)) (show 2-(j+1)<2-j from (by omega)) [(47,aI ((j:Int)+1)),(5,.rw 22 Y ((lk2 (dirN f x1).l ([c.name,c.name2].take j) (lk0 f c ([c.ino,c.to].take k))).length))] [(22,.row Y 3 1 ((lk2 (dirN f x1).l ([c.name,c.name2].take j) (lk0 f c ([c.ino,c.to].take k))).map intA))] ⟨sR,sR,sR,sR,sR,sR,sO,sR,sR,W2p (W1z (AV.rw 22 Y) (by rw [Zl6 hx2 q5])),trivial⟩ ⟨sB,sB,sB,⟨_,rfl,W2q (by rw [Zl6 hx2 q5])⟩,trivial⟩)
 <| fun q4=>have p4:=decF q4;.run 2 [rng .i64 ((k:Int)+1)] ⟨Qah,trivial⟩<|
 .bk L1 (k,V) ((k+1),Y) (show (k+1)≤2 from (by show _≤2;omega)) (show 2-(k+1)<2-k from (by omega)) [(29,aI ((k:Int)+1)),(5,.rw 22 Y ((lk2 (dirN f x1).l ([c.name,c.name2].take j) (lk0 f c ([c.ino,c.to].take k))).length))] [(22,.row Y 3 1 ((lk2 (dirN f x1).l ([c.name,c.name2].take j) (lk0 f c ([c.ino,c.to].take k))).map intA))] ⟨sR,sR,sO,sR,sR,W2p (W1z (AV.rw 22 Y) (by rw [show lk0 f c ([c.ino,c.to].take (k+1))=lk2 (dirN f x1).l ([c.name,c.name2].take j) (lk0 f c ([c.ino,c.to].take k)) from by rw [Qm4 hx1];unfold lk1;rw [W1y (bneF q3),show j=2 from by omega];rfl])),trivial⟩ ⟨sB,sB,⟨_,rfl,W2q (by rw [show lk0 f c ([c.ino,c.to].take (k+1))=lk2 (dirN f x1).l ([c.name,c.name2].take j) (lk0 f c ([c.ino,c.to].take k)) from by rw [Qm4 hx1];unfold lk1;rw [W1y (bneF q3),show j=2 from by omega];rfl])⟩,trivial⟩) a2.1 a2.2 ha2)
 <| fun q2=>have p2:=decF q2;.frz 22 [5,30] [] [V=V,(lk0 f c ([c.ino,c.to].take k)).length=((lk0 f c ([c.ino,c.to].take k)).map intA).length] ⟨rfl,(by first | rfl | (simp;done) | (simp;omega)),trivial⟩<|
 .r 1<|.cs (args0:=[.sl 1 false ((lk0 f c ([c.ino,c.to].take k)).map intA)]) (Qmj (Qe1 f c) (by have:=Qn9 f c;omega) (by have:=Qn9 f c;omega)) ⟨W2p (W1z (AV.sl 1 false) (by rw [show k=2 from by omega];rfl)),trivial⟩<|
 .r 1<|.f (.sl 1 false ((Qaq f c).map intA)) [] (.sl 1 false ((Qdn (Qe1 f c)).map intA)) (by
  rw [show Qaq f c=_ from W1x (by omega)];exact sR)) a1.1 a1.2 ha1)
structure Chg where
 ino:Int
 gone:Bool
 n:Nod
 deriving DecidableEq
def chgA (c:Chg):List AV:=[aI c.ino,aB c.gone,aI c.n.ino,aI c.n.kind,aI c.n.links,aS c.n.text,.sl 2 false (c.n.l.map entA)]
def chgR (c:Chg):List AV:=[aI c.ino,aB c.gone,aI c.n.ino,aI c.n.kind,aI c.n.links,aS c.n.text,bif c.gone then aN else .sl 2 false (c.n.l.map entA)]
theorem Zhw {l:List Chg} {t:Bool} (h:∀ c∈l,c.gone=true→c.n.l=[]):Sub (.sl 7 t (l.map chgR)) (.sl 7 false (l.map chgA)):=
 (Sub.sl2 (xs:=l.map chgR) (ys:=l.map chgA) (by simp) (fun i a b ha hb=>by
  rw [W0v] at ha hb;cases hc:l[i]? with
  | none=>rw [hc] at ha;cases ha
  | some c=>
   rw [hc] at ha hb;obtain rfl:=W0c ha;obtain rfl:=W0c hb;refine ⟨sR,sR,sR,sR,sR,sR,?_,trivial⟩;cases hg:c.gone with
   | false=>exact sR
   | true=>
    rw [h c (W0h hc) hg];exact Sub.nil _ _)).trans (W2r _ _ _)
def Qej (l:List Int) (ns:List Nod):List Int:=ns.foldl (fun l n=>Qc0 l n.ino) l
theorem Qp9 {l:List Int} {ns:List Nod} {k:Nat} {x:Nod} (h:ns[k]?=some x):Qej l (ns.take (k+1))=Qc0 (Qej l (ns.take k)) x.ino:=by
 unfold Qej;rw [Qam h,W1p];rfl
theorem Qe9 (l:List Int):∀ (ns:List Nod) ,(Qej l ns).length≤l.length+ns.length:=by
 intro ns
 induction ns generalizing l with
 | nil=>exact W0m _
 | cons n r ih=>
  have:=ih (Qc0 l n.ino);have:=Qiq l n.ino;show (Qej (Qc0 l n.ino) r).length≤_;simp only [W0b];omega
theorem Qn8 {x:Int}:∀ {ns:List Nod} {l:List Int},x∈Qej l ns→x∈l∨∃ n∈ns,n.ino=x
 | [],l,h=>.inl h
 | n :: r,l,h=>by
  rcases Qn8 (ns:=r) (l:=Qc0 l n.ino) h with h | ⟨m,hm,e⟩
  ·rcases Qip.1 h with h | h
   ·exact .inr ⟨n,by simp,h.symm⟩
   ·exact .inl h
  ·exact .inr ⟨m,by simp [hm],e⟩
def Qbe (a b:Fsy):List Int:=Qej (Qej [] a.l) b.l
def chgD (a b:Fsy) (i:Int):Option Chg:=if Qav b i=false then some ⟨i,true,nod0⟩ else if Qav a i=false∨¬ Qaa a i=Qaa b i then some ⟨i,false,Qaa b i⟩ else none
def chgL (a b:Fsy) (k:Nat):List Chg:=((Qbe a b).take k).filterMap (chgD a b)
def Qbl (a b:Fsy):List Chg:=(Qbe a b).filterMap (chgD a b)
theorem Qcm {a b:Fsy} {k:Nat} {i:Int} {c:Chg} (hx:(Qbe a b)[k]?=some i) (h:chgD a b i=some c):chgL a b (k+1)=chgL a b k++[c]:=by
 unfold chgL;rw [Qam hx,List.filterMap_append];simp [h]
theorem Ql3 {a b:Fsy} {k:Nat} {i:Int} (hx:(Qbe a b)[k]?=some i) (h:chgD a b i=none):chgL a b (k+1)=chgL a b k:=by
 unfold chgL;rw [Qam hx,List.filterMap_append];simp [h]
theorem Qcv (a b:Fsy) (k:Nat):(chgL a b k).length≤k:=by
 have:=List.length_filterMap_le (chgD a b) ((Qbe a b).take k);rw [W0g] at this;unfold chgL;omega
theorem Zah {a b:Fsy} {k:Nat} (h:(Qbe a b).length≤k):chgL a b k=Qbl a b:=by unfold chgL;rw [Qat h];rfl
theorem Qml {a b:Fsy}:∀ c∈Qbl a b,c.gone=true→c.n.l=[]:=fun c hc hg=>by
 obtain ⟨i,_,h⟩:=W2j.1 hc;unfold chgD at h
 split at h
 ·obtain rfl:=W0c h;rfl
 ·split at h
  ·obtain rfl:=W0c h;cases hg
  ·cases h
theorem Qn4 {x:Int}:∀ {ns:List Nod} {l:List Int},x∈Qej l ns↔x∈l∨x∈ns.map Nod.ino
 | [],l=>by simp [Qej]
 | n :: r,l=>by
  show x∈Qej (Qc0 l n.ino) r↔_;rw [Qn4,Qip,W1u,W0y];constructor
  ·rintro ((h | h) | h)
   ·exact .inr (.inl h)
   ·exact .inl h
   ·exact .inr (.inr h)
  ·rintro (h | h | h)
   ·exact .inl (.inr h)
   ·exact .inl (.inl h)
   ·exact .inr h
theorem Qn5:∀ {ns:List Nod} {l:List Int},Asc l→Asc (Qej l ns)
 | [],_,h=>h
 | n :: r,l,h=>Qn5 (ns:=r) (Qj4 h n.ino)
theorem Qvt (f g:Fsy):Asc (Qbe f g):=Qn5 (Qn5 List.Pairwise.nil)
theorem Qim {f g:Fsy} {x:Int}:x∈Qbe f g↔x∈f.l.map Nod.ino∨x∈g.l.map Nod.ino:=by
 unfold Qbe;rw [Qn4,Qn4];simp
theorem Zlr (f g:Fsy):Qdn ((f.l++g.l).map Nod.ino)=Qbe f g:=Ql7 (Qgh _) (Qvt f g) fun x=>by
 rw [Qey,Qim,W1t,W05]
theorem Qqe {f:Fsy} {x:Int}:x∈f.l.map Nod.ino↔∃ n,atF f x=some n:=by
 constructor
 ·intro h;obtain ⟨n,hn,rfl⟩:=W1j.1 h;cases hc:atF f n.ino with
  | some m=>exact ⟨m,rfl⟩
  | none=>
   have:=W11.1 hc n hn;simp [isNo] at this
 ·rintro ⟨n,hn⟩;exact W1j.2 ⟨n,Qdk hn,Qc7 hn⟩
theorem no_mem {f g:Fsy} {x:Int} (h:¬ x∈Qbe f g):atF f x=none∧atF g x=none:=by
 rw [Qim,Qqe,Qqe] at h;constructor
 ·cases hc:atF f x with
  | none=>rfl
  | some n=>exact absurd (.inl ⟨n,hc⟩) h
 ·cases hc:atF g x with
  | none=>rfl
  | some n=>exact absurd (.inr ⟨n,hc⟩) h
theorem Zai {f g:Fsy} {i:Int}:chgD f g i=none↔(∃ n,atF g i=some n∧atF f i=some n):=by
 unfold chgD;rw [at_B,at_B,at_N,at_N];cases hg:atF g i with
 | none=>simp
 | some n=>
  cases hf:atF f i with
  | none=>simp
  | some m=>simp
theorem Qg2 {f g:Fsy} {i:Int} {c:Chg} (h:chgD f g i=some c):c.ino=i∧((c.gone=true∧atF g i=none)∨(c.gone=false∧atF g i=some c.n)):=by
 unfold chgD at h;rw [at_B,at_B] at h;cases hg:atF g i with
 | none=>
  rw [hg] at h;simp at h;subst h;exact ⟨rfl,.inl ⟨rfl,rfl⟩⟩
 | some n=>
  rw [hg] at h;have hn:Qaa g i=n:=by rw [at_N,hg];rfl
  simp only [Option.isSome_some,Bool.true_eq_false,if_false] at h
  split at h
  ·obtain rfl:=W0c h;exact ⟨rfl,.inr ⟨rfl,by rw [hn]⟩⟩
  ·cases h
theorem Zcr {f g:Fsy} {c:Chg} (h:c∈Qbl f g):¬ atF f c.ino=atF g c.ino:=by
 obtain ⟨i,hi,hc⟩:=W2j.1 h;obtain ⟨e,_⟩:=Qg2 hc;rw [e];intro he;cases hg:atF g i with
 | none=>
  rcases Qim.1 hi with h1 | h1
  ·obtain ⟨n,hn⟩:=Qqe.1 h1;rw [he,hg] at hn;cases hn
  ·obtain ⟨n,hn⟩:=Qqe.1 h1;rw [hg] at hn;cases hn
 | some n=>
  have:=Zai.2 ⟨n,hg,he.trans hg⟩;rw [this] at hc;cases hc
def maxD (a b:Int):Int:=if b>a then b else a
structure ApOk (c:Chg):Prop where
 no:c.n.ino<1152921504606846977
 node:OkN c.n
theorem Qfq (f g:Fsy):(Qbl f g).length≤f.l.length+g.l.length:=by
 have h1:=List.length_filterMap_le (chgD f g) (Qbe f g);have h2:=Qe9 [] f.l;have h3:=Qe9 (Qej [] f.l) g.l;unfold Qbl;unfold Qbe at h1 ⊢;simp at h2;omega
end Go.Proofs.YtahlldgocpabjaaGreat
