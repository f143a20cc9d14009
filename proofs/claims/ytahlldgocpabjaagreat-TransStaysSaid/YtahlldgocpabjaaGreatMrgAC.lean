import Derived.Test.YtahlldgocpabjaaGreatShelf
import Derived.Sort.OwnSortedInts
import Derived.Test.YtahlldgocpabjaaGreatMrgAB
set_option maxRecDepth 100000
set_option maxHeartbeats 8000000
set_option linter.unusedVariables false
set_option linter.unusedSimpArgs false
namespace Go.Proofs.YtahlldgocpabjaaGreat
open Go Go.RowKit Copyhold
theorem Qo8:∀ (l:List Int),(l.map intA).flatten=l.map aI
 | []=>rfl
 | x :: r=>by
  rw [List.map_cons,List.flatten_cons,Qo8 r];rfl
theorem Qys {D:Nat→Prop} {w:World} {V:Value} {e:TypeId} {l:List Int} (h:BoxR D w (.row V e 1 (l.map intA))) (h1:1≤l.length) :
  ∃ g cap cur,V=.slice (some ⟨g,0,none⟩) l.length cap∧w.heap[g]?=some (.cells cur e (0,0))∧l.length≤cap∧cap≤maxLen∧cur.size=cap*1∧cur.toList.take l.length=l.map (Value.int .i64):=by
 obtain ⟨_,us,h2,_,h4⟩:=h
 have hn:us.length=l.length:=by have:=h2.1;rw [List.length_map] at this;omega
 have hus:us=l.map (Value.int .i64):=by
  apply List.ext_getElem?
  intro j
  by_cases hj:j<l.length
  ·have hu:us[j]?=some us[j]:=List.getElem?_eq_getElem (by omega)
   have:=h4 j (aI l[j]) us[j] (by rw [Qo8,List.getElem?_map,List.getElem?_eq_getElem hj];rfl) hu
   rw [hu,List.getElem?_map,List.getElem?_eq_getElem hj]
   generalize us[j]=q at this
   cases this
   rfl
  ·rw [List.getElem?_eq_none (by omega),List.getElem?_eq_none (by rw [List.length_map];omega)]
 rw [List.length_map] at h2
 rcases h2.2 with ⟨_,h0⟩ | ⟨g,cap,cur,hv,_,hb,a1,a2,a3,a4⟩
 ·omega
 ·exact ⟨g,cap,cur,hv,hb,a1,a2,a3,by rw [Nat.mul_one] at a4;rw [a4,hus]⟩
theorem Zi9 {D:Nat→Prop} {w:World} {V:Value} {e:TypeId} {l:List Int} (h:w.ownsRow 0 e 1 V l.length (l.map (Value.int .i64))):BoxR D w (.row V e 1 (l.map intA)):=by
 refine ⟨fun x hx=>?_,l.map (Value.int .i64),by rw [List.length_map];exact h,fun u hu=>?_,fun j a u ha hu=>?_⟩
 ·obtain ⟨y,_,rfl⟩:=List.mem_map.1 hx;rfl
 ·obtain ⟨y,_,rfl⟩:=List.mem_map.1 hu;rfl
 ·rw [Qo8,List.getElem?_map] at ha
  rw [List.getElem?_map] at hu
  cases hl:l[j]? with
  | none=>rw [hl] at ha;cases ha
  | some x=>
   rw [hl] at ha hu
   obtain rfl:=Option.some.inj ha
   obtain rfl:=Option.some.inj hu
   exact .val _
theorem Qm5 (l:List Int) (V:Value) (h1:1≤l.length) (hl:l.length≤1000000):Qja Tryz.prog 90 [.rw 30 V l.length] (.row V 3 1 (l.map intA)) (.tup []) (.row V 3 1 ((l.mergeSort fun x y=>decide (x≤y)).map intA)):=by
 intro D w vs hD hvs hy hyD
 obtain ⟨g,cap,cur,rfl,hb,hc1,hc2,hc3,ht⟩:=Qys hy h1
 obtain ⟨u,rfl,hu⟩:=Qcx.one hvs
 have hu':u=.slice (some ⟨g,0,none⟩) l.length cap:=by cases hu;rfl
 subst hu'
 have hg:g<w.heap.size:=(Array.getElem?_eq_some_iff.1 hb).1
 refine (Tryz.slices_Sort_int g 0 cap l w (holds_of_blockI hb ht) hg (by omega)).mono ?_
 rintro e w' ⟨rfl,n,os,rfl⟩
 have hgb:=Go.grownBy_sortedI (w:=w) (g:=g) (n:=n) (os:=os) (l.mergeSort fun x y=>decide (x≤y)).toArray
 have hlen:(l.mergeSort fun x y=>decide (x≤y)).length=l.length:=List.length_mergeSort l
 have how:=Go.ownsRow_sortedI (n:=n) (os:=os) (ts:=l.mergeSort fun x y=>decide (x≤y)) hlen (Nat.zero_le g) hb hc1 hc2 hc3
 refine ⟨_,D,rfl,⟨hgb.os,hgb.tape,hgb.output,hgb.size,fun k hk=>absurd hk (by omega)⟩,fun k hk hl=>hgb.block k hl (fun e=>hk e.symm),fun _ h=>h,fun b hb=>⟨Nat.lt_of_lt_of_le (hD b hb) hgb.size,.inl hb⟩,fun g' hg'=>⟨.inl hg',hyD g' hg'⟩,Zi9 (by rw [hlen];exact how),.tup [] #[] rfl (by simp)⟩
theorem Qi0 (l:List Int) (V:Value) (h1:1≤l.length) (hl:l.length≤1000000):Qrw Tryz.prog 91 [.rw 30 V l.length] (.row V 3 1 (l.map intA)) (.sl 1 false ((Lib.compact l).map intA)):=by
 intro D w vs hD hvs hy hyD
 obtain ⟨g,cap,cur,rfl,hb,hc1,hc2,hc3,ht⟩:=Qys hy h1
 obtain ⟨u,rfl,hu⟩:=Qcx.one hvs
 have hu':u=.slice (some ⟨g,0,none⟩) l.length cap:=by cases hu;rfl
 subst hu'
 have hg:g<w.heap.size:=(Array.getElem?_eq_some_iff.1 hb).1
 refine (Tryz.slices_Compact_int g 0 cap l w (holds_of_blockI hb ht) (by omega) hc1).mono ?_
 rintro e w' ⟨rfl,q,hw'⟩
 have hcl:=Qme l
 have hlen:(Lib.compact l++List.replicate (l.length-(Lib.compact l).length) 0).length=l.length:=by rw [List.length_append,List.length_replicate];omega
 have hgr:∀ W:World,Go.Sort.grow W #[]=W:=fun W=>by simp [Go.Sort.grow]
 rw [← hgr (Go.Sort.putRow _ _ _ _ _)] at hw'
 have hgb:=Go.grownBy_sortedI (w:=w) (g:=g) (n:=q) (os:=#[]) (Lib.compact l++List.replicate (l.length-(Lib.compact l).length) 0).toArray
 have how:=Go.ownsRow_sortedI (n:=q) (os:=#[]) (ts:=Lib.compact l++List.replicate (l.length-(Lib.compact l).length) 0) hlen (Nat.zero_le g) hb hc1 hc2 hc3
 rw [← hw'] at hgb how
 refine ⟨_,fun b=>D b∨b=g,rfl,⟨hgb.os,hgb.tape,hgb.output,hgb.size,fun k hk=>absurd hk (by omega)⟩,fun k hk hl=>hgb.block k hl (fun e=>hk e.symm),fun _ h=>.inl h,fun b hb=>?_,?_⟩
 ·rcases hb with hb | rfl
  ·exact ⟨Nat.lt_of_lt_of_le (hD b hb) hgb.size,.inl hb⟩
  ·exact ⟨Nat.lt_of_lt_of_le hg hgb.size,.inr (.inl rfl)⟩
 ·have h:=Ra.sl (D:=fun b=>D b∨b=g) (w:=w') 1 false ((Lib.compact l).map intA) (some ⟨g,0,none⟩) cap g 0 (fun i _=>.int .i64 ((Lib.compact l).getD i 0)) (by rw [List.length_map];omega) (fun h=>by cases h) (fun _=>⟨rfl,.inr rfl,Nat.lt_of_lt_of_le hg hgb.size⟩)
   (fun i e he=>by
    rw [List.getElem?_map] at he
    cases hc:(Lib.compact l)[i]? with
    | none=>rw [hc] at he;cases he
    | some x=>rw [hc] at he;obtain rfl:=Option.some.inj he;rfl)
   (fun i e j x he hx=>by
    rw [List.getElem?_map] at he
    cases hc:(Lib.compact l)[i]? with
    | none=>rw [hc] at he;cases he
    | some y=>
     rw [hc] at he
     obtain rfl:=Option.some.inj he
     have hj:j=0:=by have:=(List.getElem?_eq_some_iff.1 hx).1;have e:(intA y).length=1:=rfl;omega
     subst hj
     have hi:=(List.getElem?_eq_some_iff.1 hc).1
     refine ⟨?_,rfl⟩
     rw [Nat.mul_one,Nat.add_zero,Nat.zero_add,how.cellAt i (by omega),List.getElem?_map,List.getElem?_append_left hi,hc]
     simp [List.getD,hc])
   (fun i e j x he hx=>by
    rw [List.getElem?_map] at he
    cases hc:(Lib.compact l)[i]? with
    | none=>rw [hc] at he;cases he
    | some y=>
     rw [hc] at he
     obtain rfl:=Option.some.inj he
     have hj:j=0:=by have:=(List.getElem?_eq_some_iff.1 hx).1;have e:(intA y).length=1:=rfl;omega
     subst hj
     obtain rfl:=Option.some.inj hx
     have e:(Lib.compact l).getD i 0=y:=by simp [List.getD,hc]
     show Ra _ _ (aI y) (.int .i64 ((Lib.compact l).getD i 0))
     rw [e]
     exact .val _)
  rw [List.length_map] at h
  exact h
theorem Qth (l:List Int) (h1:1≤l.length) (hl:l.length≤100000):Qed Tryz.prog 157 [.sl 1 false (l.map intA)] 3 1 (l.map intA):=by
 exact Qee (F:=Tryz.f157) 400 (
 .r 1<|.r 1<|.isNil (l.map intA) fun b1 hnb1=>
 .br 4 (b1) (fun q1=>have p1:=booT q1;.r 1<|.rowNil 199 2 3 1<|.finRow (x:=[]) (r:=l.map intA) [] trivial 199 3 1 (0) (.slice none 0 0) (by first | (simp;done) | (exfalso;have h0:l=[]:=(by simpa using hnb1 (by assumption));rw [h0] at h1;simp at h1)))
 <| fun q1=>have p1:=booF q1;.lit0 fun V1=>.r 1<|.app 8 V1 ([]:List (List AV)) (l.map intA) (by simp<;>omega) (by simp<;>omega) fun V2=>
 .r 1<|.finRow (x:=([]:List (List AV))++(l.map intA)) (r:=l.map intA) [] trivial 5 3 1 (([]:List (List AV)).length+(l.map intA).length) V2 (by first | (simp;done) | (exfalso;have h0:l=[]:=(by simpa using hnb1 (by assumption));rw [h0] at h1;simp at h1))) Tryz.func157 rfl (by kernel_rfl) (by kernel_rfl)
theorem Qj2 (l:List Int) (h1:1≤l.length) (hl:l.length≤100000):Qaj Tryz.prog 97 [.sl 1 false (l.map intA)] (.sl 1 false ((Qck l).map intA)):=by
 exact Qac (F:=Tryz.f97) 400 (
 .r 1<|.r 1<|.op (crR Tryz.prog 30) (157,[.sl 1 false (l.map intA)],5) (fun (V:Value) σ=>(σ.put (some 5) (.rw 30 V (l.map intA).length)).setB 30 (.row V 3 1 (l.map intA))) (Qge (args':=[.sl 1 false (l.map intA)]) sr1 (Qth l h1 hl)) fun V1=>
 .r 1<|.lent 1<|.r 1<|.lop (lcR Tryz.prog 30) ((90,[.rw 30 V1 ((l.map intA).length)],some 7),.row V1 3 1 (l.map intA)) (fun (_:Unit) σ=>(σ.put (some 7) (.tup [])).setB 30 (.row V1 3 1 ((l.mergeSort fun x y=>decide (x≤y)).map intA))) (Qda (args':=[.rw 30 V1 l.length]) ⟨Sub.of_eq (congrArg (AV.rw 30 V1) (by simp)),trivial⟩ (Qm5 l V1 h1 (by omega))) fun _=>
 .lent 1<|.r 1<|.lop (lcR Tryz.prog 30) ((91,[.rw 30 V1 ((l.map intA).length)],some 9),.row V1 3 1 ((l.mergeSort fun x y=>decide (x≤y)).map intA)) (fun (_:Unit) σ=>(σ.put (some 9) (.sl 1 false ((Qck l).map intA))).setB 30 gone) (Qcn (args':=[.rw 30 V1 ((l.mergeSort fun x y=>decide (x≤y)).length)]) ⟨Sub.of_eq (congrArg (AV.rw 30 V1) (by simp [List.length_mergeSort])),trivial⟩ (Qi0 (l.mergeSort fun x y=>decide (x≤y)) V1 (by rw [List.length_mergeSort];exact h1) (by rw [List.length_mergeSort];omega))) fun _=>
 .r 1<|.fin (x:=.sl 1 false ((Qck l).map intA)) (r:=.sl 1 false ((Qck l).map intA)) [] trivial (by exact sR)) Tryz.func97 rfl (by kernel_rfl) (by kernel_rfl)
theorem Qti :Qed Tryz.prog 157 [.sl 1 false ([])] 3 1 ([]):=by
 exact Qee (F:=Tryz.f157) 400 (
 .r 1<|.r 1<|.isNil ([]) fun b1 hnb1=>
 .br 4 (b1) (fun q1=>have p1:=booT q1;.r 1<|.rowNil 199 2 3 1<|.finRow (x:=[]) (r:=[]) [] trivial 199 3 1 (0) (.slice none 0 0) (by first | (simp;done) | rfl))
 <| fun q1=>have p1:=booF q1;.lit0 fun V1=>.r 1<|.app 8 V1 ([]:List (List AV)) ([]) (by simp<;>omega) (by simp<;>omega) fun V2=>
 .r 1<|.finRow (x:=([]:List (List AV))++([])) (r:=[]) [] trivial 5 3 1 (([]:List (List AV)).length+([]:List (List AV)).length) V2 (by first | (simp;done) | rfl)) Tryz.func157 rfl (by kernel_rfl) (by kernel_rfl)
theorem Za0 (V:Value):Qja Tryz.prog 193 [.rw 30 V 0,aI 0,aI 0] (.row V 3 1 ([])) (.tup []) (.row V 3 1 ([])):=by
 exact Qil (q:=30) (F:=Tryz.f193) 400 (
 .run 3 [rng .i64 (0+1)] ⟨Qas (by omega) (by omega),trivial⟩<|
 let L1:Lp (Nat):=⟨fun a1=>⟨[(0,.rw 30 V 0),(1,aI 0),(2,aI 0),(6,aI (a1:Int))],[(30,.row V 3 1 ([]))]⟩,fun a1=>0-a1,fun a1=>1≤a1⟩
 .loop L1 1 (show 1≤1 from (Nat.le_refl _)) ⟨[(0,.rw 30 V 0),(1,aI 0),(2,aI 0),(6,aI (0+1))],[(30,.row V 3 1 ([]))]⟩ ⟨sR,sR,sR,Sub.of_eq (congrArg aI (by first | omega | rfl)),trivial⟩ ⟨⟨_,rfl,SubB.refl _⟩,trivial⟩ fun a1 ha1=>
 (fun (i:Nat) (hH1:1≤i)=>.r 3<|.is 12 (show (decide ((i:Int)<0))=false from (decide_eq_false (by omega)))<|.finB (x:=.tup []) (r:=.tup []) [] trivial (.row V 3 1 ([])) (by exact sR)) a1 ha1) Tryz.func193 rfl (by kernel_rfl) (by kernel_rfl)
theorem Qzm (V:Value) (lm:Int):Qja Tryz.prog 152 [.rw 30 V 0,aI 0,aI 0,aI lm] (.row V 3 1 ([])) (.tup []) (.row V 3 1 ([])):=by
 exact Qil (q:=30) (F:=Tryz.f152) 400 (
 .r 1<|.r 1<|let L1:Lp (Nat):=⟨fun a1=>⟨[(0,.rw 30 V 0),(1,aI 0),(2,aI 0),(3,aI lm),(8,aB true),(9,aB true)],[(30,.row V 3 1 ([]))]⟩,fun a1=>0-a1,fun a1=>0≤a1⟩
 .loop L1 0 (show 0≤0 from Nat.zero_le _) ⟨[(0,.rw 30 V 0),(1,aI 0),(2,aI 0),(3,aI lm),(8,aB true),(9,aB true)],[(30,.row V 3 1 ([]))]⟩ sr6 ⟨⟨_,rfl,SubB.refl _⟩,trivial⟩ fun a1 ha1=>
 (fun (k:Nat) (hH1:0≤k)=>.run 4 [rng .i64 (0-0)] ⟨Qas (by omega) (by omega),trivial⟩<|
 .r 2<|.is 23 (show (decide ((0-0)≤12))=true from (by decide))<|.lent 3<|.r 3<|.lop (lcR Tryz.prog 30) ((193,[.rw 30 V 0,aI 0,aI 0],some 27),.row V 3 1 ([])) (fun (_:Unit) σ=>(σ.put (some 27) (.tup [])).setB 30 (.row V 3 1 ([]))) (Qda (args':=[.rw 30 V 0,aI 0,aI 0]) sr3 (Za0 V)) fun _=>
 .finB (x:=.tup []) (r:=.tup []) [] trivial (.row V 3 1 ([])) (by exact sR)) a1 ha1) Tryz.func152 rfl (by kernel_rfl) (by kernel_rfl)
theorem Qm6 (V:Value):Qja Tryz.prog 90 [.rw 30 V 0] (.row V 3 1 ([])) (.tup []) (.row V 3 1 ([])):=by
 exact Qil (q:=30) (F:=Tryz.f90) 400 (
 .r 3<|.lent 5<|.r 3<|.op (cvR) (3,188,.int .i64 (0:Int),some 8) (fun (_:Unit) σ=>σ.put (some 8) (.val (.int .u64 (0:Int)))) (Qr7 (Qph (by kernel_rfl) (by kernel_rfl) (rngu (by omega) (by omega)))) fun _=>
 .callS (args0:=[.val (.int .u64 (0:Int))]) (args:=[.val (.int .u64 0)]) sr1 (Zeh 0 (by omega) (by omega))<|
 .lop (lcR Tryz.prog 30) ((152,[.rw 30 V 0,aI 0,aI (0:Int),aI (lenB 0)],some 10),.row V 3 1 ([])) (fun (_:Unit) σ=>(σ.put (some 10) (.tup [])).setB 30 (.row V 3 1 ([]))) (Qda (args':=[.rw 30 V 0,aI 0,aI 0,aI (lenB 0)]) ⟨sR,sR,Sub.of_eq (congrArg aI (by first | omega | rfl)),sR,trivial⟩ (Qzm V (lenB 0))) fun _=>
 .finB (x:=.tup []) (r:=.tup []) [] trivial (.row V 3 1 ([])) (by exact sR)) Tryz.func90 rfl (by kernel_rfl) (by kernel_rfl)
theorem Qi1 (V:Value):Qrw Tryz.prog 91 [.rw 30 V 0] (.row V 3 1 ([])) (.sl 1 false []):=by
 exact Qik (q:=30) (F:=Tryz.f91) 400 (
 .r 1<|.r 3<|.is 8 (show (decide ((0:Int)<2))=true from (by decide))<|.r 2<|.frz 30 [2] [] [V=V,0=([]:List (List AV)).length] ⟨rfl,(by first | rfl | (simp;done) | (simp;omega)),trivial⟩<|
 .fin (x:=.sl 1 false ([])) (r:=.sl 1 false []) [] trivial (by exact sR)) Tryz.func91 rfl (by kernel_rfl) (by kernel_rfl)
theorem Qq3 :Qaj Tryz.prog 97 [.sl 1 false ([])] (.sl 1 false []):=by
 exact Qac (F:=Tryz.f97) 400 (
 .r 1<|.r 1<|.op (crR Tryz.prog 30) (157,[.sl 1 false ([])],5) (fun (V:Value) σ=>(σ.put (some 5) (.rw 30 V ([]:List (List AV)).length)).setB 30 (.row V 3 1 (([]:List (List AV))))) (Qge (args':=[.sl 1 false ([])]) sr1 (Qti)) fun V1=>
 .r 1<|.lent 1<|.r 1<|.lop (lcR Tryz.prog 30) ((90,[.rw 30 V1 (([]:List (List AV)).length)],some 7),.row V1 3 1 ([]:List (List AV))) (fun (_:Unit) σ=>(σ.put (some 7) (.tup [])).setB 30 (.row V1 3 1 ([]))) (Qda (args':=[.rw 30 V1 0]) ⟨Sub.of_eq rfl,trivial⟩ (Qm6 V1)) fun _=>
 .lent 1<|.r 1<|.lop (lcR Tryz.prog 30) ((91,[.rw 30 V1 (([]:List (List AV)).length)],some 9),.row V1 3 1 ([])) (fun (_:Unit) σ=>(σ.put (some 9) (.sl 1 false ([]))).setB 30 gone) (Qcn (args':=[.rw 30 V1 0]) ⟨Sub.of_eq rfl,trivial⟩ (Qi1 V1)) fun _=>
 .r 1<|.fin (x:=.sl 1 false ([])) (r:=.sl 1 false []) [] trivial (by exact sR)) Tryz.func97 rfl (by kernel_rfl) (by kernel_rfl)
theorem Qq2 (l:List Int) (hl:l.length≤100000):Qaj Tryz.prog 97 [.sl 1 false (l.map intA)] (.sl 1 false ((Qck l).map intA)):=by
 cases l with
 | nil=>rw [show Qck []=[] from List.eq_nil_of_length_eq_zero (Nat.le_zero.1 (Qh4 []))];exact Qq3
 | cons x r=>exact Qj2 (x :: r) (by simp) hl
theorem Qsy (f:Fsy) (c:Cal) (okf:OkF f) (okc:OkCal c) (hp:Qal f):Qaj Tryz.prog 53 [.agg (fsyA f),.agg (calA c)] (.sl 1 false ((Qbu f c).map intA)):=by
 have hl:=hp.1
 have hr:=Qad hp
 have hcn:=okc.name
 have hcn2:=okc.name2
 have hct:=okc.text
 exact Qac (F:=Tryz.f53) 400 (
 .new fun b1=>.new fun b2=>.r 1<|.run 3 [b2=b2] rt1<|
 .br 16 (c.kind==15) (fun q1=>have p1:=beqT q1;.r 2<|.fin (x:=.sl 1 true ([[aI 0]])) (r:=.sl 1 false ((Qbu f c).map intA)) [] trivial (by
  rw [show Qbu f c=_ from if_pos (by omega)]
  exact Sub.loose _ _ _))
 <| fun q1=>have p1:=beqF q1;.run 4 [b2=b2,b2=b2] rt2<|
 .litN fun V1=>.r 1<|.run 7 [b2=b2,b2=b2] rt2<|
 let L1:Lp (Nat × Value):=⟨fun a1=>⟨[(2,.ptr 2 b1 0),(3,.ptr 3 b2 0),(29,aI (a1.1:Int)),(27,.sl 1 false ([c.ino,c.to].map intA)),(28,aI 2),(5,.rw 22 a1.2 ((lk0 f c ([c.ino,c.to].take a1.1)).length))],[(2,.box b1 28 (fsyA f)),(3,.box b2 33 (calA c)),(22,.row a1.2 3 1 ((lk0 f c ([c.ino,c.to].take a1.1)).map intA))]⟩,fun a1=>2-a1.1,fun a1=>a1.1≤2⟩
 .loop L1 (0,V1) (show 0≤2 from (by show 0≤2;omega)) ⟨[(2,.ptr 2 b1 0),(3,.ptr 3 b2 0),(29,aI 0),(27,.sl 1 true ([[aI c.ino],[aI c.to]])),(28,aI (([[aI c.ino],[aI c.to]]).length:Int)),(5,.rw 22 V1 2)],[(2,.box b1 28 (fsyA f)),(3,.box b2 33 (calA c)),(22,.row V1 3 1 ([[aI c.ino],[aI c.to]]))]⟩ ⟨sR,sR,Sub.of_eq (congrArg aI (by first | omega | rfl)),(Qnu _ _),sR,sR,trivial⟩ ⟨⟨_,rfl,SubB.refl _⟩,⟨_,rfl,SubB.refl _⟩,⟨_,rfl,SubB.of_eq rfl⟩,trivial⟩ fun a1 ha1=>
 (fun (k:Nat) (V:Value) (hH1:k≤2)=>have hk0:=Qs0 f c ([c.ino,c.to].take k) [c.ino,c.to];have hk1:(lk0 f c ([c.ino,c.to].take k)).length≤6:=(by have h2:([c.ino,c.to].take k).length≤2:=(by rw [List.length_take];simp only [List.length_cons,List.length_nil];omega);have h3:=hk0.2;unfold lk0;simp only [List.length_cons,List.length_nil] at h3;omega);.r 1<|.br 30 (decide ((k:Int)<2)) (fun q2=>have p2:=decT q2;.idxM ([c.ino,c.to]) intA k (m:=(k:Int)) rfl (by simp only [List.length_cons,List.length_nil];omega) fun x1 hx1=>
 .r 2<|.run 2 [b1=b1] rt1<|
 .call (Qhb f x1 hp)<|
 .r 3<|.new fun b3=>.run 2 [b3=b3] rt1<|
 .r 2<|.br 40 ((dirE f x1) != 0) (fun q3=>have p3:=bneT q3;.run 2 [rng .i64 ((k:Int)+1)] ⟨Qas (by omega) (by omega),trivial⟩<|
 .back L1 (k,V) ((k+1),V) (show (k+1)≤2 from (by show _≤2;omega)) (show 2-(k+1)<2-k from (by omega)) ⟨[(2,.ptr 2 b1 0),(3,.ptr 3 b2 0),(29,aI ((k:Int)+1)),(27,.sl 1 false ([c.ino,c.to].map intA)),(28,aI 2),(5,.rw 22 V ((lk0 f c ([c.ino,c.to].take k)).length))],[(2,.box b1 28 (fsyA f)),(3,.box b2 33 (calA c)),(22,.row V 3 1 ((lk0 f c ([c.ino,c.to].take k)).map intA))]⟩ ⟨sR,sR,Sub.of_eq (congrArg aI (by first | omega | rfl)),sR,sR,Sub.of_eq (congrArg (AV.rw 22 V) (by rw [show lk0 f c ([c.ino,c.to].take (k+1))=lk0 f c ([c.ino,c.to].take k) from by rw [Qkq hx1];unfold lk1;rw [if_neg (bneT q3)]])),trivial⟩ ⟨⟨_,rfl,SubB.refl _⟩,⟨_,rfl,SubB.refl _⟩,⟨_,rfl,SubB.of_eq (by rw [show lk0 f c ([c.ino,c.to].take (k+1))=lk0 f c ([c.ino,c.to].take k) from by rw [Qkq hx1];unfold lk1;rw [if_neg (bneT q3)]])⟩,trivial⟩)
 <| fun q3=>have p3:=bneF q3;.run 7 [b2=b2,b2=b2] rt2<|
 let L2:Lp (Nat × Value):=⟨fun a2=>⟨[(2,.ptr 2 b1 0),(3,.ptr 3 b2 0),(29,aI (k:Int)),(27,.sl 1 false ([c.ino,c.to].map intA)),(28,aI 2),(8,.ptr 8 b3 0),(47,aI (a2.1:Int)),(45,.sl 1 false ([c.name,c.name2].map txA)),(46,aI 2),(5,.rw 22 a2.2 ((lk2 (dirN f x1).l ([c.name,c.name2].take a2.1) (lk0 f c ([c.ino,c.to].take k))).length))],[(2,.box b1 28 (fsyA f)),(3,.box b2 33 (calA c)),(8,.box b3 84 [aI ((dirN f x1).ino),aI ((dirN f x1).kind),aI ((dirN f x1).links),aS ((dirN f x1).text),.sl 2 false ((dirN f x1).l.map entA)]),(22,.row a2.2 3 1 ((lk2 (dirN f x1).l ([c.name,c.name2].take a2.1) (lk0 f c ([c.ino,c.to].take k))).map intA))]⟩,fun a2=>2-a2.1,fun a2=>a2.1≤2⟩
 .loop L2 (0,V) (show 0≤2 from (by show 0≤2;omega)) ⟨[(2,.ptr 2 b1 0),(3,.ptr 3 b2 0),(29,aI (k:Int)),(27,.sl 1 false ([c.ino,c.to].map intA)),(28,aI 2),(8,.ptr 8 b3 0),(47,aI 0),(45,.sl 1 true ([[aS c.name],[aS c.name2]])),(46,aI (([[aS c.name],[aS c.name2]]).length:Int)),(5,.rw 22 V ((lk0 f c ([c.ino,c.to].take k)).length))],[(2,.box b1 28 (fsyA f)),(3,.box b2 33 (calA c)),(8,.box b3 84 [aI ((dirN f x1).ino),aI ((dirN f x1).kind),aI ((dirN f x1).links),aS ((dirN f x1).text),.sl 2 false ((dirN f x1).l.map entA)]),(22,.row V 3 1 ((lk0 f c ([c.ino,c.to].take k)).map intA))]⟩ ⟨sR,sR,sR,sR,sR,sR,Sub.of_eq (congrArg aI (by first | omega | rfl)),(Qw4 _ _),sR,sR,trivial⟩ ⟨⟨_,rfl,SubB.refl _⟩,⟨_,rfl,SubB.refl _⟩,⟨_,rfl,SubB.refl _⟩,⟨_,rfl,SubB.of_eq rfl⟩,trivial⟩ fun a2 ha2=>
 (fun (j:Nat) (Y:Value) (hH2:j≤2)=>have hj0:=(Qsz (dirN f x1).l ([c.name,c.name2].take j) (lk0 f c ([c.ino,c.to].take k))).2;have hj1:([c.name,c.name2].take j).length≤2:=(by rw [List.length_take];simp only [List.length_cons,List.length_nil];omega);.r 1<|.br 48 (decide ((j:Int)<2)) (fun q4=>have p4:=decT q4;.idxM ([c.name,c.name2]) txA j (m:=(j:Int)) rfl (by simp only [List.length_cons,List.length_nil];omega) fun x2 hx2=>
 have nlx2:x2.length≤1000000:=(by have h9:=List.mem_of_getElem? hx2;simp only [List.mem_cons,List.not_mem_nil,or_false] at h9;rcases h9 with e | e<;>rw [e]<;>assumption);.r 2<|.run 3 [b3=b3] rt1<|
 .call (Qfk ((dirN f x1).l) x2 (by have:=(Qc2 hp x1).2;omega) (Qc2 hp x1).1)<|
 .r 5<|.r 1<|.br 58 (isB ((dirN f x1).l) x2) (fun q5=>have p5:=booT q5;.r 3<|.app 8 Y ((lk2 (dirN f x1).l ([c.name,c.name2].take j) (lk0 f c ([c.ino,c.to].take k))).map intA) ([[aI (getI ((dirN f x1).l) x2)]]) (by simp only [List.length_map,List.length_cons,List.length_nil];omega) (by simp only [List.length_map,List.length_cons,List.length_nil];omega) fun V2=>
 .r 1<|.run 2 [rng .i64 ((j:Int)+1)] ⟨Qas (by omega) (by omega),trivial⟩<|
 .back L2 (j,Y) ((j+1),V2) (show (j+1)≤2 from (by show _≤2;omega)) (show 2-(j+1)<2-j from (by omega)) ⟨[(2,.ptr 2 b1 0),(3,.ptr 3 b2 0),(29,aI (k:Int)),(27,.sl 1 false ([c.ino,c.to].map intA)),(28,aI 2),(8,.ptr 8 b3 0),(47,aI ((j:Int)+1)),(45,.sl 1 false ([c.name,c.name2].map txA)),(46,aI 2),(5,.rw 22 V2 (((lk2 (dirN f x1).l ([c.name,c.name2].take j) (lk0 f c ([c.ino,c.to].take k))).map intA).length+([[aI (getI ((dirN f x1).l) x2)]]:List (List AV)).length))],[(2,.box b1 28 (fsyA f)),(3,.box b2 33 (calA c)),(8,.box b3 84 [aI ((dirN f x1).ino),aI ((dirN f x1).kind),aI ((dirN f x1).links),aS ((dirN f x1).text),.sl 2 false ((dirN f x1).l.map entA)]),(22,.row V2 3 1 (((lk2 (dirN f x1).l ([c.name,c.name2].take j) (lk0 f c ([c.ino,c.to].take k))).map intA)++([[aI (getI ((dirN f x1).l) x2)]])))]⟩ ⟨sR,sR,sR,sR,sR,sR,Sub.of_eq (congrArg aI (by first | omega | rfl)),sR,sR,Sub.of_eq (congrArg (AV.rw 22 V2) (by rw [Zad hx2 q5];simp)),trivial⟩ ⟨⟨_,rfl,SubB.refl _⟩,⟨_,rfl,SubB.refl _⟩,⟨_,rfl,SubB.refl _⟩,⟨_,rfl,SubB.of_eq (by rw [Zad hx2 q5];simp [intA])⟩,trivial⟩)
 <| fun q5=>have p5:=booF q5;.run 2 [rng .i64 ((j:Int)+1)] ⟨Qas (by omega) (by omega),trivial⟩<|
 .back L2 (j,Y) ((j+1),Y) (show (j+1)≤2 from (by show _≤2;omega)) (show 2-(j+1)<2-j from (by omega)) ⟨[(2,.ptr 2 b1 0),(3,.ptr 3 b2 0),(29,aI (k:Int)),(27,.sl 1 false ([c.ino,c.to].map intA)),(28,aI 2),(8,.ptr 8 b3 0),(47,aI ((j:Int)+1)),(45,.sl 1 false ([c.name,c.name2].map txA)),(46,aI 2),(5,.rw 22 Y ((lk2 (dirN f x1).l ([c.name,c.name2].take j) (lk0 f c ([c.ino,c.to].take k))).length))],[(2,.box b1 28 (fsyA f)),(3,.box b2 33 (calA c)),(8,.box b3 84 [aI ((dirN f x1).ino),aI ((dirN f x1).kind),aI ((dirN f x1).links),aS ((dirN f x1).text),.sl 2 false ((dirN f x1).l.map entA)]),(22,.row Y 3 1 ((lk2 (dirN f x1).l ([c.name,c.name2].take j) (lk0 f c ([c.ino,c.to].take k))).map intA))]⟩ ⟨sR,sR,sR,sR,sR,sR,Sub.of_eq (congrArg aI (by first | omega | rfl)),sR,sR,Sub.of_eq (congrArg (AV.rw 22 Y) (by rw [Zgq hx2 q5])),trivial⟩ ⟨⟨_,rfl,SubB.refl _⟩,⟨_,rfl,SubB.refl _⟩,⟨_,rfl,SubB.refl _⟩,⟨_,rfl,SubB.of_eq (by rw [Zgq hx2 q5])⟩,trivial⟩)
 <| fun q4=>have p4:=decF q4;.run 2 [rng .i64 ((k:Int)+1)] ⟨Qas (by omega) (by omega),trivial⟩<|
 .back L1 (k,V) ((k+1),Y) (show (k+1)≤2 from (by show _≤2;omega)) (show 2-(k+1)<2-k from (by omega)) ⟨[(2,.ptr 2 b1 0),(3,.ptr 3 b2 0),(29,aI ((k:Int)+1)),(27,.sl 1 false ([c.ino,c.to].map intA)),(28,aI 2),(5,.rw 22 Y ((lk2 (dirN f x1).l ([c.name,c.name2].take j) (lk0 f c ([c.ino,c.to].take k))).length))],[(2,.box b1 28 (fsyA f)),(3,.box b2 33 (calA c)),(22,.row Y 3 1 ((lk2 (dirN f x1).l ([c.name,c.name2].take j) (lk0 f c ([c.ino,c.to].take k))).map intA))]⟩ ⟨sR,sR,Sub.of_eq (congrArg aI (by first | omega | rfl)),sR,sR,Sub.of_eq (congrArg (AV.rw 22 Y) (by rw [show lk0 f c ([c.ino,c.to].take (k+1))=lk2 (dirN f x1).l ([c.name,c.name2].take j) (lk0 f c ([c.ino,c.to].take k)) from by rw [Qkq hx1];unfold lk1;rw [if_pos (bneF q3),show j=2 from by omega];rfl])),trivial⟩ ⟨⟨_,rfl,SubB.refl _⟩,⟨_,rfl,SubB.refl _⟩,⟨_,rfl,SubB.of_eq (by rw [show lk0 f c ([c.ino,c.to].take (k+1))=lk2 (dirN f x1).l ([c.name,c.name2].take j) (lk0 f c ([c.ino,c.to].take k)) from by rw [Qkq hx1];unfold lk1;rw [if_pos (bneF q3),show j=2 from by omega];rfl])⟩,trivial⟩) a2.1 a2.2 ha2)
 <| fun q2=>have p2:=decF q2;.frz 22 [5,30] [] [V=V,(lk0 f c ([c.ino,c.to].take k)).length=((lk0 f c ([c.ino,c.to].take k)).map intA).length] ⟨rfl,(by first | rfl | (simp;done) | (simp;omega)),trivial⟩<|
 .r 1<|.callS (args0:=[.sl 1 false ((lk0 f c ([c.ino,c.to].take k)).map intA)]) (args:=[.sl 1 false ((Qjz f c).map intA)]) ⟨Sub.of_eq (congrArg (AV.sl 1 false) (by rw [show k=2 from by omega];rfl)),trivial⟩ (Qj2 (Qjz f c) (by have:=Qlp f c;omega) (by have:=Qlp f c;omega))<|
 .r 1<|.fin (x:=.sl 1 false ((Qck (Qjz f c)).map intA)) (r:=.sl 1 false ((Qbu f c).map intA)) [] trivial (by
  rw [show Qbu f c=_ from if_neg (by omega)]
  exact sR)) a1.1 a1.2 ha1) Tryz.func53 rfl (by kernel_rfl) (by kernel_rfl)
structure Chg where
 ino:Int
 gone:Bool
 n:Nod
 deriving DecidableEq
def chgA (c:Chg):List AV:=[aI c.ino,aB c.gone,aI c.n.ino,aI c.n.kind,aI c.n.links,aS c.n.text,.sl 2 false (c.n.l.map entA)]
def chgR (c:Chg):List AV:=[aI c.ino,aB c.gone,aI c.n.ino,aI c.n.kind,aI c.n.links,aS c.n.text,bif c.gone then aN else .sl 2 false (c.n.l.map entA)]
theorem Zi8 {l:List Chg} {t:Bool} (h:∀ c∈l,c.gone=true→c.n.l=[]):Sub (.sl 7 t (l.map chgR)) (.sl 7 false (l.map chgA)):=
 (Sub.sl2 (xs:=l.map chgR) (ys:=l.map chgA) (by simp) (fun i a b ha hb=>by
  rw [List.getElem?_map] at ha hb
  cases hc:l[i]? with
  | none=>rw [hc] at ha;cases ha
  | some c=>
   rw [hc] at ha hb
   obtain rfl:=Option.some.inj ha
   obtain rfl:=Option.some.inj hb
   refine ⟨sR,sR,sR,sR,sR,sR,?_,trivial⟩
   cases hg:c.gone with
   | false=>exact sR
   | true=>
    rw [h c (List.mem_of_getElem? hc) hg]
    exact Sub.nil _ _)).trans (Sub.loose _ _ _)
def Qmv (l:List Int) (ns:List Nod):List Int:=ns.foldl (fun l n=>Qn5 l n.ino) l
theorem Qkp (l:List Int):∀ (ns:List Nod) ,(Qmv l ns).length≤l.length+ns.length:=by
 intro ns
 induction ns generalizing l with
 | nil=>exact Nat.le_refl _
 | cons n r ih=>
  have:=ih (Qn5 l n.ino)
  have:=Zc0 l n.ino
  show (Qmv (Qn5 l n.ino) r).length≤_
  simp only [List.length_cons]
  omega
def Qb7 (a b:Fsy):List Int:=Qmv (Qmv [] a.l) b.l
def chgD (a b:Fsy) (i:Int):Option Chg:=if Qar b i=false then some ⟨i,true,nod0⟩ else if Qar a i=false∨¬ Qaa a i=Qaa b i then some ⟨i,false,Qaa b i⟩ else none
def chgL (a b:Fsy) (k:Nat):List Chg:=((Qb7 a b).take k).filterMap (chgD a b)
def Qcd (a b:Fsy):List Chg:=(Qb7 a b).filterMap (chgD a b)
theorem Qhc {a b:Fsy} {k:Nat} {i:Int} {c:Chg} (hx:(Qb7 a b)[k]?=some i) (h:chgD a b i=some c):chgL a b (k+1)=chgL a b k++[c]:=by
 unfold chgL;rw [Qap hx,List.filterMap_append];simp [h]
theorem Zcd {a b:Fsy} {k:Nat} {i:Int} (hx:(Qb7 a b)[k]?=some i) (h:chgD a b i=none):chgL a b (k+1)=chgL a b k:=by
 unfold chgL;rw [Qap hx,List.filterMap_append];simp [h]
theorem Qgp (a b:Fsy) (k:Nat):(chgL a b k).length≤k:=by
 have:=List.length_filterMap_le (chgD a b) ((Qb7 a b).take k)
 rw [List.length_take] at this
 unfold chgL;omega
theorem Zfv {a b:Fsy} {k:Nat} (h:(Qb7 a b).length≤k):chgL a b k=Qcd a b:=by unfold chgL;rw [Qay h];rfl
theorem Qrf {a b:Fsy}:∀ c∈Qcd a b,c.gone=true→c.n.l=[]:=fun c hc hg=>by
 obtain ⟨i,_,h⟩:=List.mem_filterMap.1 hc
 unfold chgD at h
 split at h
 ·obtain rfl:=Option.some.inj h;rfl
 ·split at h
  ·obtain rfl:=Option.some.inj h;cases hg
  ·cases h
theorem Qlm {x:Int}:∀ {ns:List Nod} {l:List Int},x∈Qmv l ns↔x∈l∨x∈ns.map Nod.ino
 | [],l=>by simp [Qmv]
 | n :: r,l=>by
  show x∈Qmv (Qn5 l n.ino) r↔_
  rw [Qlm,Zcz,List.map_cons,List.mem_cons]
  constructor
  ·rintro ((h | h) | h)
   ·exact .inr (.inl h)
   ·exact .inl h
   ·exact .inr (.inr h)
  ·rintro (h | h | h)
   ·exact .inl (.inr h)
   ·exact .inl (.inl h)
   ·exact .inr h
theorem Qln:∀ {ns:List Nod} {l:List Int},Asc l→Asc (Qmv l ns)
 | [],_,h=>h
 | n :: r,l,h=>Qln (ns:=r) (Zc1 h n.ino)
theorem Zct (f g:Fsy):Asc (Qb7 f g):=Qln (Qln List.Pairwise.nil)
theorem Qrr {f g:Fsy} {x:Int}:x∈Qb7 f g↔x∈f.l.map Nod.ino∨x∈g.l.map Nod.ino:=by
 unfold Qb7
 rw [Qlm,Qlm]
 simp
theorem Zf8 (f g:Fsy):Qck ((f.l++g.l).map Nod.ino)=Qb7 f g:=Qtr (Qh5 _) (Zct f g) fun x=>by
 rw [Qgc,Qrr,List.map_append,List.mem_append]
structure ApOk (c:Chg):Prop where
 no:c.n.ino<1152921504606846977
 node:OkN c.n
theorem Qmi (f g:Fsy):(Qcd f g).length≤f.l.length+g.l.length:=by
 have h1:=List.length_filterMap_le (chgD f g) (Qb7 f g)
 have h2:=Qkp [] f.l
 have h3:=Qkp (Qmv [] f.l) g.l
 unfold Qcd
 unfold Qb7 at h1 ⊢
 simp at h2
 omega
end Go.Proofs.YtahlldgocpabjaaGreat
