import Derived.Test.YtahlldgocpabjaaGreatMrgAM
import Derived.Test.YtahlldgocpabjaaGreatMrgAL
set_option maxRecDepth 100000
set_option maxHeartbeats 8000000
set_option linter.unusedVariables false
set_option linter.unusedSimpArgs false
namespace Go.Proofs.YtahlldgocpabjaaGreat
open Go Go.RowKit Copyhold Go.Proofs.Tryz
def chnT (p:Chn × Bool):List AV:=[aI p.1.ino,.sl 7 p.2 (p.1.l.map verA)]
def Qbk (st:Int) (r:List Ver):List Ver:=r.filter fun u=>!(u.stamp==st)
theorem Qge {st:Int} {r:List Ver} {j:Nat} {x:Ver} (h:r[j]?=some x) (q:¬ x.stamp=st):Qbk st (r.take (j+1))=Qbk st (r.take j)++[x]:=by
 unfold Qbk;rw [Qam h,List.filter_append];simp [q]
theorem Qin {st:Int} {r:List Ver} {j:Nat} {x:Ver} (h:r[j]?=some x) (q:x.stamp=st):Qbk st (r.take (j+1))=Qbk st (r.take j):=by
 unfold Qbk;rw [Qam h,List.filter_append];simp [q]
theorem Qm9 (st:Int) (r:List Ver) (j:Nat):(Qbk st (r.take j)).length≤j:=by
 have:=List.length_filter_le (fun u:Ver=>!(u.stamp==st)) (r.take j);unfold Qbk;rw [List.length_take] at this;omega
def Qor (n:Int) (v:Ver) (p:List (Chn × Bool) × Bool) (c:Chn):List (Chn × Bool) × Bool:=
 if p.2=false∧c.ino>n then (p.1++[(⟨n,[v]⟩,true)],true) else p
def Qwl (n:Int) (v:Ver) (p:List (Chn × Bool) × Bool) (c:Chn):List (Chn × Bool) × Bool:=
 if c.ino=n then ((Qor n v p c).1++[(⟨n,Qbk v.stamp c.l++[v]⟩,false)],true) else ((Qor n v p c).1++[(c,false)],(Qor n v p c).2)
def cwK (n:Int) (v:Ver) (l:List Chn) (k:Nat):List (Chn × Bool) × Bool:=(l.take k).foldl (Qwl n v) ([],false)
theorem Qcb {n:Int} {v:Ver} {l:List Chn} {k:Nat} {c:Chn} (h:l[k]?=some c):cwK n v l (k+1)=Qwl n v (cwK n v l k) c:=by
 unfold cwK;rw [Qam h,List.foldl_append];rfl
theorem Qfb {n:Int} {v:Ver} {p:List (Chn × Bool) × Bool} {c:Chn} (h:p.2=false) (g:c.ino>n):Qor n v p c=(p.1++[(⟨n,[v]⟩,true)],true):=if_pos ⟨h,g⟩
theorem Qcv {n:Int} {v:Ver} {p:List (Chn × Bool) × Bool} {c:Chn} (h:p.2=true∨¬ c.ino>n):Qor n v p c=p:=if_neg (fun e=>by
 rcases h with h | h
 ·rw [e.1] at h;cases h
 ·exact h e.2)
theorem Qei {n:Int} {v:Ver} {p:List (Chn × Bool) × Bool} {c:Chn} (h:c.ino=n):Qwl n v p c=((Qor n v p c).1++[(⟨n,Qbk v.stamp c.l++[v]⟩,false)],true):=if_pos h
theorem Qdn {n:Int} {v:Ver} {p:List (Chn × Bool) × Bool} {c:Chn} (h:¬ c.ino=n):Qwl n v p c=((Qor n v p c).1++[(c,false)],(Qor n v p c).2):=if_neg h
theorem Zf9 (n:Int) (v:Ver) (l:List Chn):∀ k,(cwK n v l k).1.length≤2*k
 | 0=>by simp [cwK]
 | k+1=>by
  have ih:=Zf9 n v l k;by_cases hk:k<l.length
  ·rw [Qcb (List.getElem?_eq_getElem hk)];have h1:(Qor n v (cwK n v l k) l[k]).1.length≤(cwK n v l k).1.length+1:=by
    unfold Qor
    split
    ·simp
    ·omega
   unfold Qwl
   split
   ·simp;omega
   ·simp;omega
  ·have e:cwK n v l (k+1)=cwK n v l k:=by unfold cwK;rw [Qat (by omega),Qat (by omega)]
   rw [e];omega
def Qr6 (n:Int) (v:Ver) (l:List Chn):List (Chn × Bool):=if (cwK n v l l.length).2=false then (cwK n v l l.length).1++[(⟨n,[v]⟩,true)] else (cwK n v l l.length).1
theorem Qzk (l:List Chn) (n:Int) (v:Ver) (hl:l.length≤10000) (hv:∀ c∈l,c.l.length≤10000):Qah prog 109 [.sl 2 false (l.map chnA),aI n,.agg (verA v)] (.sl 2 false ((Qr6 n v l).map chnT)):=by
 exact Qac func109 (
 .new fun b1=>.r 1<|.r 1<|.rowNil 7 7 98 2<|.r 1<|.r 1<|let L1:Lp (Nat × Value):=⟨fun a1=>⟨[(0,.sl 2 false (l.map chnA)),(1,aI n),(5,.ptr 5 b1 0),(9,aI (a1.1:Int)),(7,.rw 7 a1.2 ((cwK n v l a1.1).1.length)),(8,aB ((cwK n v l a1.1).2))],[(5,.box b1 100 (verA v)),(7,.row a1.2 98 2 ((cwK n v l a1.1).1.map chnT))]⟩,fun a1=>l.length-a1.1,fun a1=>a1.1≤l.length⟩
 .lp L1 (0,.slice none 0 0) (show 0≤l.length from Nat.zero_le _) [(9,aI 0),(7,.rw 7 (.slice none 0 0) 0),(8,aB false)] [(7,.row (.slice none 0 0) 98 2 ([]))] ⟨sR,sR,sR,sO,Sub.of_eq rfl,Sub.of_eq rfl,trivial⟩ ⟨sB,⟨_,rfl,SubB.of_eq rfl⟩,trivial⟩ fun a1 ha1=>
 (fun (k:Nat) (V:Value) (hH1:k≤l.length)=>have hwl:=Zf9 n v l k;.r 3<|.lm 15 l chnA<|.r 1<|.bd 16 ((k:Int)<(l.length:Int)) (fun p1=>.r 2<|.idxM l chnA k (m:=(k:Int)) rfl (by omega) fun x1 hx1=>
 have hvx1:=hv x1 (List.mem_of_getElem? hx1);.r 1<|.new fun b2=>.u 1 [b2]<|
 .r 3<|.br 25 (!((cwK n v l k).2)) (fun q2=>have q2:=notT q2;have p2:=booF q2;.u 5 [b2]<|
 .bd 30 (x1.ino>n) (fun p3=>.u 6 [b1]<|
 .app 32 V ((cwK n v l k).1.map chnT) ([[aI n,.sl 7 true ([(verA v)])]]) (by simp only [List.length_map,List.length_cons,List.length_nil,List.length_append];omega) (by simp only [List.length_map,List.length_cons,List.length_nil,List.length_append];omega) fun V1=>
 .r 1<|.r 1<|.u 4 [b2]<|
 .be 41 x1.ino n (fun p4=>.r 1<|.rowNil 11 11 100 7<|.r 1<|let L2:Lp (Nat × Value):=⟨fun a2=>⟨[(0,.sl 2 false (l.map chnA)),(1,aI n),(5,.ptr 5 b1 0),(9,aI (k:Int)),(7,.rw 7 V1 (((cwK n v l k).1.map chnT).length+([[aI n,.sl 7 true ([(verA v)])]]:List (List AV)).length)),(10,.ptr 10 b2 0),(12,aI (a2.1:Int)),(11,.rw 11 a2.2 ((Qbk v.stamp (x1.l.take a2.1)).length))],[(5,.box b1 100 (verA v)),(7,.row V1 98 2 (((cwK n v l k).1.map chnT)++([[aI n,.sl 7 true ([(verA v)])]]))),(10,.box b2 98 [aI x1.ino,.sl 7 false (x1.l.map verA)]),(11,.row a2.2 100 7 ((Qbk v.stamp (x1.l.take a2.1)).map verA))]⟩,fun a2=>x1.l.length-a2.1,fun a2=>a2.1≤x1.l.length⟩
 .lp L2 (0,.slice none 0 0) (show 0≤x1.l.length from Nat.zero_le _) [(12,aI 0),(11,.rw 11 (.slice none 0 0) 0)] [(11,.row (.slice none 0 0) 100 7 ([]))] ⟨sR,sR,sR,sR,sR,sR,sO,Sub.of_eq rfl,trivial⟩ ⟨sB,sB,sB,⟨_,rfl,SubB.of_eq rfl⟩,trivial⟩ fun a2 ha2=>
 (fun (j:Nat) (U:Value) (hH2:j≤x1.l.length)=>have hol:=Qm9 v.stamp x1.l j;.u 4 [b2]<|
 .lm 45 x1.l verA<|.r 1<|.bd 46 ((j:Int)<(x1.l.length:Int)) (fun p5=>.ord [0,1,2,3,4,5,6,7,8]<|.u 3 [b2]<|
 .idxM x1.l verA j (m:=(j:Int)) rfl (by omega) fun x2 hx2=>
 .u 5 [b1]<|
 .bn 57 x2.stamp v.stamp (fun p6=>.u 4 [b2]<|
 .idx j (m:=(j:Int)) (xs:=x1.l.map verA) (e:=verA x2) rfl (map_some hx2)<|
 .r 2<|.app 80 U ((Qbk v.stamp (x1.l.take j)).map verA) ([(verA x2)]) (by simp only [List.length_map,List.length_cons,List.length_nil,List.length_append];omega) (by simp only [List.length_map,List.length_cons,List.length_nil,List.length_append];omega) fun V2=>
 .r 1<|.run 3 [rng .i64 ((j:Int)+1)] ⟨Qai (by omega) (by omega),trivial⟩<|
 .bk L2 (j,U) ((j+1),V2) (show (j+1)≤x1.l.length from (by show _≤_;omega)) (show x1.l.length-(j+1)<x1.l.length-j from (by omega)) [(12,aI ((j:Int)+1)),(11,.rw 11 V2 (((Qbk v.stamp (x1.l.take j)).map verA).length+([(verA x2)]:List (List AV)).length))] [(11,.row V2 100 7 (((Qbk v.stamp (x1.l.take j)).map verA)++([(verA x2)])))] ⟨sR,sR,sR,sR,sR,sR,sO,Sub.of_eq (congrArg (AV.rw 11 V2) (by rw [Qge hx2 p6];simp)),trivial⟩ ⟨sB,sB,sB,⟨_,rfl,SubB.of_eq (congrArg (Bx.row V2 100 7) (by rw [Qge hx2 p6];simp [verA]))⟩,trivial⟩)
 <| fun p6=>.run 3 [rng .i64 ((j:Int)+1)] ⟨Qai (by omega) (by omega),trivial⟩<|
 .bk L2 (j,U) ((j+1),U) (show (j+1)≤x1.l.length from (by show _≤_;omega)) (show x1.l.length-(j+1)<x1.l.length-j from (by omega)) [(12,aI ((j:Int)+1)),(11,.rw 11 U ((Qbk v.stamp (x1.l.take j)).length))] [(11,.row U 100 7 ((Qbk v.stamp (x1.l.take j)).map verA))] ⟨sR,sR,sR,sR,sR,sR,sO,Sub.of_eq (congrArg (AV.rw 11 U) (by rw [Qin hx2 p6])),trivial⟩ ⟨sB,sB,sB,⟨_,rfl,SubB.of_eq (congrArg (Bx.row U 100 7) (by rw [Qin hx2 p6]))⟩,trivial⟩)
 <| fun p5=>.u 4 [b1]<|
 .op (apF prog 100 7 80 11) (U,U,(Qbk v.stamp (x1.l.take j)).map verA,[(verA v)],70) (fun (_:Unit) σ=>(σ.put (some 70) (.sl 7 false (((Qbk v.stamp (x1.l.take j)).map verA)++([(verA v)])))).setB 11 (.row (.slice none 0 0) 100 7 [])) (Qqb (by simp only [List.length_map,List.length_cons,List.length_nil,List.length_append];omega) (by simp only [List.length_map,List.length_cons,List.length_nil,List.length_append];omega)) fun _=>
 .u 2 [b2]<|
 .r 1<|.u 3 [b2]<|
 .app 32 V1 (((cwK n v l k).1.map chnT)++([[aI n,.sl 7 true ([(verA v)])]])) ([[aI n,.sl 7 false (((Qbk v.stamp (x1.l.take j)).map verA)++([(verA v)]))]]) (by simp only [List.length_map,List.length_cons,List.length_nil,List.length_append];omega) (by simp only [List.length_map,List.length_cons,List.length_nil,List.length_append];omega) fun V3=>
 .r 1<|.run 3 [rng .i64 ((k:Int)+1)] ⟨Qai (by omega) (by omega),trivial⟩<|
 .bk L1 (k,V) ((k+1),V3) (show (k+1)≤l.length from (by show _≤_;omega)) (show l.length-(k+1)<l.length-k from (by omega)) [(9,aI ((k:Int)+1)),(7,.rw 7 V3 ((((cwK n v l k).1.map chnT)++([[aI n,.sl 7 true ([(verA v)])]])).length+([[aI n,.sl 7 false (((Qbk v.stamp (x1.l.take j)).map verA)++([(verA v)]))]]:List (List AV)).length)),(8,aB true)] [(7,.row V3 98 2 ((((cwK n v l k).1.map chnT)++([[aI n,.sl 7 true ([(verA v)])]]))++([[aI n,.sl 7 false (((Qbk v.stamp (x1.l.take j)).map verA)++([(verA v)]))]])))] ⟨sR,sR,sR,sO,Sub.of_eq (congrArg (AV.rw 7 V3) (by rw [Qcb hx1,Qei p4,Qfb q2 p3];simp)),Sub.of_eq (congrArg aB (by rw [Qcb hx1,Qei p4,Qfb q2 p3])),trivial⟩ ⟨sB,⟨_,rfl,SubB.of_eq (congrArg (Bx.row V3 98 2) (by rw [show x1.l.take j=x1.l from Qat (by omega)];rw [Qcb hx1,Qei p4,Qfb q2 p3];simp [chnT,verA]))⟩,trivial⟩) a2.1 a2.2 ha2)
 <| fun p4=>.u 3 [b2]<|
 .app 32 V1 (((cwK n v l k).1.map chnT)++([[aI n,.sl 7 true ([(verA v)])]])) ([[aI x1.ino,.sl 7 false (x1.l.map verA)]]) (by simp only [List.length_map,List.length_cons,List.length_nil,List.length_append];omega) (by simp only [List.length_map,List.length_cons,List.length_nil,List.length_append];omega) fun V4=>
 .r 1<|.run 3 [rng .i64 ((k:Int)+1)] ⟨Qai (by omega) (by omega),trivial⟩<|
 .bk L1 (k,V) ((k+1),V4) (show (k+1)≤l.length from (by show _≤_;omega)) (show l.length-(k+1)<l.length-k from (by omega)) [(9,aI ((k:Int)+1)),(7,.rw 7 V4 ((((cwK n v l k).1.map chnT)++([[aI n,.sl 7 true ([(verA v)])]])).length+([[aI x1.ino,.sl 7 false (x1.l.map verA)]]:List (List AV)).length)),(8,aB true)] [(7,.row V4 98 2 ((((cwK n v l k).1.map chnT)++([[aI n,.sl 7 true ([(verA v)])]]))++([[aI x1.ino,.sl 7 false (x1.l.map verA)]])))] ⟨sR,sR,sR,sO,Sub.of_eq (congrArg (AV.rw 7 V4) (by rw [Qcb hx1,Qdn p4,Qfb q2 p3];simp)),Sub.of_eq (congrArg aB (by rw [Qcb hx1,Qdn p4,Qfb q2 p3])),trivial⟩ ⟨sB,⟨_,rfl,SubB.of_eq (congrArg (Bx.row V4 98 2) (by rw [Qcb hx1,Qdn p4,Qfb q2 p3];simp [chnT,verA]))⟩,trivial⟩)
 <| fun p3=>.u 4 [b2]<|
 .be 41 x1.ino n (fun p7=>.r 1<|.rowNil 11 11 100 7<|.r 1<|let L2:Lp (Nat × Value):=⟨fun a2=>⟨[(0,.sl 2 false (l.map chnA)),(1,aI n),(5,.ptr 5 b1 0),(9,aI (k:Int)),(7,.rw 7 V ((cwK n v l k).1.length)),(10,.ptr 10 b2 0),(12,aI (a2.1:Int)),(11,.rw 11 a2.2 ((Qbk v.stamp (x1.l.take a2.1)).length))],[(5,.box b1 100 (verA v)),(7,.row V 98 2 ((cwK n v l k).1.map chnT)),(10,.box b2 98 [aI x1.ino,.sl 7 false (x1.l.map verA)]),(11,.row a2.2 100 7 ((Qbk v.stamp (x1.l.take a2.1)).map verA))]⟩,fun a2=>x1.l.length-a2.1,fun a2=>a2.1≤x1.l.length⟩
 .lp L2 (0,.slice none 0 0) (show 0≤x1.l.length from Nat.zero_le _) [(12,aI 0),(11,.rw 11 (.slice none 0 0) 0)] [(11,.row (.slice none 0 0) 100 7 ([]))] ⟨sR,sR,sR,sR,sR,sR,sO,Sub.of_eq rfl,trivial⟩ ⟨sB,sB,sB,⟨_,rfl,SubB.of_eq rfl⟩,trivial⟩ fun a2 ha2=>
 (fun (j:Nat) (U:Value) (hH2:j≤x1.l.length)=>have hol:=Qm9 v.stamp x1.l j;.u 4 [b2]<|
 .lm 45 x1.l verA<|.r 1<|.bd 46 ((j:Int)<(x1.l.length:Int)) (fun p8=>.ord [0,1,2,3,4,5,6,7,8]<|.u 3 [b2]<|
 .idxM x1.l verA j (m:=(j:Int)) rfl (by omega) fun x3 hx3=>
 .u 5 [b1]<|
 .bn 57 x3.stamp v.stamp (fun p9=>.u 4 [b2]<|
 .idx j (m:=(j:Int)) (xs:=x1.l.map verA) (e:=verA x3) rfl (map_some hx3)<|
 .r 2<|.app 80 U ((Qbk v.stamp (x1.l.take j)).map verA) ([(verA x3)]) (by simp only [List.length_map,List.length_cons,List.length_nil,List.length_append];omega) (by simp only [List.length_map,List.length_cons,List.length_nil,List.length_append];omega) fun V5=>
 .r 1<|.run 3 [rng .i64 ((j:Int)+1)] ⟨Qai (by omega) (by omega),trivial⟩<|
 .bk L2 (j,U) ((j+1),V5) (show (j+1)≤x1.l.length from (by show _≤_;omega)) (show x1.l.length-(j+1)<x1.l.length-j from (by omega)) [(12,aI ((j:Int)+1)),(11,.rw 11 V5 (((Qbk v.stamp (x1.l.take j)).map verA).length+([(verA x3)]:List (List AV)).length))] [(11,.row V5 100 7 (((Qbk v.stamp (x1.l.take j)).map verA)++([(verA x3)])))] ⟨sR,sR,sR,sR,sR,sR,sO,Sub.of_eq (congrArg (AV.rw 11 V5) (by rw [Qge hx3 p9];simp)),trivial⟩ ⟨sB,sB,sB,⟨_,rfl,SubB.of_eq (congrArg (Bx.row V5 100 7) (by rw [Qge hx3 p9];simp [verA]))⟩,trivial⟩)
 <| fun p9=>.run 3 [rng .i64 ((j:Int)+1)] ⟨Qai (by omega) (by omega),trivial⟩<|
 .bk L2 (j,U) ((j+1),U) (show (j+1)≤x1.l.length from (by show _≤_;omega)) (show x1.l.length-(j+1)<x1.l.length-j from (by omega)) [(12,aI ((j:Int)+1)),(11,.rw 11 U ((Qbk v.stamp (x1.l.take j)).length))] [(11,.row U 100 7 ((Qbk v.stamp (x1.l.take j)).map verA))] ⟨sR,sR,sR,sR,sR,sR,sO,Sub.of_eq (congrArg (AV.rw 11 U) (by rw [Qin hx3 p9])),trivial⟩ ⟨sB,sB,sB,⟨_,rfl,SubB.of_eq (congrArg (Bx.row U 100 7) (by rw [Qin hx3 p9]))⟩,trivial⟩)
 <| fun p8=>.u 4 [b1]<|
 .op (apF prog 100 7 80 11) (U,U,(Qbk v.stamp (x1.l.take j)).map verA,[(verA v)],70) (fun (_:Unit) σ=>(σ.put (some 70) (.sl 7 false (((Qbk v.stamp (x1.l.take j)).map verA)++([(verA v)])))).setB 11 (.row (.slice none 0 0) 100 7 [])) (Qqb (by simp only [List.length_map,List.length_cons,List.length_nil,List.length_append];omega) (by simp only [List.length_map,List.length_cons,List.length_nil,List.length_append];omega)) fun _=>
 .u 2 [b2]<|
 .r 1<|.u 3 [b2]<|
 .app 32 V ((cwK n v l k).1.map chnT) ([[aI n,.sl 7 false (((Qbk v.stamp (x1.l.take j)).map verA)++([(verA v)]))]]) (by simp only [List.length_map,List.length_cons,List.length_nil,List.length_append];omega) (by simp only [List.length_map,List.length_cons,List.length_nil,List.length_append];omega) fun V6=>
 .r 1<|.run 3 [rng .i64 ((k:Int)+1)] ⟨Qai (by omega) (by omega),trivial⟩<|
 .bk L1 (k,V) ((k+1),V6) (show (k+1)≤l.length from (by show _≤_;omega)) (show l.length-(k+1)<l.length-k from (by omega)) [(9,aI ((k:Int)+1)),(7,.rw 7 V6 (((cwK n v l k).1.map chnT).length+([[aI n,.sl 7 false (((Qbk v.stamp (x1.l.take j)).map verA)++([(verA v)]))]]:List (List AV)).length)),(8,aB true)] [(7,.row V6 98 2 (((cwK n v l k).1.map chnT)++([[aI n,.sl 7 false (((Qbk v.stamp (x1.l.take j)).map verA)++([(verA v)]))]])))] ⟨sR,sR,sR,sO,Sub.of_eq (congrArg (AV.rw 7 V6) (by rw [Qcb hx1,Qei p7,Qcv (.inr p3)];simp)),Sub.of_eq (congrArg aB (by rw [Qcb hx1,Qei p7,Qcv (.inr p3)])),trivial⟩ ⟨sB,⟨_,rfl,SubB.of_eq (congrArg (Bx.row V6 98 2) (by rw [show x1.l.take j=x1.l from Qat (by omega)];rw [Qcb hx1,Qei p7,Qcv (.inr p3)];simp [chnT,verA]))⟩,trivial⟩) a2.1 a2.2 ha2)
 <| fun p7=>.u 3 [b2]<|
 .app 32 V ((cwK n v l k).1.map chnT) ([[aI x1.ino,.sl 7 false (x1.l.map verA)]]) (by simp only [List.length_map,List.length_cons,List.length_nil,List.length_append];omega) (by simp only [List.length_map,List.length_cons,List.length_nil,List.length_append];omega) fun V7=>
 .r 1<|.run 3 [rng .i64 ((k:Int)+1)] ⟨Qai (by omega) (by omega),trivial⟩<|
 .bk L1 (k,V) ((k+1),V7) (show (k+1)≤l.length from (by show _≤_;omega)) (show l.length-(k+1)<l.length-k from (by omega)) [(9,aI ((k:Int)+1)),(7,.rw 7 V7 (((cwK n v l k).1.map chnT).length+([[aI x1.ino,.sl 7 false (x1.l.map verA)]]:List (List AV)).length)),(8,aB ((cwK n v l k).2))] [(7,.row V7 98 2 (((cwK n v l k).1.map chnT)++([[aI x1.ino,.sl 7 false (x1.l.map verA)]])))] ⟨sR,sR,sR,sO,Sub.of_eq (congrArg (AV.rw 7 V7) (by rw [Qcb hx1,Qdn p7,Qcv (.inr p3)];simp)),Sub.of_eq (congrArg aB (by rw [Qcb hx1,Qdn p7,Qcv (.inr p3)])),trivial⟩ ⟨sB,⟨_,rfl,SubB.of_eq (congrArg (Bx.row V7 98 2) (by rw [Qcb hx1,Qdn p7,Qcv (.inr p3)];simp [chnT,verA]))⟩,trivial⟩)
 <| fun q2=>have q2:=notF q2;have p2:=booT q2;.r 5<|.u 4 [b2]<|
 .be 41 x1.ino n (fun p10=>.r 1<|.rowNil 11 11 100 7<|.r 1<|let L2:Lp (Nat × Value):=⟨fun a2=>⟨[(0,.sl 2 false (l.map chnA)),(1,aI n),(5,.ptr 5 b1 0),(9,aI (k:Int)),(7,.rw 7 V ((cwK n v l k).1.length)),(10,.ptr 10 b2 0),(12,aI (a2.1:Int)),(11,.rw 11 a2.2 ((Qbk v.stamp (x1.l.take a2.1)).length))],[(5,.box b1 100 (verA v)),(7,.row V 98 2 ((cwK n v l k).1.map chnT)),(10,.box b2 98 [aI x1.ino,.sl 7 false (x1.l.map verA)]),(11,.row a2.2 100 7 ((Qbk v.stamp (x1.l.take a2.1)).map verA))]⟩,fun a2=>x1.l.length-a2.1,fun a2=>a2.1≤x1.l.length⟩
 .lp L2 (0,.slice none 0 0) (show 0≤x1.l.length from Nat.zero_le _) [(12,aI 0),(11,.rw 11 (.slice none 0 0) 0)] [(11,.row (.slice none 0 0) 100 7 ([]))] ⟨sR,sR,sR,sR,sR,sR,sO,Sub.of_eq rfl,trivial⟩ ⟨sB,sB,sB,⟨_,rfl,SubB.of_eq rfl⟩,trivial⟩ fun a2 ha2=>
 (fun (j:Nat) (U:Value) (hH2:j≤x1.l.length)=>have hol:=Qm9 v.stamp x1.l j;.u 4 [b2]<|
 .lm 45 x1.l verA<|.r 1<|.bd 46 ((j:Int)<(x1.l.length:Int)) (fun p11=>.ord [0,1,2,3,4,5,6,7,8]<|.u 3 [b2]<|
 .idxM x1.l verA j (m:=(j:Int)) rfl (by omega) fun x4 hx4=>
 .u 5 [b1]<|
 .bn 57 x4.stamp v.stamp (fun p12=>.u 4 [b2]<|
 .idx j (m:=(j:Int)) (xs:=x1.l.map verA) (e:=verA x4) rfl (map_some hx4)<|
 .r 2<|.app 80 U ((Qbk v.stamp (x1.l.take j)).map verA) ([(verA x4)]) (by simp only [List.length_map,List.length_cons,List.length_nil,List.length_append];omega) (by simp only [List.length_map,List.length_cons,List.length_nil,List.length_append];omega) fun V8=>
 .r 1<|.run 3 [rng .i64 ((j:Int)+1)] ⟨Qai (by omega) (by omega),trivial⟩<|
 .bk L2 (j,U) ((j+1),V8) (show (j+1)≤x1.l.length from (by show _≤_;omega)) (show x1.l.length-(j+1)<x1.l.length-j from (by omega)) [(12,aI ((j:Int)+1)),(11,.rw 11 V8 (((Qbk v.stamp (x1.l.take j)).map verA).length+([(verA x4)]:List (List AV)).length))] [(11,.row V8 100 7 (((Qbk v.stamp (x1.l.take j)).map verA)++([(verA x4)])))] ⟨sR,sR,sR,sR,sR,sR,sO,Sub.of_eq (congrArg (AV.rw 11 V8) (by rw [Qge hx4 p12];simp)),trivial⟩ ⟨sB,sB,sB,⟨_,rfl,SubB.of_eq (congrArg (Bx.row V8 100 7) (by rw [Qge hx4 p12];simp [verA]))⟩,trivial⟩)
 <| fun p12=>.run 3 [rng .i64 ((j:Int)+1)] ⟨Qai (by omega) (by omega),trivial⟩<|
 .bk L2 (j,U) ((j+1),U) (show (j+1)≤x1.l.length from (by show _≤_;omega)) (show x1.l.length-(j+1)<x1.l.length-j from (by omega)) [(12,aI ((j:Int)+1)),(11,.rw 11 U ((Qbk v.stamp (x1.l.take j)).length))] [(11,.row U 100 7 ((Qbk v.stamp (x1.l.take j)).map verA))] ⟨sR,sR,sR,sR,sR,sR,sO,Sub.of_eq (congrArg (AV.rw 11 U) (by rw [Qin hx4 p12])),trivial⟩ ⟨sB,sB,sB,⟨_,rfl,SubB.of_eq (congrArg (Bx.row U 100 7) (by rw [Qin hx4 p12]))⟩,trivial⟩)
 <| fun p11=>.u 4 [b1]<|
 .op (apF prog 100 7 80 11) (U,U,(Qbk v.stamp (x1.l.take j)).map verA,[(verA v)],70) (fun (_:Unit) σ=>(σ.put (some 70) (.sl 7 false (((Qbk v.stamp (x1.l.take j)).map verA)++([(verA v)])))).setB 11 (.row (.slice none 0 0) 100 7 [])) (Qqb (by simp only [List.length_map,List.length_cons,List.length_nil,List.length_append];omega) (by simp only [List.length_map,List.length_cons,List.length_nil,List.length_append];omega)) fun _=>
 .u 2 [b2]<|
 .r 1<|.u 3 [b2]<|
 .app 32 V ((cwK n v l k).1.map chnT) ([[aI n,.sl 7 false (((Qbk v.stamp (x1.l.take j)).map verA)++([(verA v)]))]]) (by simp only [List.length_map,List.length_cons,List.length_nil,List.length_append];omega) (by simp only [List.length_map,List.length_cons,List.length_nil,List.length_append];omega) fun V9=>
 .r 1<|.run 3 [rng .i64 ((k:Int)+1)] ⟨Qai (by omega) (by omega),trivial⟩<|
 .bk L1 (k,V) ((k+1),V9) (show (k+1)≤l.length from (by show _≤_;omega)) (show l.length-(k+1)<l.length-k from (by omega)) [(9,aI ((k:Int)+1)),(7,.rw 7 V9 (((cwK n v l k).1.map chnT).length+([[aI n,.sl 7 false (((Qbk v.stamp (x1.l.take j)).map verA)++([(verA v)]))]]:List (List AV)).length)),(8,aB true)] [(7,.row V9 98 2 (((cwK n v l k).1.map chnT)++([[aI n,.sl 7 false (((Qbk v.stamp (x1.l.take j)).map verA)++([(verA v)]))]])))] ⟨sR,sR,sR,sO,Sub.of_eq (congrArg (AV.rw 7 V9) (by rw [Qcb hx1,Qei p10,Qcv (.inl q2)];simp)),Sub.of_eq (congrArg aB (by rw [Qcb hx1,Qei p10,Qcv (.inl q2)])),trivial⟩ ⟨sB,⟨_,rfl,SubB.of_eq (congrArg (Bx.row V9 98 2) (by rw [show x1.l.take j=x1.l from Qat (by omega)];rw [Qcb hx1,Qei p10,Qcv (.inl q2)];simp [chnT,verA]))⟩,trivial⟩) a2.1 a2.2 ha2)
 <| fun p10=>.u 3 [b2]<|
 .app 32 V ((cwK n v l k).1.map chnT) ([[aI x1.ino,.sl 7 false (x1.l.map verA)]]) (by simp only [List.length_map,List.length_cons,List.length_nil,List.length_append];omega) (by simp only [List.length_map,List.length_cons,List.length_nil,List.length_append];omega) fun V10=>
 .r 1<|.run 3 [rng .i64 ((k:Int)+1)] ⟨Qai (by omega) (by omega),trivial⟩<|
 .bk L1 (k,V) ((k+1),V10) (show (k+1)≤l.length from (by show _≤_;omega)) (show l.length-(k+1)<l.length-k from (by omega)) [(9,aI ((k:Int)+1)),(7,.rw 7 V10 (((cwK n v l k).1.map chnT).length+([[aI x1.ino,.sl 7 false (x1.l.map verA)]]:List (List AV)).length)),(8,aB ((cwK n v l k).2))] [(7,.row V10 98 2 (((cwK n v l k).1.map chnT)++([[aI x1.ino,.sl 7 false (x1.l.map verA)]])))] ⟨sR,sR,sR,sO,Sub.of_eq (congrArg (AV.rw 7 V10) (by rw [Qcb hx1,Qdn p10,Qcv (.inl q2)];simp)),Sub.of_eq (congrArg aB (by rw [Qcb hx1,Qdn p10,Qcv (.inl q2)])),trivial⟩ ⟨sB,⟨_,rfl,SubB.of_eq (congrArg (Bx.row V10 98 2) (by rw [Qcb hx1,Qdn p10,Qcv (.inl q2)];simp [chnT,verA]))⟩,trivial⟩)
 <| fun p1=>.r 2<|.br 77 (!((cwK n v l k).2)) (fun q13=>have q13:=notT q13;have p13:=booF q13;.u 6 [b1]<|
 .app 32 V ((cwK n v l k).1.map chnT) ([[aI n,.sl 7 true ([(verA v)])]]) (by simp only [List.length_map,List.length_cons,List.length_nil,List.length_append];omega) (by simp only [List.length_map,List.length_cons,List.length_nil,List.length_append];omega) fun V11=>
 .r 1<|.r 2<|.frz 7 [6] [] [V11=V11,((cwK n v l k).1.map chnT).length+([[aI n,.sl 7 true ([(verA v)])]]:List (List AV)).length=(((cwK n v l k).1.map chnT)++([[aI n,.sl 7 true ([(verA v)])]])).length] ⟨rfl,(by first | rfl | (simp;done) | (simp;omega)),trivial⟩<|
 .f (.sl 2 false ((Qr6 n v l).map chnT)) [] (.sl 2 false (((cwK n v l k).1.map chnT)++([[aI n,.sl 7 true ([(verA v)])]]))) (by
  have hk:k=l.length:=by omega
  subst hk;unfold Qr6;rw [if_pos q13]
  first | exact sR | exact Sub.loose _ _ _ | (refine Sub.trans (Sub.loose _ _ _) (Sub.of_eq (congrArg (AV.sl 2 false) ?_));simp [chnT,verA])))
 <| fun q13=>have q13:=notF q13;have p13:=booT q13;.r 2<|.frz 7 [6] [] [V=V,(cwK n v l k).1.length=((cwK n v l k).1.map chnT).length] ⟨rfl,(by first | rfl | (simp;done) | (simp;omega)),trivial⟩<|
 .f (.sl 2 false ((Qr6 n v l).map chnT)) [] (.sl 2 false ((cwK n v l k).1.map chnT)) (by
  have hk:k=l.length:=by omega
  subst hk;unfold Qr6;rw [if_neg (by rw [q13];decide)]
  first | exact sR | exact Sub.loose _ _ _ | (refine Sub.trans (Sub.loose _ _ _) (Sub.of_eq (congrArg (AV.sl 2 false) ?_));simp [chnT,verA]))) a1.1 a1.2 ha1)
def Qr8 (n:Int) (v:Ver) (l:List Chn):List Chn:=(Qr6 n v l).map Prod.fst
theorem Qmx (l:List Chn) (n:Int) (v:Ver) (hl:l.length≤10000) (hv:∀ c∈l,c.l.length≤10000):Qah prog 109 [.sl 2 false (l.map chnA),aI n,.agg (verA v)] (.sl 2 false ((Qr8 n v l).map chnA)):=by
 refine (Qzk l n v hl hv).sub rfl (fun j x y hx hy=>by have e:some x=some y:=hx.symm.trans hy;cases e;exact sR) ?_;refine Sub.sl2 (by unfold Qr8;simp) (fun i a b ha hb=>?_);unfold Qr8 at hb;rw [List.getElem?_map] at ha hb;rw [List.getElem?_map] at hb;cases hp:(Qr6 n v l)[i]? with
 | none=>rw [hp] at ha;cases ha
 | some p=>
  rw [hp] at ha hb;obtain rfl:=Option.some.inj ha;obtain rfl:=Option.some.inj hb;exact ⟨sR,Sub.loose _ _ _,trivial⟩
theorem Qwk {n:Int} {v:Ver}:∀ (l:List Chn) (acc:List (Chn × Bool)),(∀ c∈l,¬ c.ino=n)→l.foldl (Qwl n v) (acc,true)=(acc++l.map (fun c=>(c,false)),true)
 | [],acc,_=>by simp
 | c :: r,acc,h=>by
  rw [List.foldl_cons,Qdn (h c (by simp)),Qcv (.inl rfl),Qwk r _ (fun d hd=>h d (by simp [hd]))];simp
theorem Zmj {c:Chn} {r:List Chn} {st n:Int} {v:Ver} (h:c.ino<n):putC (c :: r) st n v=c :: putC r st n v:=by
 have e:Qao (c :: r) n=Qao r n+1:=by unfold Qao;rw [List.takeWhile_cons,if_pos (by simpa using h)];rfl
 have t:Qcd (c :: r) n=Qcd r n:=by unfold Qcd;rw [e];rfl
 unfold putC;rw [t,e]
 split
 ·rw [List.getElem?_cons_succ]
  split<;>rfl
 ·rfl
theorem Zc9 {c:Chn} {r:List Chn} {st:Int} {v:Ver}:putC (c :: r) st c.ino v=⟨c.ino,Qb3 c.l st++[v]⟩ :: r:=by
 have e:Qao (c :: r) c.ino=0:=by unfold Qao;rw [List.takeWhile_cons,if_neg (by simp)];rfl
 rw [Qgb (c:=c) (by unfold Qcd;rw [e];simp) (by rw [e];rfl),e];rfl
theorem Zia {c:Chn} {r:List Chn} {st n:Int} {v:Ver} (h:c.ino>n):putC (c :: r) st n v=⟨n,[v]⟩ :: c :: r:=by
 have e:Qao (c :: r) n=0:=by unfold Qao;rw [List.takeWhile_cons,if_neg (by simp;omega)];rfl
 rw [Qim (by unfold Qcd;rw [e];simp;omega),e];rfl
def finW (n:Int) (v:Ver) (p:List (Chn × Bool) × Bool):List (Chn × Bool):=if p.2=false then p.1++[(⟨n,[v]⟩,true)] else p.1
theorem Zlj {n st:Int} {v:Ver} (hs:v.stamp=st):∀ (l:List Chn) (acc:List (Chn × Bool)),Qha l→(∀ c∈l,Qbk st c.l=Qb3 c.l st)→(finW n v (l.foldl (Qwl n v) (acc,false))).map Prod.fst=acc.map Prod.fst++putC l st n v
 | [],acc,_,_=>by
  rw [Qim (l:=[]) rfl];simp [finW]
 | c :: r,acc,hr,ho=>by
  have hr1:=List.pairwise_cons.1 hr;rw [List.foldl_cons];by_cases h1:c.ino<n
  ·rw [Qdn (by omega),Qcv (.inr (by omega)),Zlj hs r _ hr1.2 (fun d hd=>ho d (by simp [hd])),Zmj h1];simp
  ·by_cases h2:c.ino=n
   ·subst h2;rw [Qei rfl,Qcv (.inr (by omega)),Qwk r _ (fun d hd=>by have:=hr1.1 d hd;omega),Zc9,hs,ho c (by simp)];simp [finW,List.map_map,Function.comp_def]
   ·have h3:c.ino>n:=by omega
    rw [Qdn h2,Qfb rfl h3,Qwk r _ (fun d hd=>by have:=hr1.1 d hd;omega),Zia h3];simp [finW,List.map_map,Function.comp_def]
theorem Zbk {l:List Chn} {n st:Int} {v:Ver} (hs:v.stamp=st) (hr:Qha l) (ho:∀ c∈l,Qbk st c.l=Qb3 c.l st):Qr8 n v l=putC l st n v:=by
 have h:=Zlj (n:=n) hs l [] hr ho;rw [List.map_nil,List.nil_append] at h;rw [← h];unfold Qr8 Qr6 finW cwK;rw [List.take_length]
def Zg5 (st:Int) (r:List Ver):Prop:=(∀ v∈r.take (r.length-1),v.stamp<st)∧∀ v∈r,v.stamp≤st
theorem Qpb {st:Int} {r:List Ver} (h:∀ v∈r,v.stamp<st):Qbk st r=r:=by
 unfold Qbk;refine List.filter_eq_self.2 fun v hv=>?_;have:=h v hv;simp;omega
theorem Qih {st:Int} {b:List Ver} {v:Ver} (h:∀ u∈b,u.stamp<st) (hv:v.stamp=st):Zg5 st (b++[v]):=by
 refine ⟨fun u hu=>?_,fun u hu=>?_⟩
 ·rw [List.length_append,List.length_singleton,Nat.add_sub_cancel,List.take_left'] at hu
  ·exact h u hu
  ·rfl
 ·rcases List.mem_append.1 hu with hu | hu
  ·have:=h u hu;omega
  ·obtain rfl:=List.mem_singleton.1 hu;omega
theorem Qxb {st:Int} {r:List Ver} {v:Ver} (h:Zg5 st r) (hv:v.stamp=st):Zg5 st (Qb3 r st++[v])∧Qbk st r=Qb3 r st:=by
 rcases List.eq_nil_or_concat r with rfl | ⟨b,x,rfl⟩
 ·rw [Qy0];exact ⟨Qih (fun u hu=>by cases hu) hv,rfl⟩
 ·rw [List.concat_eq_append] at *;have hx:(b++[x])[(b++[x]).length-1]?=some x:=by simp
  have ht:(b++[x]).take ((b++[x]).length-1)=b:=by simp
  have hb:∀ u∈b,u.stamp<st:=fun u hu=>h.1 u (by rw [ht];exact hu);have hxs:=h.2 x (by simp);by_cases e:x.stamp=st
  ·rw [Qrr hx e,ht];refine ⟨Qih hb hv,?_⟩;have h1:=Qpb hb;unfold Qbk at h1 ⊢;rw [List.filter_append,h1];simp [e]
  ·have ha:∀ u∈b++[x],u.stamp<st:=fun u hu=>by
    rcases List.mem_append.1 hu with hu | hu
    ·exact hb u hu
    ·obtain rfl:=List.mem_singleton.1 hu;omega
   rw [Qwt hx e];exact ⟨Qih ha hv,Qpb ha⟩
theorem Qti {l:List Chn} {st:Int} {cs:List Chg} (hl:∀ c∈l,∀ v∈c.l,v.stamp<st):∀ c∈Qoo l st cs,Zg5 st c.l:=
 Qnt (P:=fun c=>Zg5 st c.l) (fun c hc=>⟨fun v hv=>hl c hc v (List.mem_of_mem_take hv),fun v hv=>by have:=hl c hc v hv;omega⟩)
  (fun c _=>Qih (b:=[]) (fun u hu=>by cases hu) (Qcc c st))
  (fun c _ d hd=>(Qxb hd (Qcc c st)).1)
theorem Qtj {st:Int}:∀ {cs:List Chg} {l:List Chn},Qha l→Qha (Qoo l st cs)
 | [],_,h=>h
 | c :: r,l,h=>Qtj (cs:=r) (l:=putC l st c.ino (Qak c st)) (Qm2 h)
theorem Ze2 (l:List Chn) (st:Int) (cs:List Chg) (k:Nat):Qas l st cs k=Qoo l st (cs.take k):=rfl
theorem Qr5 {s:Sto} {cs:List Chg} {k:Nat} {c:Chg} (hp:Qch s) (h:cs[k]?=some c):Qr8 c.ino (Qak c (s.stamp+1)) (Qas s.l (s.stamp+1) cs k)=Qas s.l (s.stamp+1) cs (k+1):=by
 rw [Qcq h];refine Zbk (Qcc c _) (by rw [Ze2];exact Qtj (Qmz hp)) fun d hd=>?_;rw [Ze2] at hd;refine (Qxb (Qti (fun c hc v hv=>?_) d hd) (Qcc c _)).2;obtain ⟨i,hi⟩:=List.getElem?_of_mem hv;have:=((Qrq hp hc).2.1.2.at hi).2.1;omega
end Go.Proofs.YtahlldgocpabjaaGreat
