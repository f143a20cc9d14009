import Derived.Test.YtahlldgocpabjaaGreatMrgAJ
set_option maxRecDepth 100000
set_option maxHeartbeats 8000000
set_option linter.unusedVariables false
set_option linter.unusedSimpArgs false
namespace Go.Proofs.YtahlldgocpabjaaGreat
open Go Go.RowKit Copyhold Go.Proofs.Tryz
theorem Qy4 (l:List Ver) (i:Nat) (c:Ver) (hi:i≤l.length) (hn:l.length≤100000):Qah prog 105 [.sl 7 false (l.map verA),aI (i:Int),.agg (verA c)] (.sl 7 false ((l.take i++c :: l.drop i).map verA)):=by
 exact Qac func105 (
 .new fun b1=>.r 1<|.ord [0,1,2,3,4,5,6,7,8,9,10]<|.r 3<|.lm 9 l verA<|.r 2<|.lm 11 l verA<|.slc 7 false (l.map verA) none (some (l.length:Int)) (some (l.length:Int)) 0 l.length true (.inl ⟨rfl,rfl⟩) (.inr rfl) (.inr ⟨rfl,rfl⟩) (by first | omega | (simp;done) | (simp;omega)) (by first | omega | (simp;done) | (simp;omega))<|
 .u 3 [b1]<|
 .cs (args0:=[.sl 7 true (((l.map verA).take l.length).drop 0),aI (i:Int),.sl 7 true ([(verA c)])]) (Ze4 (l.map verA) ([(verA c)]) i false (by rw [List.length_map];omega) (by simp) (by rw [List.length_map];omega) (by simp) (fun l h=>by obtain ⟨z,_,rfl⟩:=List.mem_map.1 h;rfl) (fun l h=>by obtain rfl:=List.mem_singleton.1 h;rfl)) ⟨Sub.of_eq (by rw [List.drop_zero,List.take_of_length_le (by simp)]),sR,Sub.loose _ _ _,trivial⟩<|
 .r 1<|.f (.sl 7 false ((l.take i++c :: l.drop i).map verA)) [] (.sl 7 false ((l.map verA).take i++[(verA c)]++(l.map verA).drop i)) (by exact Sub.of_eq (by simp [verA,List.map_take,List.map_drop])))
theorem Qy5 (l:List Cnt) (i:Nat) (c:Cnt) (hi:i≤l.length) (hn:l.length≤100000):Qah prog 107 [.sl 2 false (l.map cntA),aI (i:Int),.agg [aI c.stamp,aI c.next]] (.sl 2 false ((l.take i++c :: l.drop i).map cntA)):=by
 exact Qac func107 (
 .new fun b1=>.r 1<|.ord [0,1,2,3,4,5,6,7,8,9,10]<|.r 3<|.lm 9 l cntA<|.r 2<|.lm 11 l cntA<|.slc 2 false (l.map cntA) none (some (l.length:Int)) (some (l.length:Int)) 0 l.length true (.inl ⟨rfl,rfl⟩) (.inr rfl) (.inr ⟨rfl,rfl⟩) (by first | omega | (simp;done) | (simp;omega)) (by first | omega | (simp;done) | (simp;omega))<|
 .u 3 [b1]<|
 .cs (args0:=[.sl 2 true (((l.map cntA).take l.length).drop 0),aI (i:Int),.sl 2 true ([[aI c.stamp,aI c.next]])]) (Ze5 (l.map cntA) ([[aI c.stamp,aI c.next]]) i false (by rw [List.length_map];omega) (by simp) (by rw [List.length_map];omega) (by simp) (fun l h=>by obtain ⟨z,_,rfl⟩:=List.mem_map.1 h;rfl) (fun l h=>by obtain rfl:=List.mem_singleton.1 h;rfl)) ⟨Sub.of_eq (by rw [List.drop_zero,List.take_of_length_le (by simp)]),sR,Sub.loose _ _ _,trivial⟩<|
 .r 1<|.f (.sl 2 false ((l.take i++c :: l.drop i).map cntA)) [] (.sl 2 false ((l.map cntA).take i++[[aI c.stamp,aI c.next]]++(l.map cntA).drop i)) (by exact Sub.of_eq (by simp [cntA,List.map_take,List.map_drop])))
theorem Zbj (l:List Chn) (i:Nat) (c:Chn) (hi:i≤l.length) (hn:l.length≤100000):Qej prog 104 [.sl 2 false (l.map chnA),aI (i:Int),.agg [aI c.ino,.sl 7 false (c.l.map verA)]] 98 2 ((l.take i++c :: l.drop i).map chnA):=by
 exact Qez func104 (
 .new fun b1=>.r 1<|.ord [0,1,2,3,4,5,6,7,8,9,10]<|.r 3<|.lm 9 l chnA<|.r 2<|.lm 11 l chnA<|.slc 2 false (l.map chnA) none (some (l.length:Int)) (some (l.length:Int)) 0 l.length true (.inl ⟨rfl,rfl⟩) (.inr rfl) (.inr ⟨rfl,rfl⟩) (by first | omega | (simp;done) | (simp;omega)) (by first | omega | (simp;done) | (simp;omega))<|
 .u 3 [b1]<|
 .op (crR prog 16) (160,[.sl 2 true (((l.map chnA).take l.length).drop 0),aI (i:Int),.sl 2 true ([[aI c.ino,.sl 7 false (c.l.map verA)]])],16) (fun (V:Value) σ=>(σ.put (some 16) (.rw 16 V ((l.map chnA).take i++[[aI c.ino,.sl 7 false (c.l.map verA)]]++(l.map chnA).drop i).length)).setB 16 (.row V 98 2 ((l.map chnA).take i++[[aI c.ino,.sl 7 false (c.l.map verA)]]++(l.map chnA).drop i))) (Qhl (args':=[.sl 2 true (l.map chnA),aI (i:Int),.sl 2 false ([[aI c.ino,.sl 7 false (c.l.map verA)]])]) ⟨Sub.of_eq (by rw [List.drop_zero,List.take_of_length_le (by simp)]),sR,Sub.loose _ _ _,trivial⟩ (Zi7 (l.map chnA) ([[aI c.ino,.sl 7 false (c.l.map verA)]]) i false (by rw [List.length_map];omega) (by simp) (by rw [List.length_map];omega) (by simp) (fun l h=>by obtain ⟨z,_,rfl⟩:=List.mem_map.1 h;rfl) (fun l h=>by obtain rfl:=List.mem_singleton.1 h;rfl))) fun V1=>
 .r 1<|.finRow (x:=(l.map chnA).take i++[[aI c.ino,.sl 7 false (c.l.map verA)]]++(l.map chnA).drop i) (r:=(l.take i++c :: l.drop i).map chnA) [] trivial 16 98 2 (((l.map chnA).take i++[[aI c.ino,.sl 7 false (c.l.map verA)]]++(l.map chnA).drop i).length) V1 (by simp [chnA,List.map_take,List.map_drop]))
def Qao (l:List Chn) (n:Int):Nat:=(l.takeWhile fun c=>decide (c.ino<n)).length
def Qcd (l:List Chn) (n:Int):Bool:=match l[Qao l n]? with | some c=>c.ino==n | none=>false
theorem Qs1 {n:Int}:∀ {l:List Chn},AllQ (fun _ c=>c.ino<n) l→Qao l n=l.length
 | [],_=>rfl
 | x :: r,h=>by
  have h1:x.ino<n:=h 0 x rfl;have h2:=Qs1 (l:=r) fun i e he=>h (i+1) e (by simpa using he);unfold Qao at h2 ⊢;simp [h1,h2]
theorem Qql {n:Int}:∀ {l:List Chn} {k:Nat} {x:Chn},Qa3 (fun _ c=>c.ino<n) l k→l[k]?=some x→¬ x.ino<n→Qao l n=k
 | y :: r,0,x,_,hx,hp=>by
  simp at hx;subst hx;unfold Qao;simp [hp]
 | y :: r,k+1,x,h,hx,hp=>by
  have h1:y.ino<n:=h 0 y (by omega) rfl;have h2:=Qql (l:=r) (k:=k) (fun j e hj he=>h (j+1) e (by omega) (by simpa using he)) (by simpa using hx) hp;unfold Qao at h2 ⊢;simp [h1,h2]
theorem Qw5 {n:Int} {l:List Chn} {k:Nat} {x:Chn} (h:Qao l n=k) (hx:l[k]?=some x):Qcd l n=(x.ino==n):=by
 unfold Qcd;rw [h,hx]
theorem Zbs {n:Int} {l:List Chn} (h:Qao l n=l.length):Qcd l n=false:=by
 unfold Qcd;rw [h,List.getElem?_eq_none (Nat.le_refl _)]
def Qak (c:Chg) (st:Int):Ver:=if c.gone then ⟨st,true,nod0⟩ else ⟨st,false,⟨c.ino,c.n.kind,c.n.links,c.n.text,c.n.l⟩⟩
theorem Qvq (l:List Chn) (n:Int) (hl:l.length≤100000):Qah prog 103 [.sl 2 false (l.map chnA),aI n] (.tup [aI (Qao l n:Int),aB (Qcd l n)]):=by
 exact Qac func103 (
 .r 2<|.r 2<|.lm 11 l chnA<|.r 2<|.r 2<|.lm 13 l chnA<|.r 1<|let L1:Lp (Nat):=⟨fun a1=>⟨[(1,aI n),(12,.sl 2 false (l.map chnA)),(13,aI (l.length:Int)),(14,aI (a1:Int)),(6,aI (l.length:Int)),(7,aB false)],[]⟩,fun a1=>l.length-a1,fun a1=>a1≤l.length∧Qa3 (fun _ c=>c.ino<n) l a1⟩
 .lp L1 0 ⟨Nat.zero_le _,Qa3.zero _ _⟩ [(14,aI 0)] [] ⟨sR,sR,sR,sO,sR,sR,trivial⟩ trivial fun a1 ha1=>
 (fun (k:Nat) (hH1:k≤l.length∧Qa3 (fun _ c=>c.ino<n) l k)=>.r 1<|.bd 15 ((k:Int)<(l.length:Int)) (fun p1=>.r 1<|.idxM l chnA k (m:=(k:Int)) rfl (by omega) fun x1 hx1=>
 .r 1<|.new fun b1=>.u 2 [b1]<|
 .u 5 [b1]<|
 .bd 19 (x1.ino<n) (fun p2=>.run 2 [rng .i64 ((k:Int)+1)] ⟨Qai (by omega) (by omega),trivial⟩<|
 .bk L1 k (k+1) ⟨by omega,hH1.2.step hx1 (by omega)⟩ (show l.length-(k+1)<l.length-k from (by omega)) [(14,aI ((k:Int)+1))] [] ⟨sR,sR,sR,sO,sR,sR,trivial⟩ trivial)
 <| fun p2=>.u 5 [b1]<|
 .br 24 (x1.ino==n) (fun q3=>have p3:=beqT q3;.r 1<|.r 2<|.r 4<|.f (.tup [aI (Qao l n:Int),aB (Qcd l n)]) [] (.tup [aI (k:Int),aB true]) (by
  have e:=Qql hH1.2 hx1 (by omega);rw [Qw5 e hx1,e,show (x1.ino==n)=true from q3];exact sR))
 <| fun q3=>have p3:=beqF q3;.r 2<|.r 4<|.f (.tup [aI (Qao l n:Int),aB (Qcd l n)]) [] (.tup [aI (k:Int),aB false]) (by
  have e:=Qql hH1.2 hx1 (by omega);rw [Qw5 e hx1,e,show (x1.ino==n)=false from q3];exact sR))
 <| fun p1=>.r 4<|.f (.tup [aI (Qao l n:Int),aB (Qcd l n)]) [] (.tup [aI (l.length:Int),aB false]) (by
  have e:=Qs1 (hH1.2.full (by omega));rw [Zbs e,e];exact sR)) a1 ha1)
theorem Qfg (c:Chg) (st:Int):Qah prog 106 [.agg (chgA c),aI st] (.agg (verA (Qak c st))):=by
 exact Qac func106 (
 .new fun b1=>.new fun b2=>.u 2 [b1]<|
 .br 7 (c.gone) (fun q1=>have p1:=booT q1;.u 3 [b2]<|
 .f (.agg (verA (Qak c st))) [b2] (.agg [aI st,aB true,aI 0,aI 0,aI 0,aS ([]),aN]) (by
  rw [show Qak c st=⟨st,true,nod0⟩ from if_pos q1];exact Sub.aggs ⟨sR,sR,sR,sR,sR,sR,Sub.nil _ _,trivial⟩))
 <| fun q1=>have p1:=booF q1;.u 4 [b1]<|
 .new fun b3=>.u 1 [b3]<|
 .u 5 [b1,b3]<|
 .u 2 [b3,b2]<|
 .f (.agg (verA (Qak c st))) [b2] (.agg [aI st,aB false,aI c.ino,aI c.n.kind,aI c.n.links,aS c.n.text,.sl 2 false (c.n.l.map entA)]) (by
  rw [show Qak c st=_ from if_neg (by rw [q1];simp)];exact sR))
theorem Qrl {α:Type} {f:α→Int} {l:List α} {st b:Int} (h:∀ x∈l,f x≤st) (hb:st≤b):cutV f b l=l.length:=by
 refine Qgn _ _ _ _ (Nat.le_refl _) (fun j x hj hx=>by have:=Qan hx;omega) ?_;cases l with
 | nil=>exact .inl rfl
 | cons v r=>
  right;have hlt:(v :: r).length-1<(v :: r).length:=by simp
  refine ⟨(v :: r)[(v :: r).length-1],List.getElem?_eq_getElem hlt,?_⟩;have:=h _ (List.getElem_mem hlt);omega
theorem Zao {s:Sto} (hp:Qch s) {c:Chn} (hc:c∈s.l):Qe9 s.stamp c=false:=by
 obtain ⟨k,hk⟩:=List.getElem?_of_mem hc;have hch:=(hp.2.2.2.at hk).1;refine List.any_eq_false.2 fun v hv=>?_;obtain ⟨j,hj⟩:=List.getElem?_of_mem hv;have:=(hch.2.1.2.at hj).2.1;simp;omega
theorem Qxs {s:Sto} (hp:Qch s):∀ c∈s.nexts,c.stamp≤s.stamp:=fun c hc=>by
 obtain ⟨j,hj⟩:=List.getElem?_of_mem hc;exact (hp.2.1.2.at hj).2.1
theorem Qpu (xs:List (List AV)) (hl:xs.length≤100000) (hx:∀ l∈xs,l.length=2):Qej prog 102 [.sl 2 false xs] 98 2 (xs):=by
 exact Qez func102 (
 .r 1<|.r 1<|.isNil xs fun b1 hnb1=>
 .br 4 (b1) (fun q1=>have p1:=booT q1;.r 1<|.rowNil 199 2 98 2<|.finRow (x:=[]) (r:=xs) [] trivial 199 98 2 (0) (.slice none 0 0) (by exact (hnb1 (by assumption)).symm))
 <| fun q1=>have p1:=booF q1;.lit0 fun V1=>.r 1<|.app 32 V1 ([]:List (List AV)) xs (by simp<;>omega) (by simp<;>omega) fun V2=>
 .r 1<|.finRow (x:=([]:List (List AV))++xs) (r:=xs) [] trivial 5 98 2 (([]:List (List AV)).length+xs.length) V2 (by simp))
theorem Qic {l:List Chn} {n:Int} (h:Qcd l n=true):∃ c,l[Qao l n]?=some c∧c.ino=n:=by
 unfold Qcd at h
 split at h
 ·rename_i c hc;exact ⟨c,hc,by simpa using h⟩
 ·cases h
theorem Qa2 {l:List Chn} {n:Int} (h:Qcd l n=true):Qao l n<l.length:=by
 obtain ⟨c,hc,_⟩:=Qic h;exact Qan hc
theorem Qjz (l:List Chn) (n:Int):Qao l n≤l.length:=by
 have h:=congrArg List.length (List.takeWhile_append_dropWhile (p:=fun c:Chn=>decide (c.ino<n)) (l:=l));rw [List.length_append] at h;unfold Qao;omega
def Qb3 (r:List Ver) (st:Int):List Ver:=match r[r.length-1]? with
 | some v=>if v.stamp=st then r.take (r.length-1) else r
 | none=>r
theorem Qy0 (st:Int):Qb3 [] st=[]:=rfl
theorem Qrr {r:List Ver} {st:Int} {v:Ver} (h:r[r.length-1]?=some v) (e:v.stamp=st):Qb3 r st=r.take (r.length-1):=by unfold Qb3;rw [h];exact if_pos e
theorem Qwt {r:List Ver} {st:Int} {v:Ver} (h:r[r.length-1]?=some v) (e:¬ v.stamp=st):Qb3 r st=r:=by unfold Qb3;rw [h];exact if_neg e
theorem Qob (r:List Ver) (st:Int):(Qb3 r st).length≤r.length:=by
 unfold Qb3
 split
 ·split
  ·rw [List.length_take];omega
  ·exact Nat.le_refl _
 ·exact Nat.le_refl _
def putC (l:List Chn) (st n:Int) (v:Ver):List Chn:=
 if Qcd l n then (match l[Qao l n]? with | some c=>l.set (Qao l n) ⟨c.ino,Qb3 c.l st++[v]⟩ | none=>l)
 else l.take (Qao l n)++⟨n,[v]⟩ :: l.drop (Qao l n)
theorem Qgb {l:List Chn} {st n:Int} {v:Ver} {c:Chn} (h:Qcd l n=true) (hc:l[Qao l n]?=some c):putC l st n v=l.set (Qao l n) ⟨c.ino,Qb3 c.l st++[v]⟩:=by
 unfold putC;rw [if_pos h,hc]
theorem Qim {l:List Chn} {st n:Int} {v:Ver} (h:Qcd l n=false):putC l st n v=l.take (Qao l n)++⟨n,[v]⟩ :: l.drop (Qao l n):=by
 unfold putC;rw [if_neg (by rw [h];simp)]
theorem Zic (l:List Chn) (st n:Int) (v:Ver):(putC l st n v).length≤l.length+1:=by
 unfold putC
 split
 ·split
  ·simp
  ·omega
 ·have:=Qjz l n;simp;omega
def Qas (l:List Chn) (st:Int) (cs:List Chg) (k:Nat):List Chn:=(cs.take k).foldl (fun l c=>putC l st c.ino (Qak c st)) l
theorem Qcq {l:List Chn} {st:Int} {cs:List Chg} {k:Nat} {c:Chg} (h:cs[k]?=some c):Qas l st cs (k+1)=putC (Qas l st cs k) st c.ino (Qak c st):=by
 unfold Qas;rw [Qam h,List.foldl_append];rfl
theorem Qgk (l:List Chn) (st:Int) (cs:List Chg):∀ k,(Qas l st cs k).length≤l.length+k
 | 0=>by simp [Qas]
 | k+1=>by
  have ih:=Qgk l st cs k;cases hc:cs[k]? with
  | none=>
   have e:Qas l st cs (k+1)=Qas l st cs k:=by
    have hk:=List.getElem?_eq_none_iff.1 hc;unfold Qas;rw [List.take_of_length_le (by omega),List.take_of_length_le hk]
   rw [e];omega
  | some c=>
   rw [Qcq hc];have:=Zic (Qas l st cs k) st c.ino (Qak c st);omega
end Go.Proofs.YtahlldgocpabjaaGreat
