import Derived.Test.YtahlldgocpabjaaGreatMrgAG
import Derived.Test.YtahlldgocpabjaaGreatMrgJ
set_option maxRecDepth 100000
set_option maxHeartbeats 8000000
set_option linter.unusedVariables false
set_option linter.unusedSimpArgs false
namespace Go.Proofs.YtahlldgocpabjaaGreat
open Go Go.RowKit Copyhold Go.Proofs.Tryz
def manyD (s:Sto):Nat:=(s.l.map (fun c=>c.l.length)).sum
def wV (v:Ver):Nat:=v.n.l.length
def wC (c:Chn):Nat:=c.l.length+(c.l.map wV).sum
def few (s:Sto):Prop:=s.l.length+s.nexts.length+(s.l.map wC).sum≤200∧∀ c∈s.l,∀ v∈c.l,v.n.text.length≤4096
def Qq6 (s:Sto) (k n:Nat):Prop:=k≤s.l.length∧n≤s.l.length+s.nexts.length+(s.l.map wC).sum ∧
 ((n=s.l.length+s.nexts.length+((s.l.take k).map wC).sum∧∀ c∈s.l.take k,∀ v∈c.l,v.n.text.length≤4096)∨200<n)∧n≤100000000000000
def Qto (c:Chn) (n j m:Nat):Prop:=j≤c.l.length∧m≤100000000000000∧m=n+c.l.length+((c.l.take j).map wV).sum∧(∀ v∈c.l.take j,v.n.text.length≤4096)
theorem fewS0 (s:Sto) (h1:s.l.length≤8796093022207) (h2:s.nexts.length≤8796093022207):Qq6 s 0 (s.l.length+s.nexts.length):=
 ⟨Nat.zero_le _,by omega,.inl ⟨by simp,fun c h=>by simp at h⟩,by omega⟩
theorem fewSV0 (c:Chn) (n:Nat) (h1:n≤200) (h2:c.l.length≤8796093022207):Qto c n 0 (n+c.l.length):=⟨Nat.zero_le _,by omega,by simp,fun v h=>by simp at h⟩
theorem fewSV {c:Chn} {v:Ver} {n j m:Nat} (hv:c.l[j]?=some v) (h:Qto c n j m) (h0:j<c.l.length) (h1:m≤200) (h2:v.n.text.length≤4096) (h3:v.n.l.length≤8796093022207):Qto c n (j+1) (m+v.n.l.length):=by
 obtain ⟨_,_,e,ht⟩:=h;refine ⟨h0,by omega,by rw [Qlf wV hv,e];simp only [wV];omega,fun u hu=>?_⟩;rcases Qgw hv hu with h | rfl
 ·exact ht u h
 ·exact h2
theorem Qw7 {s:Sto} {c:Chn} {k n j m:Nat} (hc:s.l[k]?=some c) (h:Qq6 s k n) (h0:k<s.l.length) (hn:n≤200) (h':Qto c n j m) (h3:¬ (j:Int)<c.l.length∨¬ (m:Int)≤200):Qq6 s (k+1) m:=by
 obtain ⟨_,_,h,_⟩:=h;obtain ⟨hj,hm,e,ht⟩:=h';rcases h with ⟨h,htx⟩ | h
 ·have h5:=Qlf wC hc;have h6:=Qeq wC s.l (k+1);have h7:=Qeq wV c.l j;have h8:wC c=c.l.length+(c.l.map wV).sum:=rfl;refine ⟨h0,by omega,?_,hm⟩;by_cases h9:m≤200
  ·have hj':c.l.length≤j:=by omega
   rw [Qav hj'] at e ht;refine .inl ⟨by omega,fun d hd=>?_⟩;rcases Qgw hc hd with h | rfl
   ·exact htx d h
   ·exact ht
  ·exact .inr (by omega)
 ·omega
theorem Zhy {s:Sto} {c:Chn} {v:Ver} {k j:Nat} (hc:s.l[k]?=some c) (hv:c.l[j]?=some v) (h:¬ v.n.text.length≤4096):¬ few s:=fun hf=>h (hf.2 c (List.mem_of_getElem? hc) v (List.mem_of_getElem? hv))
theorem Qw8 {s:Sto} {k n:Nat} (h:Qq6 s k n) (h3:¬ (k:Int)<s.l.length∨¬ (n:Int)≤200):decide ((n:Int)≤200)=true↔few s:=by
 obtain ⟨hk,hle,h,_⟩:=h;rw [decide_eq_true_iff];refine ⟨fun hn=>?_,fun hf=>?_⟩
 ·have hk':s.l.length≤k:=by omega
  rcases h with ⟨h,ht⟩ | h
  ·rw [Qav hk'] at h ht;exact ⟨by omega,ht⟩
  ·omega
 ·have:=hf.1;omega
theorem Zdw (s:Sto) (oks:OkS s):Qaf prog 47 [.agg (stoA s)] (aB (dP (few s))):=by
 have hs1:=oks.2.1;have hs2:=oks.2.2.1;exact Qac func47 (let R:AV:=aB (dP (few s));
 .new fun b1=>.r 1<|.u 3 [b1]<|
 .lm 8 s.l chnA<|.u 3 [b1]<|
 .lm 11 s.nexts cntA<|.run 2 [rng .i64 ((s.l.length:Int)+(s.nexts.length:Int))] ⟨Qaj (by omega) (by omega),trivial⟩<|
 .r 1<|let L1:Lp (Nat × Nat):=⟨fun a1=>⟨[(1,.ptr 1 b1 0),(4,aI (a1.1:Int)),(3,aI (a1.2:Int))],[(1,.box b1 25 (stoA s))]⟩,fun a1=>s.l.length-a1.1,fun a1=>Qq6 s a1.1 a1.2⟩
 .lp L1 (0,s.l.length+s.nexts.length) (show Qq6 s 0 (s.l.length+s.nexts.length) from fewS0 s hs1 hs2) [(4,aI 0),(3,aI ((s.l.length:Int)+(s.nexts.length:Int)))] [] ⟨sR,sO,sO,trivial⟩ bb1 fun a1 ha1=>
 (fun (k:Nat) (n:Nat) (hH1:Qq6 s k n)=>.u 4 [b1]<|
 .lm 16 s.l chnA<|.r 2<|.bd 18 ((k:Int)<(s.l.length:Int)) (fun p1=>.r 3<|.bd 21 ((n:Int)≤200) (fun p2=>.u 4 [b1]<|
 .idxM s.l chnA k (m:=(k:Int)) rfl (by omega) fun x1 hx1=>
 have okx1:=oks.2.2.2.1 x1 (List.mem_of_getElem? hx1);have blx1:=okx1.2.1;.r 3<|.lm 31 x1.l verA<|.run 2 [rng .i64 ((n:Int)+(x1.l.length:Int))] ⟨Qaj (by omega) (by omega),trivial⟩<|
 .r 1<|let L2:Lp (Nat × Nat):=⟨fun a2=>⟨[(1,.ptr 1 b1 0),(4,aI (k:Int)),(5,aI (a2.1:Int)),(3,aI (a2.2:Int))],[(1,.box b1 25 (stoA s))]⟩,fun a2=>x1.l.length-a2.1,fun a2=>Qto x1 n a2.1 a2.2⟩
 .lp L2 (0,(n+x1.l.length)) (show Qto x1 n 0 (n+x1.l.length) from (fewSV0 _ _ (by omega) (by omega))) [(5,aI 0),(3,aI ((n:Int)+(x1.l.length:Int)))] [] ⟨sR,sR,sO,sO,trivial⟩ bb1 fun a2 ha2=>
 (fun (j:Nat) (m:Nat) (hH2:Qto x1 n j m)=>.u 4 [b1]<|
 .idx k (m:=(k:Int)) (xs:=s.l.map chnA) (e:=chnA x1) rfl (map_some hx1)<|
 .r 3<|.lm 40 x1.l verA<|.r 2<|.bd 42 ((j:Int)<(x1.l.length:Int)) (fun p3=>.r 3<|.bd 45 ((m:Int)≤200) (fun p4=>.u 4 [b1]<|
 .idx k (m:=(k:Int)) (xs:=s.l.map chnA) (e:=chnA x1) rfl (map_some hx1)<|
 .r 3<|.idxM x1.l verA j (m:=(j:Int)) rfl (by omega) fun x2 hx2=>
 have okx2:=okx1.2.2 x2 (List.mem_of_getElem? hx2);have blx2:=okx2.2.2.2.2.2.1;.r 4<|.lm 60 x2.n.l entA<|.run 2 [rng .i64 ((m:Int)+(x2.n.l.length:Int))] ⟨Qaj (by omega) (by omega),trivial⟩<|
 .u 3 [b1]<|
 .idx k (m:=(k:Int)) (xs:=s.l.map chnA) (e:=chnA x1) rfl (map_some hx1)<|
 .r 3<|.idx j (m:=(j:Int)) (xs:=x1.l.map verA) (e:=verA x2) rfl (map_some hx2)<|
 .r 5<|.bd 74 (((x2.n.text).length:Int)>4096) (fun p5=>.r 1<|.f R [] (aB false) (by exact sF (Zhy hx1 hx2 (by omega))))
 <| fun p5=>.run 3 [rng .i64 ((j:Int)+1)] ⟨Qaj (by omega) (by omega),trivial⟩<|
 .bk L2 (j,m) ((j+1),(m+x2.n.l.length)) (show Qto x1 n (j+1) (m+x2.n.l.length) from (fewSV hx2 hH2 (by omega) (by omega) (by omega) (by omega))) (show x1.l.length-(j+1)<x1.l.length-j from (by omega)) [(5,aI ((j:Int)+1)),(3,aI ((m:Int)+(x2.n.l.length:Int)))] [] ⟨sR,sR,sO,sO,trivial⟩ bb1)
 <| fun p4=>.run 3 [rng .i64 ((k:Int)+1)] ⟨Qaj (by omega) (by omega),trivial⟩<|
 .bk L1 (k,n) ((k+1),m) (show Qq6 s (k+1) m from (Qw7 hx1 hH1 (by omega) (by omega) hH2 (by omega))) (show s.l.length-(k+1)<s.l.length-k from (by omega)) [(4,aI ((k:Int)+1))] [] ⟨sR,sO,sR,trivial⟩ bb1)
 <| fun p3=>.r 3<|.run 3 [rng .i64 ((k:Int)+1)] ⟨Qaj (by omega) (by omega),trivial⟩<|
 .bk L1 (k,n) ((k+1),m) (show Qq6 s (k+1) m from (Qw7 hx1 hH1 (by omega) (by omega) hH2 (by omega))) (show s.l.length-(k+1)<s.l.length-k from (by omega)) [(4,aI ((k:Int)+1))] [] ⟨sR,sO,sR,trivial⟩ bb1) a2.1 a2.2 ha2)
 <| fun p2=>.r 3<|.f R [] (aB (decide ((n:Int)≤200))) (by exact sE (Qw8 hH1 (by omega))))
 <| fun p1=>.r 3<|.r 3<|.f R [] (aB (decide ((n:Int)≤200))) (by exact sE (Qw8 hH1 (by omega)))) a1.1 a1.2 ha1)
def newS:Sto:=⟨[⟨1,[⟨1,false,Qh4⟩]⟩],[⟨1,2⟩],1⟩
theorem Qkf:OkS newS:=⟨⟨by decide,by decide⟩,by show (1:Nat)≤_;omega,by show (1:Nat)≤_;omega,fun c h=>by
  obtain rfl:=List.mem_singleton.1 h;exact ⟨⟨by decide,by decide⟩,by show (1:Nat)≤_;omega,fun v hv=>by obtain rfl:=List.mem_singleton.1 hv;exact ⟨⟨by decide,by decide⟩,Qv7⟩⟩,
 fun c h=>by obtain rfl:=List.mem_singleton.1 h;exact ⟨⟨by decide,by decide⟩,⟨by decide,by decide⟩⟩⟩
theorem Qj0 {α:Type} {Q:Nat→α→Prop} {x:α} (h:Q 0 x):AllQ Q [x]:=fun i e he=>by
 match i,he with
 | 0,he=>simp at he;subst he;exact h
 | i+1,he=>simp at he
theorem Qyx:Qn8 newS:=by
 refine ⟨by decide,⟨by decide,Qj0 ⟨by decide,by decide,fun d h=>by omega⟩⟩,Qj0 (by show (1:Int)≤2;decide),Qj0 ⟨⟨by decide,⟨by decide,Qj0 ⟨by decide,by decide,fun d h=>by omega⟩⟩,Qj0 ⟨fun h=>(by cases h),fun _=>⟨?_,rfl⟩⟩⟩,fun d h=>by omega⟩⟩;exact ⟨by decide,by decide,by decide,.inl ⟨rfl,rfl,Qb2⟩⟩
theorem Ze2 {α:Type} {f:α→Int} {st:Int} {l:List α} {x:α} (h:atD f st l=some x):x∈l:=by
 unfold atD at h
 split at h
 ·cases h
 ·exact List.mem_of_getElem? h
theorem Zfi {st:Int} {c:Chn} {n:Nod} (ok:OkC c) (h:Qd5 st c=some n):OkN n:=by
 unfold Qd5 at h
 split at h
 ·rename_i v hv
  split at h
  ·cases h
  ·obtain rfl:=Option.some.inj h;exact (ok.2.2 v (Ze2 hv)).2
 ·cases h
theorem Qpg {s:Sto} (ok:OkS s) (st:Int):OkF (Qd4 s st):=by
 refine ⟨?_,?_,fun n hn=>?_⟩
 ·show I64 (Qut s st);unfold Qut
  split
  ·rename_i c hc;exact (ok.2.2.2.2 c (Ze2 hc)).2
  ·exact ⟨by decide,by decide⟩
 ·have:=List.length_filterMap_le (Qd5 st) s.l;have:=ok.2.1;show (s.l.filterMap (Qd5 st)).length≤_;omega
 ·obtain ⟨c,hc,hv⟩:=List.mem_filterMap.1 hn;exact Zfi (ok.2.2.2.1 c hc) hv
theorem Zfw (s:Sto) (st:Int):(Qdc s st).length≤s.l.length+1:=by
 unfold Qdc
 split
 ·have:=Qmv s st s.l.length;simp;omega
 ·simp
theorem Qqm {s:Sto} (h:few s):s.l.length≤200∧s.nexts.length≤200∧manyD s≤200:=by
 have h1:=h.1;have h2:(s.l.map (fun c=>c.l.length)).sum≤(s.l.map wC).sum:=by
  clear h h1
  induction s.l with
  | nil=>simp
  | cons c r ih=>simp only [List.map_cons,List.sum_cons,wC];omega
 unfold manyD;omega
theorem Qx5 {s:Sto} (hp:Qn8 s):Qdc s s.stamp=[]:=by
 have h1:∀ c∈s.l,Qoy s.stamp c=false:=fun c hc=>by
  obtain ⟨k,hk⟩:=List.getElem?_of_mem hc;have hch:=(hp.2.2.2.at hk).1;refine List.any_eq_false.2 fun v hv=>?_;obtain ⟨j,hj⟩:=List.getElem?_of_mem hv;have:=(hch.2.1.2.at hj).2.1;simp;omega
 have h2:Qb1 s s.stamp s.l.length=[]:=by
  unfold Qb1;rw [Qav (Nat.le_refl _),List.filter_eq_nil_iff.2 (fun c hc=>by simp [h1 c hc])];rfl
 have h3:Zg5 s s.stamp=false:=by
  refine List.any_eq_false.2 fun c hc=>?_;obtain ⟨j,hj⟩:=List.getElem?_of_mem hc;have:=(hp.2.1.2.at hj).2.1;simp;omega
 unfold Qdc;rw [h2,h3];simp
theorem Zdc {α:Type} (xs ys:List (List α)) (i:Nat) (z:List α) (hi:i≤xs.length):(((xs.take i++List.replicate (xs.length+ys.length-i) z).take i++ys++(xs.take i++List.replicate (xs.length+ys.length-i) z).drop (i+ys.length)).take (i+ys.length)++(xs.take xs.length).drop i++((xs.take i++List.replicate (xs.length+ys.length-i) z).take i++ys++(xs.take i++List.replicate (xs.length+ys.length-i) z).drop (i+ys.length)).drop (i+ys.length+((xs.take xs.length).drop i).length))=xs.take i++ys++xs.drop i:=by
 have h1:(xs.take i).length=i:=by rw [List.length_take];omega
 have e1:(xs.take i++List.replicate (xs.length+ys.length-i) z).take i=xs.take i:=List.take_left' h1;rw [e1,List.take_length];have h2:(xs.take i++ys).length=i+ys.length:=by rw [List.length_append,h1]
 rw [List.take_left' h2];have h3:((xs.take i++ys++(xs.take i++List.replicate (xs.length+ys.length-i) z).drop (i+ys.length))).length=xs.length+ys.length:=by
  rw [List.length_append,h2,List.length_drop,List.length_append,h1,List.length_replicate];omega
 have h4:(xs.take i++ys++(xs.take i++List.replicate (xs.length+ys.length-i) z).drop (i+ys.length)).drop (i+ys.length+(xs.drop i).length)=[]:=List.drop_eq_nil_of_le (by rw [h3,List.length_drop];omega);rw [h4,List.append_nil]
theorem Zdd (xs ys:List (List AV)) (i:Nat) (tv:Bool) (hi:i≤xs.length) (h1:1≤ys.length) (hn:xs.length≤100000) (hm:ys.length≤100000) (hx:∀ l∈xs,l.length=7) (hy:∀ l∈ys,l.length=7):Qaf prog 161 [.sl 7 true xs,aI (i:Int),.sl 7 false ys] (.sl 7 false (xs.take i++ys++xs.drop i)):=by
 exact Qac func161 (
 .r 1<|.r 2<|.slc 7 true xs (some (i:Int)) none none i xs.length true (.inr rfl) (.inl ⟨rfl,rfl⟩) (.inl ⟨rfl,fun _=>⟨rfl,rfl⟩⟩) (by omega) (by omega)<|
 .r 3<|.r 2<|.is 16 (show (((ys).length:Int)==0)=false from (beq_eq_false_iff_ne.2 (by omega)))<|.r 3<|.r 3<|.be 22 (i:Int) ((xs).length:Int) (fun p1=>.r 2<|.appNew 80 7 (x0:=.sl 7 true xs) xs ys (sR) (by omega) (by intro l hl;rcases List.mem_append.1 hl with h | h;exact hx l h;exact hy l h) (by omega) (by omega) fun V1=>
 .r 1<|.frz 25 [6] [] [V1=V1,(xs++ys).length=(xs++ys).length] ⟨rfl,(by first | rfl | (simp;done) | (simp;omega)),trivial⟩<|
 .f (.sl 7 false (xs.take i++ys++xs.drop i)) [] (.sl 7 false (xs++ys)) (by exact Sub.of_eq (by rw [show i=xs.length from by omega];simp)))
 <| fun p1=>.run 4 [rng .i64 (((xs).length:Int)+((ys).length:Int))] ⟨Qaj (by omega) (by omega),trivial⟩<|
 .op (capO prog) (7,xs,some 30) (fun (_:Unit) σ=>σ.put (some 30) (aI (xs.length:Int))) (Qpo) fun _=>
 .r 1<|.is 31 (show (decide ((((xs).length:Int)+((ys).length:Int))>(xs.length:Int)))=true from (decide_eq_true (by omega)))<|.r 2<|.op (slcO prog) (.sl 7 true xs,none,some (i:Int),none,some 34) (fun (_:Unit) σ=>σ.put (some 34) (.pre 7 xs i)) (Qpl i (by omega) (by omega)) fun _=>
 .run 5 [rng .i64 (((xs).length:Int)+((ys).length:Int)),rng .i64 ((((xs).length:Int)+((ys).length:Int))-(i:Int))] ⟨Qaj (by omega) (by omega),Qaj (by omega) (by omega),trivial⟩<|
 .op (zrR prog 100) (7,xs,i,(((xs).length:Int)+((ys).length:Int))-(i:Int),96,100,[aI 0,aB false,aI 0,aI 0,aI 0,aS ([]),aN],40) (fun (V:Value) σ=>(σ.put (some 40) (.rw 100 V (i+(xs.length+ys.length-i)))).setB 100 (.row V 100 7 (xs.take i++List.replicate (xs.length+ys.length-i) [aI 0,aB false,aI 0,aI 0,aI 0,aS ([]),aN]))) (Qt1 (xs.length+ys.length-i) 80 (by kernel_rfl) (by omega) (by omega) (by omega) (by omega) (by omega) (by omega)) fun V2=>
 .r 1<|.st (rowR 100) (V2,100,7,xs.take i++List.replicate (xs.length+ys.length-i) [aI 0,aB false,aI 0,aI 0,aI 0,aS ([]),aN]) (fun _ σ=>σ) (Qbx 100 (by simp only [List.length_append,List.length_take,List.length_drop,List.length_replicate];omega)) fun a1r=>
 .r 2<|.op (rsO prog) (100,V2,i+(xs.length+ys.length-i),7,(i:Int),some 43) (fun (_:Unit) σ=>σ.put (some 43) (.rs 100 V2 7 i)) (Qkb i a1r.2.1 (by omega) (by simp only [List.length_append,List.length_take,List.length_drop,List.length_replicate];omega) a1r.2.2) fun _=>
 .r 1<|.op (cpR prog) (100,V2,7,i,V2,100,7,xs.take i++List.replicate (xs.length+ys.length-i) [aI 0,aB false,aI 0,aI 0,aI 0,aS ([]),aN],7,ys,7,some 45) (fun (_:Unit) σ=>(σ.put (some 45) (aI (ys.length:Int))).setB 100 (.row V2 100 7 ((xs.take i++List.replicate (xs.length+ys.length-i) [aI 0,aB false,aI 0,aI 0,aI 0,aS ([]),aN]).take i++ys++(xs.take i++List.replicate (xs.length+ys.length-i) [aI 0,aB false,aI 0,aI 0,aI 0,aS ([]),aN]).drop (i+ys.length)))) (Qhi (by simp only [List.length_append,List.length_take,List.length_drop,List.length_replicate];omega)) fun _=>
 .st (rowR 100) (V2,100,7,(xs.take i++List.replicate (xs.length+ys.length-i) [aI 0,aB false,aI 0,aI 0,aI 0,aS ([]),aN]).take i++ys++(xs.take i++List.replicate (xs.length+ys.length-i) [aI 0,aB false,aI 0,aI 0,aI 0,aS ([]),aN]).drop (i+ys.length)) (fun _ σ=>σ) (Qbx 100 (by simp only [List.length_append,List.length_take,List.length_drop,List.length_replicate];omega)) fun a2r=>
 .ord [0,1,2,3,4,5,6,7,8]<|.run 4 [rng .i64 ((i:Int)+((ys).length:Int))] ⟨Qaj (by omega) (by omega),trivial⟩<|
 .op (rsO prog) (100,V2,i+(xs.length+ys.length-i),7,(i:Int)+((ys).length:Int),some 50) (fun (_:Unit) σ=>σ.put (some 50) (.rs 100 V2 7 (i+ys.length))) (Qkb (i+ys.length) a2r.2.1 (by omega) (by simp only [List.length_append,List.length_take,List.length_drop,List.length_replicate];omega) a2r.2.2) fun _=>
 .r 2<|.slc 7 true xs (some (i:Int)) none none i xs.length true (.inr rfl) (.inl ⟨rfl,rfl⟩) (.inl ⟨rfl,fun _=>⟨rfl,rfl⟩⟩) (by omega) (by omega)<|
 .op (cpR prog) (100,V2,7,(i+ys.length),V2,100,7,(xs.take i++List.replicate (xs.length+ys.length-i) [aI 0,aB false,aI 0,aI 0,aI 0,aS ([]),aN]).take i++ys++(xs.take i++List.replicate (xs.length+ys.length-i) [aI 0,aB false,aI 0,aI 0,aI 0,aS ([]),aN]).drop (i+ys.length),7,(xs.take xs.length).drop i,7,some 54) (fun (_:Unit) σ=>(σ.put (some 54) (aI (((xs.take xs.length).drop i).length:Int))).setB 100 (.row V2 100 7 (((xs.take i++List.replicate (xs.length+ys.length-i) [aI 0,aB false,aI 0,aI 0,aI 0,aS ([]),aN]).take i++ys++(xs.take i++List.replicate (xs.length+ys.length-i) [aI 0,aB false,aI 0,aI 0,aI 0,aS ([]),aN]).drop (i+ys.length)).take (i+ys.length)++((xs.take xs.length).drop i)++((xs.take i++List.replicate (xs.length+ys.length-i) [aI 0,aB false,aI 0,aI 0,aI 0,aS ([]),aN]).take i++ys++(xs.take i++List.replicate (xs.length+ys.length-i) [aI 0,aB false,aI 0,aI 0,aI 0,aS ([]),aN]).drop (i+ys.length)).drop ((i+ys.length)+((xs.take xs.length).drop i).length)))) (Qhi (by simp only [List.length_append,List.length_take,List.length_drop,List.length_replicate];omega)) fun _=>
 .r 2<|.frz 100 [6] [] [V2=V2,i+(xs.length+ys.length-i)=(((xs.take i++List.replicate (xs.length+ys.length-i) [aI 0,aB false,aI 0,aI 0,aI 0,aS ([]),aN]).take i++ys++(xs.take i++List.replicate (xs.length+ys.length-i) [aI 0,aB false,aI 0,aI 0,aI 0,aS ([]),aN]).drop (i+ys.length)).take (i+ys.length)++((xs.take xs.length).drop i)++((xs.take i++List.replicate (xs.length+ys.length-i) [aI 0,aB false,aI 0,aI 0,aI 0,aS ([]),aN]).take i++ys++(xs.take i++List.replicate (xs.length+ys.length-i) [aI 0,aB false,aI 0,aI 0,aI 0,aS ([]),aN]).drop (i+ys.length)).drop ((i+ys.length)+((xs.take xs.length).drop i).length)).length] ⟨rfl,(by first | rfl | (simp;done) | (simp;omega)),trivial⟩<|
 .f (.sl 7 false (xs.take i++ys++xs.drop i)) [] (.sl 7 false (((xs.take i++List.replicate (xs.length+ys.length-i) [aI 0,aB false,aI 0,aI 0,aI 0,aS ([]),aN]).take i++ys++(xs.take i++List.replicate (xs.length+ys.length-i) [aI 0,aB false,aI 0,aI 0,aI 0,aS ([]),aN]).drop (i+ys.length)).take (i+ys.length)++((xs.take xs.length).drop i)++((xs.take i++List.replicate (xs.length+ys.length-i) [aI 0,aB false,aI 0,aI 0,aI 0,aS ([]),aN]).take i++ys++(xs.take i++List.replicate (xs.length+ys.length-i) [aI 0,aB false,aI 0,aI 0,aI 0,aS ([]),aN]).drop (i+ys.length)).drop ((i+ys.length)+((xs.take xs.length).drop i).length))) (by exact Sub.of_eq (congrArg (AV.sl 7 false) (Zdc xs ys i _ (by omega)))))
theorem Zde (xs ys:List (List AV)) (i:Nat) (tv:Bool) (hi:i≤xs.length) (h1:1≤ys.length) (hn:xs.length≤100000) (hm:ys.length≤100000) (hx:∀ l∈xs,l.length=2) (hy:∀ l∈ys,l.length=2):Qaf prog 162 [.sl 2 true xs,aI (i:Int),.sl 2 false ys] (.sl 2 false (xs.take i++ys++xs.drop i)):=by
 exact Qac func162 (
 .r 1<|.r 2<|.slc 2 true xs (some (i:Int)) none none i xs.length true (.inr rfl) (.inl ⟨rfl,rfl⟩) (.inl ⟨rfl,fun _=>⟨rfl,rfl⟩⟩) (by omega) (by omega)<|
 .r 3<|.r 2<|.is 16 (show (((ys).length:Int)==0)=false from (beq_eq_false_iff_ne.2 (by omega)))<|.r 3<|.r 3<|.be 22 (i:Int) ((xs).length:Int) (fun p1=>.r 2<|.appNew 16 2 (x0:=.sl 2 true xs) xs ys (sR) (by omega) (by intro l hl;rcases List.mem_append.1 hl with h | h;exact hx l h;exact hy l h) (by omega) (by omega) fun V1=>
 .r 1<|.frz 25 [6] [] [V1=V1,(xs++ys).length=(xs++ys).length] ⟨rfl,(by first | rfl | (simp;done) | (simp;omega)),trivial⟩<|
 .f (.sl 2 false (xs.take i++ys++xs.drop i)) [] (.sl 2 false (xs++ys)) (by exact Sub.of_eq (by rw [show i=xs.length from by omega];simp)))
 <| fun p1=>.run 4 [rng .i64 (((xs).length:Int)+((ys).length:Int))] ⟨Qaj (by omega) (by omega),trivial⟩<|
 .op (capO prog) (2,xs,some 30) (fun (_:Unit) σ=>σ.put (some 30) (aI (xs.length:Int))) (Qpo) fun _=>
 .r 1<|.is 31 (show (decide ((((xs).length:Int)+((ys).length:Int))>(xs.length:Int)))=true from (decide_eq_true (by omega)))<|.r 2<|.op (slcO prog) (.sl 2 true xs,none,some (i:Int),none,some 34) (fun (_:Unit) σ=>σ.put (some 34) (.pre 2 xs i)) (Qpl i (by omega) (by omega)) fun _=>
 .run 5 [rng .i64 (((xs).length:Int)+((ys).length:Int)),rng .i64 ((((xs).length:Int)+((ys).length:Int))-(i:Int))] ⟨Qaj (by omega) (by omega),Qaj (by omega) (by omega),trivial⟩<|
 .op (zrR prog 100) (2,xs,i,(((xs).length:Int)+((ys).length:Int))-(i:Int),23,95,[aI 0,aI 0],40) (fun (V:Value) σ=>(σ.put (some 40) (.rw 100 V (i+(xs.length+ys.length-i)))).setB 100 (.row V 95 2 (xs.take i++List.replicate (xs.length+ys.length-i) [aI 0,aI 0]))) (Qt1 (xs.length+ys.length-i) 16 (by kernel_rfl) (by omega) (by omega) (by omega) (by omega) (by omega) (by omega)) fun V2=>
 .r 1<|.st (rowR 100) (V2,95,2,xs.take i++List.replicate (xs.length+ys.length-i) [aI 0,aI 0]) (fun _ σ=>σ) (Qbx 100 (by simp only [List.length_append,List.length_take,List.length_drop,List.length_replicate];omega)) fun a1r=>
 .r 2<|.op (rsO prog) (100,V2,i+(xs.length+ys.length-i),2,(i:Int),some 43) (fun (_:Unit) σ=>σ.put (some 43) (.rs 100 V2 2 i)) (Qkb i a1r.2.1 (by omega) (by simp only [List.length_append,List.length_take,List.length_drop,List.length_replicate];omega) a1r.2.2) fun _=>
 .r 1<|.op (cpR prog) (100,V2,2,i,V2,95,2,xs.take i++List.replicate (xs.length+ys.length-i) [aI 0,aI 0],2,ys,2,some 45) (fun (_:Unit) σ=>(σ.put (some 45) (aI (ys.length:Int))).setB 100 (.row V2 95 2 ((xs.take i++List.replicate (xs.length+ys.length-i) [aI 0,aI 0]).take i++ys++(xs.take i++List.replicate (xs.length+ys.length-i) [aI 0,aI 0]).drop (i+ys.length)))) (Qhi (by simp only [List.length_append,List.length_take,List.length_drop,List.length_replicate];omega)) fun _=>
 .st (rowR 100) (V2,95,2,(xs.take i++List.replicate (xs.length+ys.length-i) [aI 0,aI 0]).take i++ys++(xs.take i++List.replicate (xs.length+ys.length-i) [aI 0,aI 0]).drop (i+ys.length)) (fun _ σ=>σ) (Qbx 100 (by simp only [List.length_append,List.length_take,List.length_drop,List.length_replicate];omega)) fun a2r=>
 .ord [0,1,2,3,4,5,6,7,8]<|.run 4 [rng .i64 ((i:Int)+((ys).length:Int))] ⟨Qaj (by omega) (by omega),trivial⟩<|
 .op (rsO prog) (100,V2,i+(xs.length+ys.length-i),2,(i:Int)+((ys).length:Int),some 50) (fun (_:Unit) σ=>σ.put (some 50) (.rs 100 V2 2 (i+ys.length))) (Qkb (i+ys.length) a2r.2.1 (by omega) (by simp only [List.length_append,List.length_take,List.length_drop,List.length_replicate];omega) a2r.2.2) fun _=>
 .r 2<|.slc 2 true xs (some (i:Int)) none none i xs.length true (.inr rfl) (.inl ⟨rfl,rfl⟩) (.inl ⟨rfl,fun _=>⟨rfl,rfl⟩⟩) (by omega) (by omega)<|
 .op (cpR prog) (100,V2,2,(i+ys.length),V2,95,2,(xs.take i++List.replicate (xs.length+ys.length-i) [aI 0,aI 0]).take i++ys++(xs.take i++List.replicate (xs.length+ys.length-i) [aI 0,aI 0]).drop (i+ys.length),2,(xs.take xs.length).drop i,2,some 54) (fun (_:Unit) σ=>(σ.put (some 54) (aI (((xs.take xs.length).drop i).length:Int))).setB 100 (.row V2 95 2 (((xs.take i++List.replicate (xs.length+ys.length-i) [aI 0,aI 0]).take i++ys++(xs.take i++List.replicate (xs.length+ys.length-i) [aI 0,aI 0]).drop (i+ys.length)).take (i+ys.length)++((xs.take xs.length).drop i)++((xs.take i++List.replicate (xs.length+ys.length-i) [aI 0,aI 0]).take i++ys++(xs.take i++List.replicate (xs.length+ys.length-i) [aI 0,aI 0]).drop (i+ys.length)).drop ((i+ys.length)+((xs.take xs.length).drop i).length)))) (Qhi (by simp only [List.length_append,List.length_take,List.length_drop,List.length_replicate];omega)) fun _=>
 .r 2<|.frz 100 [6] [] [V2=V2,i+(xs.length+ys.length-i)=(((xs.take i++List.replicate (xs.length+ys.length-i) [aI 0,aI 0]).take i++ys++(xs.take i++List.replicate (xs.length+ys.length-i) [aI 0,aI 0]).drop (i+ys.length)).take (i+ys.length)++((xs.take xs.length).drop i)++((xs.take i++List.replicate (xs.length+ys.length-i) [aI 0,aI 0]).take i++ys++(xs.take i++List.replicate (xs.length+ys.length-i) [aI 0,aI 0]).drop (i+ys.length)).drop ((i+ys.length)+((xs.take xs.length).drop i).length)).length] ⟨rfl,(by first | rfl | (simp;done) | (simp;omega)),trivial⟩<|
 .f (.sl 2 false (xs.take i++ys++xs.drop i)) [] (.sl 2 false (((xs.take i++List.replicate (xs.length+ys.length-i) [aI 0,aI 0]).take i++ys++(xs.take i++List.replicate (xs.length+ys.length-i) [aI 0,aI 0]).drop (i+ys.length)).take (i+ys.length)++((xs.take xs.length).drop i)++((xs.take i++List.replicate (xs.length+ys.length-i) [aI 0,aI 0]).take i++ys++(xs.take i++List.replicate (xs.length+ys.length-i) [aI 0,aI 0]).drop (i+ys.length)).drop ((i+ys.length)+((xs.take xs.length).drop i).length))) (by exact Sub.of_eq (congrArg (AV.sl 2 false) (Zdc xs ys i _ (by omega)))))
theorem Zhk (xs ys:List (List AV)) (i:Nat) (tv:Bool) (hi:i≤xs.length) (h1:1≤ys.length) (hn:xs.length≤100000) (hm:ys.length≤100000) (hx:∀ l∈xs,l.length=2) (hy:∀ l∈ys,l.length=2):Qd2 prog 160 [.sl 2 true xs,aI (i:Int),.sl 2 false ys] 98 2 (xs.take i++ys++xs.drop i):=by
 exact Qeh func160 (
 .r 1<|.r 2<|.slc 2 true xs (some (i:Int)) none none i xs.length true (.inr rfl) (.inl ⟨rfl,rfl⟩) (.inl ⟨rfl,fun _=>⟨rfl,rfl⟩⟩) (by omega) (by omega)<|
 .r 3<|.r 2<|.is 16 (show (((ys).length:Int)==0)=false from (beq_eq_false_iff_ne.2 (by omega)))<|.r 3<|.r 3<|.be 22 (i:Int) ((xs).length:Int) (fun p1=>.r 2<|.appNew 32 2 (x0:=.sl 2 true xs) xs ys (sR) (by omega) (by intro l hl;rcases List.mem_append.1 hl with h | h;exact hx l h;exact hy l h) (by omega) (by omega) fun V1=>
 .r 1<|.finRow (x:=xs++ys) (r:=xs.take i++ys++xs.drop i) [] trivial 25 98 2 ((xs++ys).length) V1 (by rw [show i=xs.length from by omega];simp))
 <| fun p1=>.run 4 [rng .i64 (((xs).length:Int)+((ys).length:Int))] ⟨Qaj (by omega) (by omega),trivial⟩<|
 .op (capO prog) (2,xs,some 30) (fun (_:Unit) σ=>σ.put (some 30) (aI (xs.length:Int))) (Qpo) fun _=>
 .r 1<|.is 31 (show (decide ((((xs).length:Int)+((ys).length:Int))>(xs.length:Int)))=true from (decide_eq_true (by omega)))<|.r 2<|.op (slcO prog) (.sl 2 true xs,none,some (i:Int),none,some 34) (fun (_:Unit) σ=>σ.put (some 34) (.pre 2 xs i)) (Qpl i (by omega) (by omega)) fun _=>
 .run 5 [rng .i64 (((xs).length:Int)+((ys).length:Int)),rng .i64 ((((xs).length:Int)+((ys).length:Int))-(i:Int))] ⟨Qaj (by omega) (by omega),Qaj (by omega) (by omega),trivial⟩<|
 .op (zrR prog 100) (2,xs,i,(((xs).length:Int)+((ys).length:Int))-(i:Int),22,98,[aI 0,aN],40) (fun (V:Value) σ=>(σ.put (some 40) (.rw 100 V (i+(xs.length+ys.length-i)))).setB 100 (.row V 98 2 (xs.take i++List.replicate (xs.length+ys.length-i) [aI 0,aN]))) (Qt1 (xs.length+ys.length-i) 32 (by kernel_rfl) (by omega) (by omega) (by omega) (by omega) (by omega) (by omega)) fun V2=>
 .r 1<|.st (rowR 100) (V2,98,2,xs.take i++List.replicate (xs.length+ys.length-i) [aI 0,aN]) (fun _ σ=>σ) (Qbx 100 (by simp only [List.length_append,List.length_take,List.length_drop,List.length_replicate];omega)) fun a1r=>
 .r 2<|.op (rsO prog) (100,V2,i+(xs.length+ys.length-i),2,(i:Int),some 43) (fun (_:Unit) σ=>σ.put (some 43) (.rs 100 V2 2 i)) (Qkb i a1r.2.1 (by omega) (by simp only [List.length_append,List.length_take,List.length_drop,List.length_replicate];omega) a1r.2.2) fun _=>
 .r 1<|.op (cpR prog) (100,V2,2,i,V2,98,2,xs.take i++List.replicate (xs.length+ys.length-i) [aI 0,aN],2,ys,2,some 45) (fun (_:Unit) σ=>(σ.put (some 45) (aI (ys.length:Int))).setB 100 (.row V2 98 2 ((xs.take i++List.replicate (xs.length+ys.length-i) [aI 0,aN]).take i++ys++(xs.take i++List.replicate (xs.length+ys.length-i) [aI 0,aN]).drop (i+ys.length)))) (Qhi (by simp only [List.length_append,List.length_take,List.length_drop,List.length_replicate];omega)) fun _=>
 .st (rowR 100) (V2,98,2,(xs.take i++List.replicate (xs.length+ys.length-i) [aI 0,aN]).take i++ys++(xs.take i++List.replicate (xs.length+ys.length-i) [aI 0,aN]).drop (i+ys.length)) (fun _ σ=>σ) (Qbx 100 (by simp only [List.length_append,List.length_take,List.length_drop,List.length_replicate];omega)) fun a2r=>
 .ord [0,1,2,3,4,5,6,7,8]<|.run 4 [rng .i64 ((i:Int)+((ys).length:Int))] ⟨Qaj (by omega) (by omega),trivial⟩<|
 .op (rsO prog) (100,V2,i+(xs.length+ys.length-i),2,(i:Int)+((ys).length:Int),some 50) (fun (_:Unit) σ=>σ.put (some 50) (.rs 100 V2 2 (i+ys.length))) (Qkb (i+ys.length) a2r.2.1 (by omega) (by simp only [List.length_append,List.length_take,List.length_drop,List.length_replicate];omega) a2r.2.2) fun _=>
 .r 2<|.slc 2 true xs (some (i:Int)) none none i xs.length true (.inr rfl) (.inl ⟨rfl,rfl⟩) (.inl ⟨rfl,fun _=>⟨rfl,rfl⟩⟩) (by omega) (by omega)<|
 .op (cpR prog) (100,V2,2,(i+ys.length),V2,98,2,(xs.take i++List.replicate (xs.length+ys.length-i) [aI 0,aN]).take i++ys++(xs.take i++List.replicate (xs.length+ys.length-i) [aI 0,aN]).drop (i+ys.length),2,(xs.take xs.length).drop i,2,some 54) (fun (_:Unit) σ=>(σ.put (some 54) (aI (((xs.take xs.length).drop i).length:Int))).setB 100 (.row V2 98 2 (((xs.take i++List.replicate (xs.length+ys.length-i) [aI 0,aN]).take i++ys++(xs.take i++List.replicate (xs.length+ys.length-i) [aI 0,aN]).drop (i+ys.length)).take (i+ys.length)++((xs.take xs.length).drop i)++((xs.take i++List.replicate (xs.length+ys.length-i) [aI 0,aN]).take i++ys++(xs.take i++List.replicate (xs.length+ys.length-i) [aI 0,aN]).drop (i+ys.length)).drop ((i+ys.length)+((xs.take xs.length).drop i).length)))) (Qhi (by simp only [List.length_append,List.length_take,List.length_drop,List.length_replicate];omega)) fun _=>
 .r 2<|.finRow (x:=((xs.take i++List.replicate (xs.length+ys.length-i) [aI 0,aN]).take i++ys++(xs.take i++List.replicate (xs.length+ys.length-i) [aI 0,aN]).drop (i+ys.length)).take (i+ys.length)++((xs.take xs.length).drop i)++((xs.take i++List.replicate (xs.length+ys.length-i) [aI 0,aN]).take i++ys++(xs.take i++List.replicate (xs.length+ys.length-i) [aI 0,aN]).drop (i+ys.length)).drop ((i+ys.length)+((xs.take xs.length).drop i).length)) (r:=xs.take i++ys++xs.drop i) [] trivial 100 98 2 (i+(xs.length+ys.length-i)) V2 (by exact Zdc xs ys i _ (by omega)))
theorem Qxs (l:List Ver) (i:Nat) (c:Ver) (hi:i≤l.length) (hn:l.length≤100000):Qaf prog 105 [.sl 7 false (l.map verA),aI (i:Int),.agg (verA c)] (.sl 7 false ((l.take i++c :: l.drop i).map verA)):=by
 exact Qac func105 (
 .new fun b1=>.r 1<|.ord [0,1,2,3,4,5,6,7,8,9,10]<|.r 3<|.lm 9 l verA<|.r 2<|.lm 11 l verA<|.slc 7 false (l.map verA) none (some (l.length:Int)) (some (l.length:Int)) 0 l.length true (.inl ⟨rfl,rfl⟩) (.inr rfl) (.inr ⟨rfl,rfl⟩) (by first | omega | (simp;done) | (simp;omega)) (by first | omega | (simp;done) | (simp;omega))<|
 .u 3 [b1]<|
 .cs (args0:=[.sl 7 true (((l.map verA).take l.length).drop 0),aI (i:Int),.sl 7 true ([(verA c)])]) (Zdd (l.map verA) ([(verA c)]) i false (by rw [List.length_map];omega) (by simp) (by rw [List.length_map];omega) (by simp) (fun l h=>by obtain ⟨z,_,rfl⟩:=List.mem_map.1 h;rfl) (fun l h=>by obtain rfl:=List.mem_singleton.1 h;rfl)) ⟨Sub.of_eq (by rw [List.drop_zero,List.take_of_length_le (by simp)]),sR,Sub.loose _ _ _,trivial⟩<|
 .r 1<|.f (.sl 7 false ((l.take i++c :: l.drop i).map verA)) [] (.sl 7 false ((l.map verA).take i++[(verA c)]++(l.map verA).drop i)) (by exact Sub.of_eq (by simp [verA,List.map_take,List.map_drop])))
theorem Qxt (l:List Cnt) (i:Nat) (c:Cnt) (hi:i≤l.length) (hn:l.length≤100000):Qaf prog 107 [.sl 2 false (l.map cntA),aI (i:Int),.agg [aI c.stamp,aI c.next]] (.sl 2 false ((l.take i++c :: l.drop i).map cntA)):=by
 exact Qac func107 (
 .new fun b1=>.r 1<|.ord [0,1,2,3,4,5,6,7,8,9,10]<|.r 3<|.lm 9 l cntA<|.r 2<|.lm 11 l cntA<|.slc 2 false (l.map cntA) none (some (l.length:Int)) (some (l.length:Int)) 0 l.length true (.inl ⟨rfl,rfl⟩) (.inr rfl) (.inr ⟨rfl,rfl⟩) (by first | omega | (simp;done) | (simp;omega)) (by first | omega | (simp;done) | (simp;omega))<|
 .u 3 [b1]<|
 .cs (args0:=[.sl 2 true (((l.map cntA).take l.length).drop 0),aI (i:Int),.sl 2 true ([[aI c.stamp,aI c.next]])]) (Zde (l.map cntA) ([[aI c.stamp,aI c.next]]) i false (by rw [List.length_map];omega) (by simp) (by rw [List.length_map];omega) (by simp) (fun l h=>by obtain ⟨z,_,rfl⟩:=List.mem_map.1 h;rfl) (fun l h=>by obtain rfl:=List.mem_singleton.1 h;rfl)) ⟨Sub.of_eq (by rw [List.drop_zero,List.take_of_length_le (by simp)]),sR,Sub.loose _ _ _,trivial⟩<|
 .r 1<|.f (.sl 2 false ((l.take i++c :: l.drop i).map cntA)) [] (.sl 2 false ((l.map cntA).take i++[[aI c.stamp,aI c.next]]++(l.map cntA).drop i)) (by exact Sub.of_eq (by simp [cntA,List.map_take,List.map_drop])))
theorem Qzy (l:List Chn) (i:Nat) (c:Chn) (hi:i≤l.length) (hn:l.length≤100000):Qd2 prog 104 [.sl 2 false (l.map chnA),aI (i:Int),.agg [aI c.ino,.sl 7 false (c.l.map verA)]] 98 2 ((l.take i++c :: l.drop i).map chnA):=by
 exact Qeh func104 (
 .new fun b1=>.r 1<|.ord [0,1,2,3,4,5,6,7,8,9,10]<|.r 3<|.lm 9 l chnA<|.r 2<|.lm 11 l chnA<|.slc 2 false (l.map chnA) none (some (l.length:Int)) (some (l.length:Int)) 0 l.length true (.inl ⟨rfl,rfl⟩) (.inr rfl) (.inr ⟨rfl,rfl⟩) (by first | omega | (simp;done) | (simp;omega)) (by first | omega | (simp;done) | (simp;omega))<|
 .u 3 [b1]<|
 .op (crR prog 16) (160,[.sl 2 true (((l.map chnA).take l.length).drop 0),aI (i:Int),.sl 2 true ([[aI c.ino,.sl 7 false (c.l.map verA)]])],16) (fun (V:Value) σ=>(σ.put (some 16) (.rw 16 V ((l.map chnA).take i++[[aI c.ino,.sl 7 false (c.l.map verA)]]++(l.map chnA).drop i).length)).setB 16 (.row V 98 2 ((l.map chnA).take i++[[aI c.ino,.sl 7 false (c.l.map verA)]]++(l.map chnA).drop i))) (Qgm (args':=[.sl 2 true (l.map chnA),aI (i:Int),.sl 2 false ([[aI c.ino,.sl 7 false (c.l.map verA)]])]) ⟨Sub.of_eq (by rw [List.drop_zero,List.take_of_length_le (by simp)]),sR,Sub.loose _ _ _,trivial⟩ (Zhk (l.map chnA) ([[aI c.ino,.sl 7 false (c.l.map verA)]]) i false (by rw [List.length_map];omega) (by simp) (by rw [List.length_map];omega) (by simp) (fun l h=>by obtain ⟨z,_,rfl⟩:=List.mem_map.1 h;rfl) (fun l h=>by obtain rfl:=List.mem_singleton.1 h;rfl))) fun V1=>
 .r 1<|.finRow (x:=(l.map chnA).take i++[[aI c.ino,.sl 7 false (c.l.map verA)]]++(l.map chnA).drop i) (r:=(l.take i++c :: l.drop i).map chnA) [] trivial 16 98 2 (((l.map chnA).take i++[[aI c.ino,.sl 7 false (c.l.map verA)]]++(l.map chnA).drop i).length) V1 (by simp [chnA,List.map_take,List.map_drop]))
def Qar (l:List Chn) (n:Int):Nat:=(l.takeWhile fun c=>decide (c.ino<n)).length
def Qda (l:List Chn) (n:Int):Bool:=match l[Qar l n]? with | some c=>c.ino==n | none=>false
theorem Qrw {n:Int}:∀ {l:List Chn},AllQ (fun _ c=>c.ino<n) l→Qar l n=l.length
 | [],_=>rfl
 | x :: r,h=>by
  have h1:x.ino<n:=h 0 x rfl;have h2:=Qrw (l:=r) fun i e he=>h (i+1) e (by simpa using he);unfold Qar at h2 ⊢;simp [h1,h2]
theorem Qpw {n:Int}:∀ {l:List Chn} {k:Nat} {x:Chn},Qa1 (fun _ c=>c.ino<n) l k→l[k]?=some x→¬ x.ino<n→Qar l n=k
 | y :: r,0,x,_,hx,hp=>by
  simp at hx;subst hx;unfold Qar;simp [hp]
 | y :: r,k+1,x,h,hx,hp=>by
  have h1:y.ino<n:=h 0 y (by omega) rfl;have h2:=Qpw (l:=r) (k:=k) (fun j e hj he=>h (j+1) e (by omega) (by simpa using he)) (by simpa using hx) hp;unfold Qar at h2 ⊢;simp [h1,h2]
theorem Qvy {n:Int} {l:List Chn} {k:Nat} {x:Chn} (h:Qar l n=k) (hx:l[k]?=some x):Qda l n=(x.ino==n):=by
 unfold Qda;rw [h,hx]
theorem Qz3 {n:Int} {l:List Chn} (h:Qar l n=l.length):Qda l n=false:=by
 unfold Qda;rw [h,List.getElem?_eq_none (Nat.le_refl _)]
def Qao (c:Chg) (st:Int):Ver:=if c.gone then ⟨st,true,nod0⟩ else ⟨st,false,⟨c.ino,c.n.kind,c.n.links,c.n.text,c.n.l⟩⟩
theorem Qul (l:List Chn) (n:Int) (hl:l.length≤100000):Qaf prog 103 [.sl 2 false (l.map chnA),aI n] (.tup [aI (Qar l n:Int),aB (Qda l n)]):=by
 exact Qac func103 (
 .r 2<|.r 2<|.lm 11 l chnA<|.r 2<|.r 2<|.lm 13 l chnA<|.r 1<|let L1:Lp (Nat):=⟨fun a1=>⟨[(1,aI n),(12,.sl 2 false (l.map chnA)),(13,aI (l.length:Int)),(14,aI (a1:Int)),(6,aI (l.length:Int)),(7,aB false)],[]⟩,fun a1=>l.length-a1,fun a1=>a1≤l.length∧Qa1 (fun _ c=>c.ino<n) l a1⟩
 .lp L1 0 ⟨Nat.zero_le _,Qa1.zero _ _⟩ [(14,aI 0)] [] ⟨sR,sR,sR,sO,sR,sR,trivial⟩ trivial fun a1 ha1=>
 (fun (k:Nat) (hH1:k≤l.length∧Qa1 (fun _ c=>c.ino<n) l k)=>.r 1<|.bd 15 ((k:Int)<(l.length:Int)) (fun p1=>.r 1<|.idxM l chnA k (m:=(k:Int)) rfl (by omega) fun x1 hx1=>
 .r 1<|.new fun b1=>.u 2 [b1]<|
 .u 5 [b1]<|
 .bd 19 (x1.ino<n) (fun p2=>.run 2 [rng .i64 ((k:Int)+1)] ⟨Qaj (by omega) (by omega),trivial⟩<|
 .bk L1 k (k+1) ⟨by omega,hH1.2.step hx1 (by omega)⟩ (show l.length-(k+1)<l.length-k from (by omega)) [(14,aI ((k:Int)+1))] [] ⟨sR,sR,sR,sO,sR,sR,trivial⟩ trivial)
 <| fun p2=>.u 5 [b1]<|
 .br 24 (x1.ino==n) (fun q3=>have p3:=beqT q3;.r 1<|.r 2<|.r 4<|.f (.tup [aI (Qar l n:Int),aB (Qda l n)]) [] (.tup [aI (k:Int),aB true]) (by
  have e:=Qpw hH1.2 hx1 (by omega);rw [Qvy e hx1,e,show (x1.ino==n)=true from q3];exact sR))
 <| fun q3=>have p3:=beqF q3;.r 2<|.r 4<|.f (.tup [aI (Qar l n:Int),aB (Qda l n)]) [] (.tup [aI (k:Int),aB false]) (by
  have e:=Qpw hH1.2 hx1 (by omega);rw [Qvy e hx1,e,show (x1.ino==n)=false from q3];exact sR))
 <| fun p1=>.r 4<|.f (.tup [aI (Qar l n:Int),aB (Qda l n)]) [] (.tup [aI (l.length:Int),aB false]) (by
  have e:=Qrw (hH1.2.full (by omega));rw [Qz3 e,e];exact sR)) a1 ha1)
theorem Qe1 (c:Chg) (st:Int):Qaf prog 106 [.agg (chgA c),aI st] (.agg (verA (Qao c st))):=by
 exact Qac func106 (
 .new fun b1=>.new fun b2=>.u 2 [b1]<|
 .br 7 (c.gone) (fun q1=>have p1:=booT q1;.u 3 [b2]<|
 .f (.agg (verA (Qao c st))) [b2] (.agg [aI st,aB true,aI 0,aI 0,aI 0,aS ([]),aN]) (by
  rw [show Qao c st=⟨st,true,nod0⟩ from if_pos q1];exact Sub.aggs ⟨sR,sR,sR,sR,sR,sR,Sub.nil _ _,trivial⟩))
 <| fun q1=>have p1:=booF q1;.u 4 [b1]<|
 .new fun b3=>.u 1 [b3]<|
 .u 5 [b1,b3]<|
 .u 2 [b3,b2]<|
 .f (.agg (verA (Qao c st))) [b2] (.agg [aI st,aB false,aI c.ino,aI c.n.kind,aI c.n.links,aS c.n.text,.sl 2 false (c.n.l.map entA)]) (by
  rw [show Qao c st=_ from if_neg (by rw [q1];simp)];exact sR))
end Go.Proofs.YtahlldgocpabjaaGreat
