import Derived.Test.YtahlldgocpabjaaGreatMrgAH
set_option maxRecDepth 100000
set_option maxHeartbeats 8000000
set_option linter.unusedVariables false
set_option linter.unusedSimpArgs false
namespace Go.Proofs.YtahlldgocpabjaaGreat
open Go Go.RowKit Copyhold Go.Proofs.Tryz
theorem Qo9 (xs:List (List AV)) (hl:xs.length≤100000) (hx:∀ l∈xs,l.length=2):Qd2 prog 102 [.sl 2 false xs] 98 2 (xs):=by
 exact Qeh func102 (
 .r 1<|.r 1<|.isNil xs fun b1 hnb1=>
 .br 4 (b1) (fun q1=>have p1:=booT q1;.r 1<|.rowNil 199 2 98 2<|.finRow (x:=[]) (r:=xs) [] trivial 199 98 2 (0) (.slice none 0 0) (by exact (hnb1 (by assumption)).symm))
 <| fun q1=>have p1:=booF q1;.lit0 fun V1=>.r 1<|.app 32 V1 ([]:List (List AV)) xs (by simp<;>omega) (by simp<;>omega) fun V2=>
 .r 1<|.finRow (x:=([]:List (List AV))++xs) (r:=xs) [] trivial 5 98 2 (([]:List (List AV)).length+xs.length) V2 (by simp))
theorem Qn7 {l:List Chn} {n:Int} (h:Qda l n=true):∃ c,l[Qar l n]?=some c∧c.ino=n:=by
 unfold Qda at h
 split at h
 ·rename_i c hc;exact ⟨c,hc,by simpa using h⟩
 ·cases h
theorem Qa2 {l:List Chn} {n:Int} (h:Qda l n=true):Qar l n<l.length:=by
 obtain ⟨c,hc,_⟩:=Qn7 h;exact Qan hc
theorem Qi6 (l:List Chn) (n:Int):Qar l n≤l.length:=by
 have h:=congrArg List.length (List.takeWhile_append_dropWhile (p:=fun c:Chn=>decide (c.ino<n)) (l:=l));rw [List.length_append] at h;unfold Qar;omega
def Qb7 (r:List Ver) (st:Int):List Ver:=match r[r.length-1]? with
 | some v=>if v.stamp=st then r.take (r.length-1) else r
 | none=>r
theorem Zix (st:Int):Qb7 [] st=[]:=rfl
theorem Qxp {r:List Ver} {st:Int} {v:Ver} (h:r[r.length-1]?=some v) (e:v.stamp=st):Qb7 r st=r.take (r.length-1):=by unfold Qb7;rw [h];exact if_pos e
theorem Zew {r:List Ver} {st:Int} {v:Ver} (h:r[r.length-1]?=some v) (e:¬ v.stamp=st):Qb7 r st=r:=by unfold Qb7;rw [h];exact if_neg e
theorem Qno (r:List Ver) (st:Int):(Qb7 r st).length≤r.length:=by
 unfold Qb7
 split
 ·split
  ·rw [List.length_take];omega
  ·exact Nat.le_refl _
 ·exact Nat.le_refl _
def putC (l:List Chn) (st n:Int) (v:Ver):List Chn:=
 if Qda l n then (match l[Qar l n]? with | some c=>l.set (Qar l n) ⟨c.ino,Qb7 c.l st++[v]⟩ | none=>l)
 else l.take (Qar l n)++⟨n,[v]⟩ :: l.drop (Qar l n)
theorem Qop {l:List Chn} {st n:Int} {v:Ver} {c:Chn} (h:Qda l n=true) (hc:l[Qar l n]?=some c):putC l st n v=l.set (Qar l n) ⟨c.ino,Qb7 c.l st++[v]⟩:=by
 unfold putC;rw [if_pos h,hc]
theorem Qwb {l:List Chn} {st n:Int} {v:Ver} (h:Qda l n=false):putC l st n v=l.take (Qar l n)++⟨n,[v]⟩ :: l.drop (Qar l n):=by
 unfold putC;rw [if_neg (by rw [h];simp)]
theorem Zgi (l:List Chn) (st n:Int) (v:Ver):(putC l st n v).length≤l.length+1:=by
 unfold putC
 split
 ·split
  ·simp
  ·omega
 ·have:=Qi6 l n;simp;omega
def Qap (l:List Chn) (st:Int) (cs:List Chg) (k:Nat):List Chn:=(cs.take k).foldl (fun l c=>putC l st c.ino (Qao c st)) l
theorem Qcm {l:List Chn} {st:Int} {cs:List Chg} {k:Nat} {c:Chg} (h:cs[k]?=some c):Qap l st cs (k+1)=putC (Qap l st cs k) st c.ino (Qao c st):=by
 unfold Qap;rw [Qak h,List.foldl_append];rfl
theorem Qjm (l:List Chn) (st:Int) (cs:List Chg):∀ k,(Qap l st cs k).length≤l.length+k
 | 0=>by simp [Qap]
 | k+1=>by
  have ih:=Qjm l st cs k;cases hc:cs[k]? with
  | none=>
   have e:Qap l st cs (k+1)=Qap l st cs k:=by
    have hk:=List.getElem?_eq_none_iff.1 hc;unfold Qap;rw [List.take_of_length_le (by omega),List.take_of_length_le hk]
   rw [e];omega
  | some c=>
   rw [Qcm hc];have:=Zgi (Qap l st cs k) st c.ino (Qao c st);omega
theorem Qir (l:List Ver) (c:Ver) (hn:l.length≤100000):Qaf prog 105 [.sl 7 false (l.map verA),aI (l.length:Int),.agg (verA c)] (.sl 7 false ((l++[c]).map verA)):=by
 have h:=Qxs l l.length c (Nat.le_refl _) hn;rw [List.take_length,List.drop_length] at h;exact h
theorem Qrb (l:List Cnt) (c:Cnt) (hn:l.length≤100000):Qaf prog 107 [.sl 2 false (l.map cntA),aI (l.length:Int),.agg (cntA c)] (.sl 2 false ((l++[c]).map cntA)):=by
 have h:=Qxt l l.length c (Nat.le_refl _) hn;rw [List.take_length,List.drop_length] at h;exact h
theorem ins_at {α:Type} {l:List α} {i:Nat} {c x:α} (hi:i≤l.length) (h:(l.take i++c :: l.drop i)[i]?=some x):x=c:=by
 rw [List.getElem?_append_right (by rw [List.length_take];omega),List.length_take,Nat.min_eq_left hi,Nat.sub_self] at h;exact (Option.some.inj h).symm
theorem Zkp {α:Type} {l:List α} {i:Nat} {c d:α} (hi:i≤l.length):(l.take i++c :: l.drop i).set i d=l.take i++d :: l.drop i:=by
 rw [List.set_append_right _ _ (by rw [List.length_take];omega),List.length_take,Nat.min_eq_left hi,Nat.sub_self];rfl
def Qd9 (s:Sto) (next:Int):List Cnt:=match s.nexts[s.nexts.length-1]? with
 | some c=>if next>c.next then s.nexts++[⟨s.stamp+1,next⟩] else s.nexts
 | none=>s.nexts++[⟨s.stamp+1,next⟩]
theorem Qyv {s:Sto} {next:Int} (h:s.nexts.length=0):Qd9 s next=s.nexts++[⟨s.stamp+1,next⟩]:=by
 unfold Qd9;rw [List.eq_nil_of_length_eq_zero h];rfl
theorem Qr1 {s:Sto} {next:Int} {c:Cnt} (h:s.nexts[s.nexts.length-1]?=some c) (e:next>c.next):Qd9 s next=s.nexts++[⟨s.stamp+1,next⟩]:=by
 unfold Qd9;rw [h];exact if_pos e
theorem Zg0 {s:Sto} {next:Int} {c:Cnt} (h:s.nexts[s.nexts.length-1]?=some c) (e:¬ next>c.next):Qd9 s next=s.nexts:=by
 unfold Qd9;rw [h];exact if_neg e
def Qii (s:Sto) (cs:List Chg) (next:Int):Sto:=⟨Qap s.l (s.stamp+1) cs cs.length,Qd9 s next,s.stamp+1⟩
theorem Zbr {l:List Chn} {st n:Int} {v:Ver} {B:Nat} (h:∀ c∈l,c.l.length≤B):∀ c∈putC l st n v,c.l.length≤B+1:=by
 intro c hc;unfold putC at hc
 split at hc
 ·split at hc
  ·rename_i d hd;rcases List.mem_or_eq_of_mem_set hc with hc | rfl
   ·have:=h c hc;omega
   ·have h1:=h d (List.mem_of_getElem? hd);have h2:=Qno d.l st;simp only [List.length_append,List.length_singleton];omega
  ·have:=h c hc;omega
 ·rcases List.mem_append.1 hc with hc | hc
  ·have:=h c (List.mem_of_mem_take hc);omega
  ·rcases List.mem_cons.1 hc with rfl | hc
   ·simp
   ·have:=h c (List.mem_of_mem_drop hc);omega
theorem Qel {l:List Chn} {st:Int} {cs:List Chg} {B:Nat} (h:∀ c∈l,c.l.length≤B):∀ k,k≤cs.length→∀ c∈Qap l st cs k,c.l.length≤B+k
 | 0,_=>by simpa [Qap] using h
 | k+1,hk=>by
  obtain ⟨c,hc⟩:=Qfe (l:=cs) (k:=k) (by omega);rw [Qcm hc];exact Zbr (Qel h k (by omega))
theorem Qbc (l:List Chn) (n:Int) (c:Chn):Qar l n<(l.take (Qar l n)++c :: l.drop (Qar l n)).length:=by
 have:=Qi6 l n;simp only [List.length_append,List.length_take,List.length_cons,List.length_drop];omega
theorem Qkq {l:List Chn} {st n:Int} {v:Ver} {c:Chn} (h:Qda l n=true) (hc:l[Qar l n]?=some c) (b:List Ver) (hb:b=Qb7 c.l st):((l.map chnA).set (Qar l n) ((chnA c).take 1++[AV.sl 7 false ((b++[v]).map verA)]++(chnA c).drop (1+1)))=(putC l st n v).map chnA:=by
 rw [Qop h hc,List.map_set,hb];rfl
theorem Zex {l:List Chn} {st n:Int} {v:Ver} {c:Chn} (h:Qda l n=false) (hc:c=⟨n,[]⟩) (b:List Ver) (hb:b=Qb7 c.l st):(((l.take (Qar l n)++(⟨n,[]⟩:Chn) :: l.drop (Qar l n)).map chnA).set (Qar l n) ((chnA c).take 1++[AV.sl 7 false ((b++[v]).map verA)]++(chnA c).drop (1+1)))=(putC l st n v).map chnA:=by
 subst hc;rw [Qwb h,hb,Zix];have h2:=congrArg (List.map chnA) (Zkp (d:=(⟨n,[v]⟩:Chn)) (c:=(⟨n,[]⟩:Chn)) (Qi6 l n));rw [List.map_set] at h2;exact h2
theorem Qmu {l:List Chn} {st n:Int} {v:Ver} (h:Qda l n=true):(putC l st n v).length=l.length:=by
 obtain ⟨c,hc,_⟩:=Qn7 h;rw [Qop h hc,List.length_set]
theorem Zg9 {l:List Chn} {st n:Int} {v:Ver} (h:Qda l n=false):(putC l st n v).length=(l.take (Qar l n)++(⟨n,[]⟩:Chn) :: l.drop (Qar l n)).length:=by
 rw [Qwb h];simp
theorem Qse (s:Sto) (cs:List Chg) (next:Int) (oks:OkS s) (hf:s.l.length≤1000) (hc:cs.length≤1000) (hnx:s.nexts.length≤1000) (hv:∀ c∈s.l,c.l.length≤1000) (hs:s.stamp<1152921504606846977):Qaf prog 58 [.agg (stoA s),.sl 7 false (cs.map chgA),aI next] (.agg (stoA (Qii s cs next))):=by
 have ok1:=oks.1.1;exact Qac func58 (
 .new fun b1=>.new fun b2=>.run 4 [b1=b1,rng .i64 (s.stamp+1)] ⟨rfl,Qaj (by omega) (by omega),trivial⟩<|
 let J1:Jn (Nat × Value):=⟨fun j1=>⟨[(1,.sl 7 false (cs.map chgA)),(2,aI next),(3,.ptr 3 b1 0),(6,.ptr 6 b2 0),(7,aI (s.stamp+1)),(8,.ptr 8 j1.1 0)],[(3,.box b1 25 (stoA s)),(6,.box b2 25 [aN,aN,aI 0]),(100,.row j1.2 98 2 (s.l.map chnA)),(8,.box j1.1 25 [.rw 100 j1.2 ((s.l.map chnA).length),.sl 2 false (s.nexts.map cntA),aI (s.stamp+1)])]⟩,fun _=>True⟩
 .cut J1 (.pick [0,1,3,4,5]<|.u 5 [b1,b1]<|
 .fork<|.alt (.op (crR prog 100) (102,[.sl 2 false (s.l.map chnA)],21) (fun (V:Value) σ=>(σ.put (some 21) (.rw 100 V (s.l.map chnA).length)).setB 100 (.row V 98 2 (s.l.map chnA))) (Qgm (args':=[.sl 2 false (s.l.map chnA)]) sr1 (Qo9 (s.l.map chnA) (by rw [List.length_map];omega) (fun l h=>by obtain ⟨z,_,rfl⟩:=List.mem_map.1 h;rfl))) fun V1=>
 .pick [6,7,8]<|.r 1<|.new fun b3=>.u 1 [b3]<|
 .jo J1 (b3,V1) [] [] sr6 bb4)
 <| .new fun b4=>.pick [2,6,8]<|.op (crR prog 100) (102,[.sl 2 false (s.l.map chnA)],21) (fun (V:Value) σ=>(σ.put (some 21) (.rw 100 V (s.l.map chnA).length)).setB 100 (.row V 98 2 (s.l.map chnA))) (Qgm (args':=[.sl 2 false (s.l.map chnA)]) sr1 (Qo9 (s.l.map chnA) (by rw [List.length_map];omega) (fun l h=>by obtain ⟨z,_,rfl⟩:=List.mem_map.1 h;rfl))) fun V2=>
 .u 2 [b4]<|
 .jo J1 (b4,V2) [] [] sr6 bb4)
 <| fun j1 _=>(fun (b5:Nat) (V3:Value)=>.r 2<|.lm 27 cs chgA<|.r 1<|let L1:Lp (Nat × Value):=⟨fun a1=>⟨[(2,aI next),(3,.ptr 3 b1 0),(6,.ptr 6 b2 0),(7,aI (s.stamp+1)),(8,.ptr 8 b5 0),(26,.sl 7 false (cs.map chgA)),(27,aI (cs.length:Int)),(28,aI (a1.1:Int))],[(3,.box b1 25 (stoA s)),(6,.box b2 25 [aN,aN,aI 0]),(8,.box b5 25 [.rw 100 a1.2 ((Qap s.l (s.stamp+1) cs a1.1).length),.sl 2 false (s.nexts.map cntA),aI (s.stamp+1)]),(100,.row a1.2 98 2 ((Qap s.l (s.stamp+1) cs a1.1).map chnA))]⟩,fun a1=>cs.length-a1.1,fun a1=>a1.1≤cs.length⟩
 .lp L1 (0,V3) (show 0≤cs.length from Nat.zero_le _) [(28,aI 0)] [(8,.box b5 25 [.rw 100 V3 ((s.l.map chnA).length),.sl 2 false (s.nexts.map cntA),aI (s.stamp+1)]),(100,.row V3 98 2 (s.l.map chnA))] ⟨sR,sR,sR,sR,sR,sR,sR,sO,trivial⟩ ⟨sB,sB,⟨_,rfl,SubB.boxs ⟨Sub.of_eq (congrArg (AV.rw 100 V3) (by simp [Qap])),sR,sR,trivial⟩⟩,⟨_,rfl,SubB.of_eq rfl⟩,trivial⟩ fun a1 ha1=>
 (fun (k:Nat) (V:Value) (hH1:k≤cs.length)=>.r 1<|.br 29 (decide ((k:Int)<(cs.length:Int))) (fun q1=>have p1:=decT q1;.idxM cs chgA k (m:=(k:Int)) rfl (by omega) fun x1 hx1=>
 .r 1<|.new fun b6=>.u 1 [b6]<|
 .u 4 [b5,b6]<|
 .op (cbR prog 100) ((103,[.rw 100 V ((Qap s.l (s.stamp+1) cs k).length),aI x1.ino],some 37),(V,98,2,(Qap s.l (s.stamp+1) cs k).map chnA)) (fun (_:Unit) σ=>σ.put (some 37) (.tup [aI (Qar (Qap s.l (s.stamp+1) cs k) x1.ino:Int),aB (Qda (Qap s.l (s.stamp+1) cs k) x1.ino)])) (Qpn (args':=[.sl 2 false ((Qap s.l (s.stamp+1) cs k).map chnA),aI x1.ino]) ⟨Fz.row _ _ _ _ _ _ (by first | rfl | (simp;done) | (simp;omega)),Fz.refl _ _,trivial⟩ (Qul (Qap s.l (s.stamp+1) cs k) x1.ino (by have:=Qjm s.l (s.stamp+1) cs k;omega)) rfl) fun _=>
 .r 5<|.r 2<|.br 41 (!(Qda (Qap s.l (s.stamp+1) cs k) x1.ino)) (fun q2=>have q2:=notT q2;have p2:=booF q2;.frz 100 [2,3,6,7,8,10,11,12,26,27,28,29,30,31,32,33,34,35,36,37,38,39,40,41] [3,6,8,10] [V=V,(Qap s.l (s.stamp+1) cs k).length=((Qap s.l (s.stamp+1) cs k).map chnA).length,V=V,(Qap s.l (s.stamp+1) cs k).length=((Qap s.l (s.stamp+1) cs k).map chnA).length] ⟨rfl,(by first | rfl | (simp;done) | (simp;omega)),rfl,(by first | rfl | (simp;done) | (simp;omega)),trivial⟩<|
 .u 6 [b5,b6]<|
 .op (crR prog 100) (104,[.sl 2 false ((Qap s.l (s.stamp+1) cs k).map chnA),aI (Qar (Qap s.l (s.stamp+1) cs k) x1.ino:Int),.agg [aI x1.ino,aN]],48) (fun (V:Value) σ=>(σ.put (some 48) (.rw 100 V (((Qap s.l (s.stamp+1) cs k).take (Qar (Qap s.l (s.stamp+1) cs k) x1.ino)++(⟨x1.ino,[]⟩:Chn) :: (Qap s.l (s.stamp+1) cs k).drop (Qar (Qap s.l (s.stamp+1) cs k) x1.ino)).map chnA).length)).setB 100 (.row V 98 2 (((Qap s.l (s.stamp+1) cs k).take (Qar (Qap s.l (s.stamp+1) cs k) x1.ino)++(⟨x1.ino,[]⟩:Chn) :: (Qap s.l (s.stamp+1) cs k).drop (Qar (Qap s.l (s.stamp+1) cs k) x1.ino)).map chnA))) (Qgm (args':=[.sl 2 false ((Qap s.l (s.stamp+1) cs k).map chnA),aI (Qar (Qap s.l (s.stamp+1) cs k) x1.ino:Int),.agg [aI ((⟨x1.ino,[]⟩:Chn).ino),.sl 7 false ((⟨x1.ino,[]⟩:Chn).l.map verA)]]) ⟨sR,sR,Sub.aggs ⟨sR,Sub.nil _ _,trivial⟩,trivial⟩ (Qzy (Qap s.l (s.stamp+1) cs k) (Qar (Qap s.l (s.stamp+1) cs k) x1.ino) (⟨x1.ino,[]⟩:Chn) (Qi6 _ _) (by have:=Qjm s.l (s.stamp+1) cs k;omega))) fun V4=>
 .u 2 [b5]<|
 .st (rowR 100) (V4,98,2,((Qap s.l (s.stamp+1) cs k).take (Qar (Qap s.l (s.stamp+1) cs k) x1.ino)++(⟨x1.ino,[]⟩:Chn) :: (Qap s.l (s.stamp+1) cs k).drop (Qar (Qap s.l (s.stamp+1) cs k) x1.ino)).map chnA) (fun _ σ=>σ) (Qbx 100 (by first | exact Qa2 (by assumption) | exact Qbc _ _ _ | (rw [List.length_map];first | exact Qa2 (by assumption) | exact Qbc _ _ _ | exact Nat.lt_of_le_of_lt (Nat.zero_le _) (Qa2 (by assumption)) | exact Nat.lt_of_le_of_lt (Nat.zero_le _) (Qbc _ _ _)))) fun a7r=>
 .u 3 [b5]<|
 .op (ixR prog) (100,V4,(((Qap s.l (s.stamp+1) cs k).take (Qar (Qap s.l (s.stamp+1) cs k) x1.ino)++(⟨x1.ino,[]⟩:Chn) :: (Qap s.l (s.stamp+1) cs k).drop (Qar (Qap s.l (s.stamp+1) cs k) x1.ino)).map chnA).length,2,(Qar (Qap s.l (s.stamp+1) cs k) x1.ino:Int),some 53) (fun (_:Unit) σ=>σ.put (some 53) (.ep 100 V4 2 (Qar (Qap s.l (s.stamp+1) cs k) x1.ino) 0)) (Qe4 (Qar (Qap s.l (s.stamp+1) cs k) x1.ino) a7r.2.1 (by omega) (by first | exact Qa2 (by assumption) | exact Qbc _ _ _ | (rw [List.length_map];first | exact Qa2 (by assumption) | exact Qbc _ _ _ | exact Nat.lt_of_le_of_lt (Nat.zero_le _) (Qa2 (by assumption)) | exact Nat.lt_of_le_of_lt (Nat.zero_le _) (Qbc _ _ _)))) fun _=>
 .ex (Qfe (l:=((Qap s.l (s.stamp+1) cs k).take (Qar (Qap s.l (s.stamp+1) cs k) x1.ino)++(⟨x1.ino,[]⟩:Chn) :: (Qap s.l (s.stamp+1) cs k).drop (Qar (Qap s.l (s.stamp+1) cs k) x1.ino))) (k:=Qar (Qap s.l (s.stamp+1) cs k) x1.ino) (by first | exact Qa2 (by assumption) | exact Qbc _ _ _ | (rw [List.length_map];first | exact Qa2 (by assumption) | exact Qbc _ _ _ | exact Nat.lt_of_le_of_lt (Nat.zero_le _) (Qa2 (by assumption)) | exact Nat.lt_of_le_of_lt (Nat.zero_le _) (Qbc _ _ _)))) fun x2 hx2=>
 have ex2:=ins_at (Qi6 _ _) hx2;have zx2:x2.l.length=0:=(by rw [ex2];rfl);.op (fdR prog) (100,V4,2,Qar (Qap s.l (s.stamp+1) cs k) x1.ino,0,1,some 54) (fun (_:Unit) σ=>σ.put (some 54) (.ep 100 V4 2 (Qar (Qap s.l (s.stamp+1) cs k) x1.ino) 1)) (Qhh) fun _=>
 .op (ldR prog) (V4,2,Qar (Qap s.l (s.stamp+1) cs k) x1.ino,1,V4,2,((Qap s.l (s.stamp+1) cs k).take (Qar (Qap s.l (s.stamp+1) cs k) x1.ino)++(⟨x1.ino,[]⟩:Chn) :: (Qap s.l (s.stamp+1) cs k).drop (Qar (Qap s.l (s.stamp+1) cs k) x1.ino)).map chnA,96,some 55) (fun (_:Unit) σ=>σ.put (some 55) (.sl 7 false (x2.l.map verA))) (Qpm (chnA x2) (map_some hx2) (by kernel_rfl)) fun _=>
 .r 1<|.r 2<|.lm 57 x2.l verA<|.run 2 [rng .i64 ((x2.l.length:Int)-1)] ⟨Qaj (by omega) (by omega),trivial⟩<|
 .r 3<|.br 61 (decide (((x2.l.length:Int)-1)≥0)) (fun q3=>have p3:=decT q3;.no (by omega))
 <| fun q3=>have p3:=decF q3;.r 8<|.st (rowR 100) (V4,98,2,((Qap s.l (s.stamp+1) cs k).take (Qar (Qap s.l (s.stamp+1) cs k) x1.ino)++(⟨x1.ino,[]⟩:Chn) :: (Qap s.l (s.stamp+1) cs k).drop (Qar (Qap s.l (s.stamp+1) cs k) x1.ino)).map chnA) (fun _ σ=>σ) (Qbx 100 (by first | exact Qa2 (by assumption) | exact Qbc _ _ _ | (rw [List.length_map];first | exact Qa2 (by assumption) | exact Qbc _ _ _ | exact Nat.lt_of_le_of_lt (Nat.zero_le _) (Qa2 (by assumption)) | exact Nat.lt_of_le_of_lt (Nat.zero_le _) (Qbc _ _ _)))) fun a8r=>
 .ord [0,1,2,3,4,5,6,7,8,9,10,11,12]<|.u 6 [b5]<|
 .lm 78 x2.l verA<|.u 2 [b6]<|
 .call (Qe1 x1 (s.stamp+1))<|
 .cs (args0:=[.sl 7 false (x2.l.map verA),aI (x2.l.length:Int),.agg [aI ((Qao x1 (s.stamp+1)).stamp),aB ((Qao x1 (s.stamp+1)).gone),aI ((Qao x1 (s.stamp+1)).n.ino),aI ((Qao x1 (s.stamp+1)).n.kind),aI ((Qao x1 (s.stamp+1)).n.links),aS ((Qao x1 (s.stamp+1)).n.text),.sl 2 false ((Qao x1 (s.stamp+1)).n.l.map entA)]]) (Qir (Qb7 x2.l (s.stamp+1)) (Qao x1 (s.stamp+1)) (by have:=Qno x2.l (s.stamp+1);have:=zx2;omega)) ⟨Sub.of_eq (by rw [show Qb7 x2.l (s.stamp+1)=x2.l from by rw [show x2.l=[] from List.eq_nil_of_length_eq_zero (by omega)];rfl]),Sub.of_eq (congrArg aI (by rw [show Qb7 x2.l (s.stamp+1)=x2.l from by rw [show x2.l=[] from List.eq_nil_of_length_eq_zero (by omega)];rfl])),sR,trivial⟩<|
 .op (ixR prog) (100,V4,(((Qap s.l (s.stamp+1) cs k).take (Qar (Qap s.l (s.stamp+1) cs k) x1.ino)++(⟨x1.ino,[]⟩:Chn) :: (Qap s.l (s.stamp+1) cs k).drop (Qar (Qap s.l (s.stamp+1) cs k) x1.ino)).map chnA).length,2,(Qar (Qap s.l (s.stamp+1) cs k) x1.ino:Int),some 83) (fun (_:Unit) σ=>σ.put (some 83) (.ep 100 V4 2 (Qar (Qap s.l (s.stamp+1) cs k) x1.ino) 0)) (Qe4 (Qar (Qap s.l (s.stamp+1) cs k) x1.ino) a8r.2.1 (by omega) (by first | exact Qa2 (by assumption) | exact Qbc _ _ _ | (rw [List.length_map];first | exact Qa2 (by assumption) | exact Qbc _ _ _ | exact Nat.lt_of_le_of_lt (Nat.zero_le _) (Qa2 (by assumption)) | exact Nat.lt_of_le_of_lt (Nat.zero_le _) (Qbc _ _ _)))) fun _=>
 .op (fdR prog) (100,V4,2,Qar (Qap s.l (s.stamp+1) cs k) x1.ino,0,1,some 84) (fun (_:Unit) σ=>σ.put (some 84) (.ep 100 V4 2 (Qar (Qap s.l (s.stamp+1) cs k) x1.ino) 1)) (Qhh) fun _=>
 .op (stR prog) (100,V4,2,Qar (Qap s.l (s.stamp+1) cs k) x1.ino,1,V4,98,2,((Qap s.l (s.stamp+1) cs k).take (Qar (Qap s.l (s.stamp+1) cs k) x1.ino)++(⟨x1.ino,[]⟩:Chn) :: (Qap s.l (s.stamp+1) cs k).drop (Qar (Qap s.l (s.stamp+1) cs k) x1.ino)).map chnA,[AV.sl 7 false (((Qb7 x2.l (s.stamp+1))++[(Qao x1 (s.stamp+1))]).map verA)],none) (fun (_:Unit) σ=>(σ.put (none) .any).setB 100 (.row V4 98 2 ((((Qap s.l (s.stamp+1) cs k).take (Qar (Qap s.l (s.stamp+1) cs k) x1.ino)++(⟨x1.ino,[]⟩:Chn) :: (Qap s.l (s.stamp+1) cs k).drop (Qar (Qap s.l (s.stamp+1) cs k) x1.ino)).map chnA).set (Qar (Qap s.l (s.stamp+1) cs k) x1.ino) ((chnA x2).take 1++[AV.sl 7 false (((Qb7 x2.l (s.stamp+1))++[(Qao x1 (s.stamp+1))]).map verA)]++(chnA x2).drop (1+[AV.sl 7 false (((Qb7 x2.l (s.stamp+1))++[(Qao x1 (s.stamp+1))]).map verA)].length))))) (Qi2 (chnA x2) (map_some hx2) (Nat.le_of_ble_eq_true rfl)) fun _=>
 .run 2 [rng .i64 ((k:Int)+1)] ⟨Qaj (by omega) (by omega),trivial⟩<|
 .bk L1 (k,V) ((k+1),V4) (show (k+1)≤cs.length from (by show _≤_;omega)) (show cs.length-(k+1)<cs.length-k from (by omega)) [(28,aI ((k:Int)+1))] [(8,.box b5 25 [.rw 100 V4 ((((Qap s.l (s.stamp+1) cs k).take (Qar (Qap s.l (s.stamp+1) cs k) x1.ino)++(⟨x1.ino,[]⟩:Chn) :: (Qap s.l (s.stamp+1) cs k).drop (Qar (Qap s.l (s.stamp+1) cs k) x1.ino)).map chnA).length),.sl 2 false (s.nexts.map cntA),aI (s.stamp+1)]),(100,.row V4 98 2 ((((Qap s.l (s.stamp+1) cs k).take (Qar (Qap s.l (s.stamp+1) cs k) x1.ino)++(⟨x1.ino,[]⟩:Chn) :: (Qap s.l (s.stamp+1) cs k).drop (Qar (Qap s.l (s.stamp+1) cs k) x1.ino)).map chnA).set (Qar (Qap s.l (s.stamp+1) cs k) x1.ino) ((chnA x2).take 1++[AV.sl 7 false (((Qb7 x2.l (s.stamp+1))++[(Qao x1 (s.stamp+1))]).map verA)]++(chnA x2).drop (1+[AV.sl 7 false (((Qb7 x2.l (s.stamp+1))++[(Qao x1 (s.stamp+1))]).map verA)].length))))] ⟨sR,sR,sR,sR,sR,sR,sR,sO,trivial⟩ ⟨sB,sB,⟨_,rfl,SubB.boxs ⟨Sub.of_eq (congrArg (AV.rw 100 V4) (by rw [Qcm hx1,Zg9 q2];simp)),sR,sR,trivial⟩⟩,⟨_,rfl,SubB.of_eq (congrArg (Bx.row V4 98 2) (by rw [Qcm hx1];exact Zex q2 ex2 _ rfl))⟩,trivial⟩)
 <| fun q2=>have q2:=notF q2;have p2:=booT q2;.st (rowR 100) (V,98,2,(Qap s.l (s.stamp+1) cs k).map chnA) (fun _ σ=>σ) (Qbx 100 (by first | exact Qa2 (by assumption) | exact Qbc _ _ _ | (rw [List.length_map];first | exact Qa2 (by assumption) | exact Qbc _ _ _ | exact Nat.lt_of_le_of_lt (Nat.zero_le _) (Qa2 (by assumption)) | exact Nat.lt_of_le_of_lt (Nat.zero_le _) (Qbc _ _ _)))) fun a9r=>
 .u 3 [b5]<|
 .op (ixR prog) (100,V,(Qap s.l (s.stamp+1) cs k).length,2,(Qar (Qap s.l (s.stamp+1) cs k) x1.ino:Int),some 53) (fun (_:Unit) σ=>σ.put (some 53) (.ep 100 V 2 (Qar (Qap s.l (s.stamp+1) cs k) x1.ino) 0)) (Qe4 (Qar (Qap s.l (s.stamp+1) cs k) x1.ino) a9r.2.1 (by omega) (by first | exact Qa2 (by assumption) | exact Qbc _ _ _ | (rw [List.length_map];first | exact Qa2 (by assumption) | exact Qbc _ _ _ | exact Nat.lt_of_le_of_lt (Nat.zero_le _) (Qa2 (by assumption)) | exact Nat.lt_of_le_of_lt (Nat.zero_le _) (Qbc _ _ _)))) fun _=>
 .ex (Qfe (l:=(Qap s.l (s.stamp+1) cs k)) (k:=Qar (Qap s.l (s.stamp+1) cs k) x1.ino) (by first | exact Qa2 (by assumption) | exact Qbc _ _ _ | (rw [List.length_map];first | exact Qa2 (by assumption) | exact Qbc _ _ _ | exact Nat.lt_of_le_of_lt (Nat.zero_le _) (Qa2 (by assumption)) | exact Nat.lt_of_le_of_lt (Nat.zero_le _) (Qbc _ _ _)))) fun x3 hx3=>
 have rx3:=Qel (st:=s.stamp+1) (cs:=cs) hv k (by omega) x3 (List.mem_of_getElem? hx3);.op (fdR prog) (100,V,2,Qar (Qap s.l (s.stamp+1) cs k) x1.ino,0,1,some 54) (fun (_:Unit) σ=>σ.put (some 54) (.ep 100 V 2 (Qar (Qap s.l (s.stamp+1) cs k) x1.ino) 1)) (Qhh) fun _=>
 .op (ldR prog) (V,2,Qar (Qap s.l (s.stamp+1) cs k) x1.ino,1,V,2,(Qap s.l (s.stamp+1) cs k).map chnA,96,some 55) (fun (_:Unit) σ=>σ.put (some 55) (.sl 7 false (x3.l.map verA))) (Qpm (chnA x3) (map_some hx3) (by kernel_rfl)) fun _=>
 .r 1<|.r 2<|.lm 57 x3.l verA<|.run 2 [rng .i64 ((x3.l.length:Int)-1)] ⟨Qaj (by omega) (by omega),trivial⟩<|
 .r 3<|.br 61 (decide (((x3.l.length:Int)-1)≥0)) (fun q4=>have p4:=decT q4;.r 2<|.idxM x3.l verA (x3.l.length-1) (m:=(x3.l.length:Int)-1) (by omega) (by omega) fun x4 hx4=>
 .r 5<|.br 69 (x4.stamp==(s.stamp+1)) (fun q5=>have p5:=beqT q5;.r 2<|.slc 7 false (x3.l.map verA) none (some ((x3.l.length:Int)-1)) none 0 (x3.l.length-1) false (.inl ⟨rfl,rfl⟩) (.inr (congrArg some (by omega))) (.inl ⟨rfl,fun h=>by cases h⟩) (by simp<;>omega) (by simp<;>omega)<|
 .r 1<|.st (rowR 100) (V,98,2,(Qap s.l (s.stamp+1) cs k).map chnA) (fun _ σ=>σ) (Qbx 100 (by first | exact Qa2 (by assumption) | exact Qbc _ _ _ | (rw [List.length_map];first | exact Qa2 (by assumption) | exact Qbc _ _ _ | exact Nat.lt_of_le_of_lt (Nat.zero_le _) (Qa2 (by assumption)) | exact Nat.lt_of_le_of_lt (Nat.zero_le _) (Qbc _ _ _)))) fun a10r=>
 .ord [0,1,2,3,4,5,6,7,8,9,10,11,12]<|.u 8 [b5,b6]<|
 .call (Qe1 x1 (s.stamp+1))<|
 .cs (args0:=[.sl 7 false (((x3.l.map verA).take (x3.l.length-1)).drop 0),aI ((((x3.l.map verA).take (x3.l.length-1)).drop 0).length:Int),.agg [aI ((Qao x1 (s.stamp+1)).stamp),aB ((Qao x1 (s.stamp+1)).gone),aI ((Qao x1 (s.stamp+1)).n.ino),aI ((Qao x1 (s.stamp+1)).n.kind),aI ((Qao x1 (s.stamp+1)).n.links),aS ((Qao x1 (s.stamp+1)).n.text),.sl 2 false ((Qao x1 (s.stamp+1)).n.l.map entA)]]) (Qir (Qb7 x3.l (s.stamp+1)) (Qao x1 (s.stamp+1)) (by have:=Qno x3.l (s.stamp+1);have:=Qel (st:=s.stamp+1) (cs:=cs) hv k (by omega) x3 (List.mem_of_getElem? hx3);omega)) ⟨Sub.of_eq (by rw [Qxp hx4 p5,List.drop_zero,List.map_take]),Sub.of_eq (congrArg aI (by rw [Qxp hx4 p5];simp)),sR,trivial⟩<|
 .op (ixR prog) (100,V,(Qap s.l (s.stamp+1) cs k).length,2,(Qar (Qap s.l (s.stamp+1) cs k) x1.ino:Int),some 83) (fun (_:Unit) σ=>σ.put (some 83) (.ep 100 V 2 (Qar (Qap s.l (s.stamp+1) cs k) x1.ino) 0)) (Qe4 (Qar (Qap s.l (s.stamp+1) cs k) x1.ino) a10r.2.1 (by omega) (by first | exact Qa2 (by assumption) | exact Qbc _ _ _ | (rw [List.length_map];first | exact Qa2 (by assumption) | exact Qbc _ _ _ | exact Nat.lt_of_le_of_lt (Nat.zero_le _) (Qa2 (by assumption)) | exact Nat.lt_of_le_of_lt (Nat.zero_le _) (Qbc _ _ _)))) fun _=>
 .op (fdR prog) (100,V,2,Qar (Qap s.l (s.stamp+1) cs k) x1.ino,0,1,some 84) (fun (_:Unit) σ=>σ.put (some 84) (.ep 100 V 2 (Qar (Qap s.l (s.stamp+1) cs k) x1.ino) 1)) (Qhh) fun _=>
 .op (stR prog) (100,V,2,Qar (Qap s.l (s.stamp+1) cs k) x1.ino,1,V,98,2,(Qap s.l (s.stamp+1) cs k).map chnA,[AV.sl 7 false (((Qb7 x3.l (s.stamp+1))++[(Qao x1 (s.stamp+1))]).map verA)],none) (fun (_:Unit) σ=>(σ.put (none) .any).setB 100 (.row V 98 2 (((Qap s.l (s.stamp+1) cs k).map chnA).set (Qar (Qap s.l (s.stamp+1) cs k) x1.ino) ((chnA x3).take 1++[AV.sl 7 false (((Qb7 x3.l (s.stamp+1))++[(Qao x1 (s.stamp+1))]).map verA)]++(chnA x3).drop (1+[AV.sl 7 false (((Qb7 x3.l (s.stamp+1))++[(Qao x1 (s.stamp+1))]).map verA)].length))))) (Qi2 (chnA x3) (map_some hx3) (Nat.le_of_ble_eq_true rfl)) fun _=>
 .run 2 [rng .i64 ((k:Int)+1)] ⟨Qaj (by omega) (by omega),trivial⟩<|
 .bk L1 (k,V) ((k+1),V) (show (k+1)≤cs.length from (by show _≤_;omega)) (show cs.length-(k+1)<cs.length-k from (by omega)) [(28,aI ((k:Int)+1))] [(8,.box b5 25 [.rw 100 V ((Qap s.l (s.stamp+1) cs k).length),.sl 2 false (s.nexts.map cntA),aI (s.stamp+1)]),(100,.row V 98 2 (((Qap s.l (s.stamp+1) cs k).map chnA).set (Qar (Qap s.l (s.stamp+1) cs k) x1.ino) ((chnA x3).take 1++[AV.sl 7 false (((Qb7 x3.l (s.stamp+1))++[(Qao x1 (s.stamp+1))]).map verA)]++(chnA x3).drop (1+[AV.sl 7 false (((Qb7 x3.l (s.stamp+1))++[(Qao x1 (s.stamp+1))]).map verA)].length))))] ⟨sR,sR,sR,sR,sR,sR,sR,sO,trivial⟩ ⟨sB,sB,⟨_,rfl,SubB.boxs ⟨Sub.of_eq (congrArg (AV.rw 100 V) (by rw [Qcm hx1,Qmu q2])),sR,sR,trivial⟩⟩,⟨_,rfl,SubB.of_eq (congrArg (Bx.row V 98 2) (by rw [Qcm hx1];exact Qkq q2 hx3 _ rfl))⟩,trivial⟩)
 <| fun q5=>have p5:=beqF q5;.st (rowR 100) (V,98,2,(Qap s.l (s.stamp+1) cs k).map chnA) (fun _ σ=>σ) (Qbx 100 (by first | exact Qa2 (by assumption) | exact Qbc _ _ _ | (rw [List.length_map];first | exact Qa2 (by assumption) | exact Qbc _ _ _ | exact Nat.lt_of_le_of_lt (Nat.zero_le _) (Qa2 (by assumption)) | exact Nat.lt_of_le_of_lt (Nat.zero_le _) (Qbc _ _ _)))) fun a11r=>
 .ord [0,1,2,3,4,5,6,7,8,9,10,11,12]<|.u 6 [b5]<|
 .lm 78 x3.l verA<|.u 2 [b6]<|
 .call (Qe1 x1 (s.stamp+1))<|
 .cs (args0:=[.sl 7 false (x3.l.map verA),aI (x3.l.length:Int),.agg [aI ((Qao x1 (s.stamp+1)).stamp),aB ((Qao x1 (s.stamp+1)).gone),aI ((Qao x1 (s.stamp+1)).n.ino),aI ((Qao x1 (s.stamp+1)).n.kind),aI ((Qao x1 (s.stamp+1)).n.links),aS ((Qao x1 (s.stamp+1)).n.text),.sl 2 false ((Qao x1 (s.stamp+1)).n.l.map entA)]]) (Qir (Qb7 x3.l (s.stamp+1)) (Qao x1 (s.stamp+1)) (by have:=Qno x3.l (s.stamp+1);have:=Qel (st:=s.stamp+1) (cs:=cs) hv k (by omega) x3 (List.mem_of_getElem? hx3);omega)) ⟨Sub.of_eq (by rw [Zew hx4 p5]),Sub.of_eq (congrArg aI (by rw [Zew hx4 p5])),sR,trivial⟩<|
 .op (ixR prog) (100,V,(Qap s.l (s.stamp+1) cs k).length,2,(Qar (Qap s.l (s.stamp+1) cs k) x1.ino:Int),some 83) (fun (_:Unit) σ=>σ.put (some 83) (.ep 100 V 2 (Qar (Qap s.l (s.stamp+1) cs k) x1.ino) 0)) (Qe4 (Qar (Qap s.l (s.stamp+1) cs k) x1.ino) a11r.2.1 (by omega) (by first | exact Qa2 (by assumption) | exact Qbc _ _ _ | (rw [List.length_map];first | exact Qa2 (by assumption) | exact Qbc _ _ _ | exact Nat.lt_of_le_of_lt (Nat.zero_le _) (Qa2 (by assumption)) | exact Nat.lt_of_le_of_lt (Nat.zero_le _) (Qbc _ _ _)))) fun _=>
 .op (fdR prog) (100,V,2,Qar (Qap s.l (s.stamp+1) cs k) x1.ino,0,1,some 84) (fun (_:Unit) σ=>σ.put (some 84) (.ep 100 V 2 (Qar (Qap s.l (s.stamp+1) cs k) x1.ino) 1)) (Qhh) fun _=>
 .op (stR prog) (100,V,2,Qar (Qap s.l (s.stamp+1) cs k) x1.ino,1,V,98,2,(Qap s.l (s.stamp+1) cs k).map chnA,[AV.sl 7 false (((Qb7 x3.l (s.stamp+1))++[(Qao x1 (s.stamp+1))]).map verA)],none) (fun (_:Unit) σ=>(σ.put (none) .any).setB 100 (.row V 98 2 (((Qap s.l (s.stamp+1) cs k).map chnA).set (Qar (Qap s.l (s.stamp+1) cs k) x1.ino) ((chnA x3).take 1++[AV.sl 7 false (((Qb7 x3.l (s.stamp+1))++[(Qao x1 (s.stamp+1))]).map verA)]++(chnA x3).drop (1+[AV.sl 7 false (((Qb7 x3.l (s.stamp+1))++[(Qao x1 (s.stamp+1))]).map verA)].length))))) (Qi2 (chnA x3) (map_some hx3) (Nat.le_of_ble_eq_true rfl)) fun _=>
 .run 2 [rng .i64 ((k:Int)+1)] ⟨Qaj (by omega) (by omega),trivial⟩<|
 .bk L1 (k,V) ((k+1),V) (show (k+1)≤cs.length from (by show _≤_;omega)) (show cs.length-(k+1)<cs.length-k from (by omega)) [(28,aI ((k:Int)+1))] [(8,.box b5 25 [.rw 100 V ((Qap s.l (s.stamp+1) cs k).length),.sl 2 false (s.nexts.map cntA),aI (s.stamp+1)]),(100,.row V 98 2 (((Qap s.l (s.stamp+1) cs k).map chnA).set (Qar (Qap s.l (s.stamp+1) cs k) x1.ino) ((chnA x3).take 1++[AV.sl 7 false (((Qb7 x3.l (s.stamp+1))++[(Qao x1 (s.stamp+1))]).map verA)]++(chnA x3).drop (1+[AV.sl 7 false (((Qb7 x3.l (s.stamp+1))++[(Qao x1 (s.stamp+1))]).map verA)].length))))] ⟨sR,sR,sR,sR,sR,sR,sR,sO,trivial⟩ ⟨sB,sB,⟨_,rfl,SubB.boxs ⟨Sub.of_eq (congrArg (AV.rw 100 V) (by rw [Qcm hx1,Qmu q2])),sR,sR,trivial⟩⟩,⟨_,rfl,SubB.of_eq (congrArg (Bx.row V 98 2) (by rw [Qcm hx1];exact Qkq q2 hx3 _ rfl))⟩,trivial⟩)
 <| fun q4=>have p4:=decF q4;.r 8<|.st (rowR 100) (V,98,2,(Qap s.l (s.stamp+1) cs k).map chnA) (fun _ σ=>σ) (Qbx 100 (by first | exact Qa2 (by assumption) | exact Qbc _ _ _ | (rw [List.length_map];first | exact Qa2 (by assumption) | exact Qbc _ _ _ | exact Nat.lt_of_le_of_lt (Nat.zero_le _) (Qa2 (by assumption)) | exact Nat.lt_of_le_of_lt (Nat.zero_le _) (Qbc _ _ _)))) fun a12r=>
 .ord [0,1,2,3,4,5,6,7,8,9,10,11,12]<|.u 6 [b5]<|
 .lm 78 x3.l verA<|.u 2 [b6]<|
 .call (Qe1 x1 (s.stamp+1))<|
 .cs (args0:=[.sl 7 false (x3.l.map verA),aI (x3.l.length:Int),.agg [aI ((Qao x1 (s.stamp+1)).stamp),aB ((Qao x1 (s.stamp+1)).gone),aI ((Qao x1 (s.stamp+1)).n.ino),aI ((Qao x1 (s.stamp+1)).n.kind),aI ((Qao x1 (s.stamp+1)).n.links),aS ((Qao x1 (s.stamp+1)).n.text),.sl 2 false ((Qao x1 (s.stamp+1)).n.l.map entA)]]) (Qir (Qb7 x3.l (s.stamp+1)) (Qao x1 (s.stamp+1)) (by have:=Qno x3.l (s.stamp+1);have:=Qel (st:=s.stamp+1) (cs:=cs) hv k (by omega) x3 (List.mem_of_getElem? hx3);omega)) ⟨Sub.of_eq (by rw [show Qb7 x3.l (s.stamp+1)=x3.l from by rw [show x3.l=[] from List.eq_nil_of_length_eq_zero (by omega)];rfl]),Sub.of_eq (congrArg aI (by rw [show Qb7 x3.l (s.stamp+1)=x3.l from by rw [show x3.l=[] from List.eq_nil_of_length_eq_zero (by omega)];rfl])),sR,trivial⟩<|
 .op (ixR prog) (100,V,(Qap s.l (s.stamp+1) cs k).length,2,(Qar (Qap s.l (s.stamp+1) cs k) x1.ino:Int),some 83) (fun (_:Unit) σ=>σ.put (some 83) (.ep 100 V 2 (Qar (Qap s.l (s.stamp+1) cs k) x1.ino) 0)) (Qe4 (Qar (Qap s.l (s.stamp+1) cs k) x1.ino) a12r.2.1 (by omega) (by first | exact Qa2 (by assumption) | exact Qbc _ _ _ | (rw [List.length_map];first | exact Qa2 (by assumption) | exact Qbc _ _ _ | exact Nat.lt_of_le_of_lt (Nat.zero_le _) (Qa2 (by assumption)) | exact Nat.lt_of_le_of_lt (Nat.zero_le _) (Qbc _ _ _)))) fun _=>
 .op (fdR prog) (100,V,2,Qar (Qap s.l (s.stamp+1) cs k) x1.ino,0,1,some 84) (fun (_:Unit) σ=>σ.put (some 84) (.ep 100 V 2 (Qar (Qap s.l (s.stamp+1) cs k) x1.ino) 1)) (Qhh) fun _=>
 .op (stR prog) (100,V,2,Qar (Qap s.l (s.stamp+1) cs k) x1.ino,1,V,98,2,(Qap s.l (s.stamp+1) cs k).map chnA,[AV.sl 7 false (((Qb7 x3.l (s.stamp+1))++[(Qao x1 (s.stamp+1))]).map verA)],none) (fun (_:Unit) σ=>(σ.put (none) .any).setB 100 (.row V 98 2 (((Qap s.l (s.stamp+1) cs k).map chnA).set (Qar (Qap s.l (s.stamp+1) cs k) x1.ino) ((chnA x3).take 1++[AV.sl 7 false (((Qb7 x3.l (s.stamp+1))++[(Qao x1 (s.stamp+1))]).map verA)]++(chnA x3).drop (1+[AV.sl 7 false (((Qb7 x3.l (s.stamp+1))++[(Qao x1 (s.stamp+1))]).map verA)].length))))) (Qi2 (chnA x3) (map_some hx3) (Nat.le_of_ble_eq_true rfl)) fun _=>
 .run 2 [rng .i64 ((k:Int)+1)] ⟨Qaj (by omega) (by omega),trivial⟩<|
 .bk L1 (k,V) ((k+1),V) (show (k+1)≤cs.length from (by show _≤_;omega)) (show cs.length-(k+1)<cs.length-k from (by omega)) [(28,aI ((k:Int)+1))] [(8,.box b5 25 [.rw 100 V ((Qap s.l (s.stamp+1) cs k).length),.sl 2 false (s.nexts.map cntA),aI (s.stamp+1)]),(100,.row V 98 2 (((Qap s.l (s.stamp+1) cs k).map chnA).set (Qar (Qap s.l (s.stamp+1) cs k) x1.ino) ((chnA x3).take 1++[AV.sl 7 false (((Qb7 x3.l (s.stamp+1))++[(Qao x1 (s.stamp+1))]).map verA)]++(chnA x3).drop (1+[AV.sl 7 false (((Qb7 x3.l (s.stamp+1))++[(Qao x1 (s.stamp+1))]).map verA)].length))))] ⟨sR,sR,sR,sR,sR,sR,sR,sO,trivial⟩ ⟨sB,sB,⟨_,rfl,SubB.boxs ⟨Sub.of_eq (congrArg (AV.rw 100 V) (by rw [Qcm hx1,Qmu q2])),sR,sR,trivial⟩⟩,⟨_,rfl,SubB.of_eq (congrArg (Bx.row V 98 2) (by rw [Qcm hx1];exact Qkq q2 hx3 _ rfl))⟩,trivial⟩)
 <| fun q1=>have p1:=decF q1;.u 3 [b1]<|
 .lm 88 s.nexts cntA<|.run 2 [rng .i64 ((s.nexts.length:Int)-1)] ⟨Qaj (by omega) (by omega),trivial⟩<|
 .r 3<|.br 92 (decide (((s.nexts.length:Int)-1)<0)) (fun q6=>have p6:=decT q6;.r 9<|.u 5 [b1,b1]<|
 .lm 106 s.nexts cntA<|.r 3<|.call (Qrb s.nexts (⟨s.stamp+1,next⟩:Cnt) (by omega))<|
 .u 2 [b5]<|
 .u 2 [b5,b2]<|
 .frz 100 [6] [6] [V=V,(Qap s.l (s.stamp+1) cs k).length=((Qap s.l (s.stamp+1) cs k).map chnA).length] ⟨rfl,(by first | rfl | (simp;done) | (simp;omega)),trivial⟩<|
 .f (.agg (stoA (Qii s cs next))) [b2] (.agg [.sl 2 false ((Qap s.l (s.stamp+1) cs k).map chnA),.sl 2 false ((s.nexts++[(⟨s.stamp+1,next⟩:Cnt)]).map cntA),aI (s.stamp+1)]) (by
  obtain rfl:k=cs.length:=by omega
  refine Sub.of_eq ?_;rw [show stoA (Qii s cs next)=stoA ⟨Qap s.l (s.stamp+1) cs cs.length,Qd9 s next,s.stamp+1⟩ from rfl,Qyv (by omega)];rfl))
 <| fun q6=>have p6:=decF q6;.u 4 [b1]<|
 .idxM s.nexts cntA (s.nexts.length-1) (m:=(s.nexts.length:Int)-1) (by omega) (by omega) fun x5 hx5=>
 .r 4<|.br 101 (decide (next>x5.next)) (fun q7=>have p7:=decT q7;.u 5 [b1,b1]<|
 .lm 106 s.nexts cntA<|.r 3<|.call (Qrb s.nexts (⟨s.stamp+1,next⟩:Cnt) (by omega))<|
 .u 2 [b5]<|
 .u 2 [b5,b2]<|
 .frz 100 [6] [6] [V=V,(Qap s.l (s.stamp+1) cs k).length=((Qap s.l (s.stamp+1) cs k).map chnA).length] ⟨rfl,(by first | rfl | (simp;done) | (simp;omega)),trivial⟩<|
 .f (.agg (stoA (Qii s cs next))) [b2] (.agg [.sl 2 false ((Qap s.l (s.stamp+1) cs k).map chnA),.sl 2 false ((s.nexts++[(⟨s.stamp+1,next⟩:Cnt)]).map cntA),aI (s.stamp+1)]) (by
  obtain rfl:k=cs.length:=by omega
  refine Sub.of_eq ?_;rw [show stoA (Qii s cs next)=stoA ⟨Qap s.l (s.stamp+1) cs cs.length,Qd9 s next,s.stamp+1⟩ from rfl,Qr1 hx5 (by assumption)];rfl))
 <| fun q7=>have p7:=decF q7;.u 2 [b5,b2]<|
 .frz 100 [6] [6] [V=V,(Qap s.l (s.stamp+1) cs k).length=((Qap s.l (s.stamp+1) cs k).map chnA).length] ⟨rfl,(by first | rfl | (simp;done) | (simp;omega)),trivial⟩<|
 .f (.agg (stoA (Qii s cs next))) [b2] (.agg [.sl 2 false ((Qap s.l (s.stamp+1) cs k).map chnA),.sl 2 false (s.nexts.map cntA),aI (s.stamp+1)]) (by
  obtain rfl:k=cs.length:=by omega
  refine Sub.of_eq ?_;rw [show stoA (Qii s cs next)=stoA ⟨Qap s.l (s.stamp+1) cs cs.length,Qd9 s next,s.stamp+1⟩ from rfl,Zg0 hx5 (by assumption)];rfl)) a1.1 a1.2 ha1) j1.1 j1.2)
def OkCh (c:Chg):Prop:=I64 c.ino∧OkN c.n
end Go.Proofs.YtahlldgocpabjaaGreat
