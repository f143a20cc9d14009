import Derived.Test.YtahlldgocpabjaaGreatMrgAF
set_option maxRecDepth 100000
set_option maxHeartbeats 8000000
set_option linter.unusedVariables false
set_option linter.unusedSimpArgs false
namespace Go.Proofs.YtahlldgocpabjaaGreat
open Go Go.RowKit Copyhold
theorem Qhy (l:List Ver) (c:Ver) (hn:l.length≤100000):Qaj Tryz.prog 105 [.sl 7 false (l.map verA),aI (l.length:Int),.agg (verA c)] (.sl 7 false ((l++[c]).map verA)):=by
 have h:=Qvq l l.length c (Nat.le_refl _) hn
 rw [List.take_length,List.drop_length] at h
 exact h
theorem Qps (l:List Cnt) (c:Cnt) (hn:l.length≤100000):Qaj Tryz.prog 107 [.sl 2 false (l.map cntA),aI (l.length:Int),.agg (cntA c)] (.sl 2 false ((l++[c]).map cntA)):=by
 have h:=Qvr l l.length c (Nat.le_refl _) hn
 rw [List.take_length,List.drop_length] at h
 exact h
theorem ins_at {α:Type} {l:List α} {i:Nat} {c x:α} (hi:i≤l.length) (h:(l.take i++c :: l.drop i)[i]?=some x):x=c:=by
 rw [List.getElem?_append_right (by rw [List.length_take];omega),List.length_take,Nat.min_eq_left hi,Nat.sub_self] at h
 exact (Option.some.inj h).symm
theorem Zhr {α:Type} {l:List α} {i:Nat} {c d:α} (hi:i≤l.length):(l.take i++c :: l.drop i).set i d=l.take i++d :: l.drop i:=by
 rw [List.set_append_right _ _ (by rw [List.length_take];omega),List.length_take,Nat.min_eq_left hi,Nat.sub_self]
 rfl
def Qd1 (s:Sto) (next:Int):List Cnt:=match s.nexts[s.nexts.length-1]? with
 | some c=>if next>c.next then s.nexts++[⟨s.stamp+1,next⟩] else s.nexts
 | none=>s.nexts++[⟨s.stamp+1,next⟩]
theorem Qwr {s:Sto} {next:Int} (h:s.nexts.length=0):Qd1 s next=s.nexts++[⟨s.stamp+1,next⟩]:=by
 unfold Qd1;rw [List.eq_nil_of_length_eq_zero h];rfl
theorem Qqh {s:Sto} {next:Int} {c:Cnt} (h:s.nexts[s.nexts.length-1]?=some c) (e:next>c.next):Qd1 s next=s.nexts++[⟨s.stamp+1,next⟩]:=by
 unfold Qd1;rw [h];exact if_pos e
theorem Zea {s:Sto} {next:Int} {c:Cnt} (h:s.nexts[s.nexts.length-1]?=some c) (e:¬ next>c.next):Qd1 s next=s.nexts:=by
 unfold Qd1;rw [h];exact if_neg e
def Qhn (s:Sto) (cs:List Chg) (next:Int):Sto:=⟨Qam s.l (s.stamp+1) cs cs.length,Qd1 s next,s.stamp+1⟩
theorem Qzg {l:List Chn} {st n:Int} {v:Ver} {B:Nat} (h:∀ c∈l,c.l.length≤B):∀ c∈putC l st n v,c.l.length≤B+1:=by
 intro c hc
 unfold putC at hc
 split at hc
 ·split at hc
  ·rename_i d hd
   rcases List.mem_or_eq_of_mem_set hc with hc | rfl
   ·have:=h c hc;omega
   ·have h1:=h d (List.mem_of_getElem? hd)
    have h2:=Qmk d.l st
    simp only [List.length_append,List.length_singleton];omega
  ·have:=h c hc;omega
 ·rcases List.mem_append.1 hc with hc | hc
  ·have:=h c (List.mem_of_mem_take hc);omega
  ·rcases List.mem_cons.1 hc with rfl | hc
   ·simp
   ·have:=h c (List.mem_of_mem_drop hc);omega
theorem Qeg {l:List Chn} {st:Int} {cs:List Chg} {B:Nat} (h:∀ c∈l,c.l.length≤B):∀ k,k≤cs.length→∀ c∈Qam l st cs k,c.l.length≤B+k
 | 0,_=>by simpa [Qam] using h
 | k+1,hk=>by
  obtain ⟨c,hc⟩:=Qfs (l:=cs) (k:=k) (by omega)
  rw [Qcp hc]
  exact Qzg (Qeg h k (by omega))
theorem Qbf (l:List Chn) (n:Int) (c:Chn):Qao l n<(l.take (Qao l n)++c :: l.drop (Qao l n)).length:=by
 have:=Qib l n
 simp only [List.length_append,List.length_take,List.length_cons,List.length_drop];omega
theorem Qjo {l:List Chn} {st n:Int} {v:Ver} {c:Chn} (h:Qc7 l n=true) (hc:l[Qao l n]?=some c) (b:List Ver) (hb:b=Qb1 c.l st):((l.map chnA).set (Qao l n) ((chnA c).take 1++[AV.sl 7 false ((b++[v]).map verA)]++(chnA c).drop (1+1)))=(putC l st n v).map chnA:=by
 rw [Qni h hc,List.map_set,hb];rfl
theorem Zck {l:List Chn} {st n:Int} {v:Ver} {c:Chn} (h:Qc7 l n=false) (hc:c=⟨n,[]⟩) (b:List Ver) (hb:b=Qb1 c.l st):(((l.take (Qao l n)++(⟨n,[]⟩:Chn) :: l.drop (Qao l n)).map chnA).set (Qao l n) ((chnA c).take 1++[AV.sl 7 false ((b++[v]).map verA)]++(chnA c).drop (1+1)))=(putC l st n v).map chnA:=by
 subst hc
 rw [Qub h,hb,Zf1]
 have h2:=congrArg (List.map chnA) (Zhr (d:=(⟨n,[v]⟩:Chn)) (c:=(⟨n,[]⟩:Chn)) (Qib l n))
 rw [List.map_set] at h2
 exact h2
theorem Qlu {l:List Chn} {st n:Int} {v:Ver} (h:Qc7 l n=true):(putC l st n v).length=l.length:=by
 obtain ⟨c,hc,_⟩:=Qm2 h
 rw [Qni h hc,List.length_set]
theorem Zei {l:List Chn} {st n:Int} {v:Ver} (h:Qc7 l n=false):(putC l st n v).length=(l.take (Qao l n)++(⟨n,[]⟩:Chn) :: l.drop (Qao l n)).length:=by
 rw [Qub h];simp
theorem Qqv (s:Sto) (cs:List Chg) (next:Int) (oks:OkS s) (hf:s.l.length≤1000) (hc:cs.length≤1000) (hnx:s.nexts.length≤1000) (hv:∀ c∈s.l,c.l.length≤1000) (hs:s.stamp<1152921504606846977):Qaj Tryz.prog 58 [.agg [.sl 2 false (s.l.map chnA),.sl 2 false (s.nexts.map cntA),aI s.stamp],.sl 7 false (cs.map chgA),aI next] (.agg (stoA (Qhn s cs next))):=by
 have ok1:=oks.1.1
 exact Qac (F:=Tryz.f58) 400 (
 .new fun b1=>.new fun b2=>.run 4 [b1=b1,rng .i64 (s.stamp+1)] ⟨rfl,Qas (by omega) (by omega),trivial⟩<|
 let J1:Jn (Nat × Value):=⟨fun j1=>⟨[(1,.sl 7 false (cs.map chgA)),(2,aI next),(3,.ptr 3 b1 0),(6,.ptr 6 b2 0),(7,aI (s.stamp+1)),(8,.ptr 8 j1.1 0)],[(3,.box b1 25 [.sl 2 false (s.l.map chnA),.sl 2 false (s.nexts.map cntA),aI s.stamp]),(6,.box b2 25 [aN,aN,aI 0]),(100,.row j1.2 98 2 (s.l.map chnA)),(8,.box j1.1 25 [.rw 100 j1.2 ((s.l.map chnA).length),.sl 2 false (s.nexts.map cntA),aI (s.stamp+1)])]⟩,fun _=>True⟩
 .cut J1 (.pick [0,1,3,4,5]<|.run 5 [b1=b1,b1=b1] rt2<|
 .fork<|.alt (.op (crR Tryz.prog 100) (102,[.sl 2 false (s.l.map chnA)],21) (fun (V:Value) σ=>(σ.put (some 21) (.rw 100 V (s.l.map chnA).length)).setB 100 (.row V 98 2 (s.l.map chnA))) (Qge (args':=[.sl 2 false (s.l.map chnA)]) sr1 (Qny (s.l.map chnA) (by rw [List.length_map];omega) (fun l h=>by obtain ⟨z,_,rfl⟩:=List.mem_map.1 h;rfl))) fun V1=>
 .pick [6,7,8]<|.r 1<|.new fun b3=>.run 1 [b3=b3] rt1<|
 .join J1 (b3,V1) trivial ⟨[(1,.sl 7 false (cs.map chgA)),(2,aI next),(3,.ptr 3 b1 0),(6,.ptr 6 b2 0),(7,aI (s.stamp+1)),(8,.ptr 8 b3 0)],[(3,.box b1 25 [.sl 2 false (s.l.map chnA),.sl 2 false (s.nexts.map cntA),aI s.stamp]),(6,.box b2 25 [aN,aN,aI 0]),(100,.row V1 98 2 (s.l.map chnA)),(8,.box b3 25 [.rw 100 V1 ((s.l.map chnA).length),.sl 2 false (s.nexts.map cntA),aI (s.stamp+1)])]⟩ sr6 ⟨⟨_,rfl,SubB.refl _⟩,⟨_,rfl,SubB.refl _⟩,⟨_,rfl,SubB.refl _⟩,⟨_,rfl,SubB.refl _⟩,trivial⟩)
 <| .new fun b4=>.pick [2,6,8]<|.op (crR Tryz.prog 100) (102,[.sl 2 false (s.l.map chnA)],21) (fun (V:Value) σ=>(σ.put (some 21) (.rw 100 V (s.l.map chnA).length)).setB 100 (.row V 98 2 (s.l.map chnA))) (Qge (args':=[.sl 2 false (s.l.map chnA)]) sr1 (Qny (s.l.map chnA) (by rw [List.length_map];omega) (fun l h=>by obtain ⟨z,_,rfl⟩:=List.mem_map.1 h;rfl))) fun V2=>
 .run 2 [b4=b4] rt1<|
 .join J1 (b4,V2) trivial ⟨[(1,.sl 7 false (cs.map chgA)),(2,aI next),(3,.ptr 3 b1 0),(6,.ptr 6 b2 0),(7,aI (s.stamp+1)),(8,.ptr 8 b4 0)],[(3,.box b1 25 [.sl 2 false (s.l.map chnA),.sl 2 false (s.nexts.map cntA),aI s.stamp]),(6,.box b2 25 [aN,aN,aI 0]),(100,.row V2 98 2 (s.l.map chnA)),(8,.box b4 25 [.rw 100 V2 ((s.l.map chnA).length),.sl 2 false (s.nexts.map cntA),aI (s.stamp+1)])]⟩ sr6 ⟨⟨_,rfl,SubB.refl _⟩,⟨_,rfl,SubB.refl _⟩,⟨_,rfl,SubB.refl _⟩,⟨_,rfl,SubB.refl _⟩,trivial⟩)
 <| fun j1 _=>(fun (b5:Nat) (V3:Value)=>.r 2<|.val 27 (show (aI ((cs.map chgA).length:Int):AV)=aI (cs.length:Int) from by rw [List.length_map])<|.r 1<|let L1:Lp (Nat × Value):=⟨fun a1=>⟨[(2,aI next),(3,.ptr 3 b1 0),(6,.ptr 6 b2 0),(7,aI (s.stamp+1)),(8,.ptr 8 b5 0),(26,.sl 7 false (cs.map chgA)),(27,aI (cs.length:Int)),(28,aI (a1.1:Int))],[(3,.box b1 25 [.sl 2 false (s.l.map chnA),.sl 2 false (s.nexts.map cntA),aI s.stamp]),(6,.box b2 25 [aN,aN,aI 0]),(8,.box b5 25 [.rw 100 a1.2 ((Qam s.l (s.stamp+1) cs a1.1).length),.sl 2 false (s.nexts.map cntA),aI (s.stamp+1)]),(100,.row a1.2 98 2 ((Qam s.l (s.stamp+1) cs a1.1).map chnA))]⟩,fun a1=>cs.length-a1.1,fun a1=>a1.1≤cs.length⟩
 .loop L1 (0,V3) (show 0≤cs.length from Nat.zero_le _) ⟨[(2,aI next),(3,.ptr 3 b1 0),(6,.ptr 6 b2 0),(7,aI (s.stamp+1)),(8,.ptr 8 b5 0),(26,.sl 7 false (cs.map chgA)),(27,aI (cs.length:Int)),(28,aI 0)],[(3,.box b1 25 [.sl 2 false (s.l.map chnA),.sl 2 false (s.nexts.map cntA),aI s.stamp]),(6,.box b2 25 [aN,aN,aI 0]),(8,.box b5 25 [.rw 100 V3 ((s.l.map chnA).length),.sl 2 false (s.nexts.map cntA),aI (s.stamp+1)]),(100,.row V3 98 2 (s.l.map chnA))]⟩ ⟨sR,sR,sR,sR,sR,sR,sR,Sub.of_eq (congrArg aI (by first | omega | rfl)),trivial⟩ ⟨⟨_,rfl,SubB.refl _⟩,⟨_,rfl,SubB.refl _⟩,⟨_,rfl,SubB.boxs ⟨Sub.of_eq (congrArg (AV.rw 100 V3) (by simp [Qam])),sR,sR,trivial⟩⟩,⟨_,rfl,SubB.of_eq rfl⟩,trivial⟩ fun a1 ha1=>
 (fun (k:Nat) (V:Value) (hH1:k≤cs.length)=>.r 1<|.br 29 (decide ((k:Int)<(cs.length:Int))) (fun q1=>have p1:=decT q1;.idxM cs chgA k (m:=(k:Int)) rfl (by omega) fun x1 hx1=>
 .r 1<|.new fun b6=>.run 1 [b6=b6] rt1<|
 .run 4 [b5=b5,b6=b6] rt2<|
 .op (cbR Tryz.prog 100) ((103,[.rw 100 V ((Qam s.l (s.stamp+1) cs k).length),aI x1.ino],some 37),(V,98,2,(Qam s.l (s.stamp+1) cs k).map chnA)) (fun (_:Unit) σ=>σ.put (some 37) (.tup [aI (Qao (Qam s.l (s.stamp+1) cs k) x1.ino:Int),aB (Qc7 (Qam s.l (s.stamp+1) cs k) x1.ino)])) (Qoc (args':=[.sl 2 false ((Qam s.l (s.stamp+1) cs k).map chnA),aI x1.ino]) ⟨Fz.row _ _ _ _ _ _ (by first | rfl | (simp;done) | (simp;omega)),Fz.refl _ _,trivial⟩ (Qso (Qam s.l (s.stamp+1) cs k) x1.ino (by have:=Qiq s.l (s.stamp+1) cs k;omega)) rfl) fun _=>
 .r 5<|.r 2<|.br 41 (!(Qc7 (Qam s.l (s.stamp+1) cs k) x1.ino)) (fun q2=>have q2:=notT q2;have p2:=booF q2;.frz 100 [2,3,6,7,8,10,11,12,26,27,28,29,30,31,32,33,34,35,36,37,38,39,40,41] [3,6,8,10] [V=V,(Qam s.l (s.stamp+1) cs k).length=((Qam s.l (s.stamp+1) cs k).map chnA).length,V=V,(Qam s.l (s.stamp+1) cs k).length=((Qam s.l (s.stamp+1) cs k).map chnA).length] ⟨rfl,(by first | rfl | (simp;done) | (simp;omega)),rfl,(by first | rfl | (simp;done) | (simp;omega)),trivial⟩<|
 .run 6 [b5=b5,b6=b6] rt2<|
 .op (crR Tryz.prog 100) (104,[.sl 2 false ((Qam s.l (s.stamp+1) cs k).map chnA),aI (Qao (Qam s.l (s.stamp+1) cs k) x1.ino:Int),.agg [aI x1.ino,aN]],48) (fun (V:Value) σ=>(σ.put (some 48) (.rw 100 V (((Qam s.l (s.stamp+1) cs k).take (Qao (Qam s.l (s.stamp+1) cs k) x1.ino)++(⟨x1.ino,[]⟩:Chn) :: (Qam s.l (s.stamp+1) cs k).drop (Qao (Qam s.l (s.stamp+1) cs k) x1.ino)).map chnA).length)).setB 100 (.row V 98 2 (((Qam s.l (s.stamp+1) cs k).take (Qao (Qam s.l (s.stamp+1) cs k) x1.ino)++(⟨x1.ino,[]⟩:Chn) :: (Qam s.l (s.stamp+1) cs k).drop (Qao (Qam s.l (s.stamp+1) cs k) x1.ino)).map chnA))) (Qge (args':=[.sl 2 false ((Qam s.l (s.stamp+1) cs k).map chnA),aI (Qao (Qam s.l (s.stamp+1) cs k) x1.ino:Int),.agg [aI ((⟨x1.ino,[]⟩:Chn).ino),.sl 7 false ((⟨x1.ino,[]⟩:Chn).l.map verA)]]) ⟨sR,sR,Sub.aggs ⟨sR,Sub.nil _ _,trivial⟩,trivial⟩ (Qxr (Qam s.l (s.stamp+1) cs k) (Qao (Qam s.l (s.stamp+1) cs k) x1.ino) (⟨x1.ino,[]⟩:Chn) (Qib _ _) (by have:=Qiq s.l (s.stamp+1) cs k;omega))) fun V4=>
 .run 2 [b5=b5] rt1<|
 .st (rowR 100) (V4,98,2,((Qam s.l (s.stamp+1) cs k).take (Qao (Qam s.l (s.stamp+1) cs k) x1.ino)++(⟨x1.ino,[]⟩:Chn) :: (Qam s.l (s.stamp+1) cs k).drop (Qao (Qam s.l (s.stamp+1) cs k) x1.ino)).map chnA) (fun _ σ=>σ) (Qbz 100 (by first | exact Qa2 (by assumption) | exact Qbf _ _ _ | (rw [List.length_map];first | exact Qa2 (by assumption) | exact Qbf _ _ _ | exact Nat.lt_of_le_of_lt (Nat.zero_le _) (Qa2 (by assumption)) | exact Nat.lt_of_le_of_lt (Nat.zero_le _) (Qbf _ _ _)))) fun a7r=>
 .run 3 [b5=b5] rt1<|
 .op (ixR Tryz.prog) (100,V4,(((Qam s.l (s.stamp+1) cs k).take (Qao (Qam s.l (s.stamp+1) cs k) x1.ino)++(⟨x1.ino,[]⟩:Chn) :: (Qam s.l (s.stamp+1) cs k).drop (Qao (Qam s.l (s.stamp+1) cs k) x1.ino)).map chnA).length,2,(Qao (Qam s.l (s.stamp+1) cs k) x1.ino:Int),some 53) (fun (_:Unit) σ=>σ.put (some 53) (.ep 100 V4 2 (Qao (Qam s.l (s.stamp+1) cs k) x1.ino) 0)) (Qer (Qao (Qam s.l (s.stamp+1) cs k) x1.ino) a7r.2.1 (by omega) (by first | exact Qa2 (by assumption) | exact Qbf _ _ _ | (rw [List.length_map];first | exact Qa2 (by assumption) | exact Qbf _ _ _ | exact Nat.lt_of_le_of_lt (Nat.zero_le _) (Qa2 (by assumption)) | exact Nat.lt_of_le_of_lt (Nat.zero_le _) (Qbf _ _ _)))) fun _=>
 .ex (Qfs (l:=((Qam s.l (s.stamp+1) cs k).take (Qao (Qam s.l (s.stamp+1) cs k) x1.ino)++(⟨x1.ino,[]⟩:Chn) :: (Qam s.l (s.stamp+1) cs k).drop (Qao (Qam s.l (s.stamp+1) cs k) x1.ino))) (k:=Qao (Qam s.l (s.stamp+1) cs k) x1.ino) (by first | exact Qa2 (by assumption) | exact Qbf _ _ _ | (rw [List.length_map];first | exact Qa2 (by assumption) | exact Qbf _ _ _ | exact Nat.lt_of_le_of_lt (Nat.zero_le _) (Qa2 (by assumption)) | exact Nat.lt_of_le_of_lt (Nat.zero_le _) (Qbf _ _ _)))) fun x2 hx2=>
 have ex2:=ins_at (Qib _ _) hx2;have zx2:x2.l.length=0:=(by rw [ex2];rfl);.op (fdR Tryz.prog) (100,V4,2,Qao (Qam s.l (s.stamp+1) cs k) x1.ino,0,1,some 54) (fun (_:Unit) σ=>σ.put (some 54) (.ep 100 V4 2 (Qao (Qam s.l (s.stamp+1) cs k) x1.ino) 1)) (Qgx) fun _=>
 .op (ldR Tryz.prog) (V4,2,Qao (Qam s.l (s.stamp+1) cs k) x1.ino,1,V4,2,((Qam s.l (s.stamp+1) cs k).take (Qao (Qam s.l (s.stamp+1) cs k) x1.ino)++(⟨x1.ino,[]⟩:Chn) :: (Qam s.l (s.stamp+1) cs k).drop (Qao (Qam s.l (s.stamp+1) cs k) x1.ino)).map chnA,96,some 55) (fun (_:Unit) σ=>σ.put (some 55) (.sl 7 false (x2.l.map verA))) (Qob (chnA x2) (map_some hx2) (by kernel_rfl)) fun _=>
 .r 1<|.r 2<|.val 57 (show (aI ((x2.l.map verA).length:Int):AV)=aI (x2.l.length:Int) from by rw [List.length_map])<|.run 2 [rng .i64 ((x2.l.length:Int)-1)] ⟨Qas (by omega) (by omega),trivial⟩<|
 .r 3<|.br 61 (decide (((x2.l.length:Int)-1)≥0)) (fun q3=>have p3:=decT q3;.no (by omega))
 <| fun q3=>have p3:=decF q3;.r 8<|.st (rowR 100) (V4,98,2,((Qam s.l (s.stamp+1) cs k).take (Qao (Qam s.l (s.stamp+1) cs k) x1.ino)++(⟨x1.ino,[]⟩:Chn) :: (Qam s.l (s.stamp+1) cs k).drop (Qao (Qam s.l (s.stamp+1) cs k) x1.ino)).map chnA) (fun _ σ=>σ) (Qbz 100 (by first | exact Qa2 (by assumption) | exact Qbf _ _ _ | (rw [List.length_map];first | exact Qa2 (by assumption) | exact Qbf _ _ _ | exact Nat.lt_of_le_of_lt (Nat.zero_le _) (Qa2 (by assumption)) | exact Nat.lt_of_le_of_lt (Nat.zero_le _) (Qbf _ _ _)))) fun a8r=>
 .ord [0,1,2,3,4,5,6,7,8,9,10,11,12]<|.run 6 [b5=b5] rt1<|
 .val 78 (show (aI ((x2.l.map verA).length:Int):AV)=aI (x2.l.length:Int) from by rw [List.length_map])<|.run 2 [b6=b6] rt1<|
 .call (Qep x1 (s.stamp+1))<|
 .callS (args0:=[.sl 7 false (x2.l.map verA),aI (x2.l.length:Int),.agg [aI ((Qai x1 (s.stamp+1)).stamp),aB ((Qai x1 (s.stamp+1)).gone),aI ((Qai x1 (s.stamp+1)).n.ino),aI ((Qai x1 (s.stamp+1)).n.kind),aI ((Qai x1 (s.stamp+1)).n.links),aS ((Qai x1 (s.stamp+1)).n.text),.sl 2 false ((Qai x1 (s.stamp+1)).n.l.map entA)]]) (args:=[.sl 7 false ((Qb1 x2.l (s.stamp+1)).map verA),aI ((Qb1 x2.l (s.stamp+1)).length:Int),.agg [aI ((Qai x1 (s.stamp+1)).stamp),aB ((Qai x1 (s.stamp+1)).gone),aI ((Qai x1 (s.stamp+1)).n.ino),aI ((Qai x1 (s.stamp+1)).n.kind),aI ((Qai x1 (s.stamp+1)).n.links),aS ((Qai x1 (s.stamp+1)).n.text),.sl 2 false ((Qai x1 (s.stamp+1)).n.l.map entA)]]) ⟨Sub.of_eq (by rw [show Qb1 x2.l (s.stamp+1)=x2.l from by rw [show x2.l=[] from List.eq_nil_of_length_eq_zero (by omega)];rfl]),Sub.of_eq (congrArg aI (by rw [show Qb1 x2.l (s.stamp+1)=x2.l from by rw [show x2.l=[] from List.eq_nil_of_length_eq_zero (by omega)];rfl])),sR,trivial⟩ (Qhy (Qb1 x2.l (s.stamp+1)) (Qai x1 (s.stamp+1)) (by have:=Qmk x2.l (s.stamp+1);have:=zx2;omega))<|
 .op (ixR Tryz.prog) (100,V4,(((Qam s.l (s.stamp+1) cs k).take (Qao (Qam s.l (s.stamp+1) cs k) x1.ino)++(⟨x1.ino,[]⟩:Chn) :: (Qam s.l (s.stamp+1) cs k).drop (Qao (Qam s.l (s.stamp+1) cs k) x1.ino)).map chnA).length,2,(Qao (Qam s.l (s.stamp+1) cs k) x1.ino:Int),some 83) (fun (_:Unit) σ=>σ.put (some 83) (.ep 100 V4 2 (Qao (Qam s.l (s.stamp+1) cs k) x1.ino) 0)) (Qer (Qao (Qam s.l (s.stamp+1) cs k) x1.ino) a8r.2.1 (by omega) (by first | exact Qa2 (by assumption) | exact Qbf _ _ _ | (rw [List.length_map];first | exact Qa2 (by assumption) | exact Qbf _ _ _ | exact Nat.lt_of_le_of_lt (Nat.zero_le _) (Qa2 (by assumption)) | exact Nat.lt_of_le_of_lt (Nat.zero_le _) (Qbf _ _ _)))) fun _=>
 .op (fdR Tryz.prog) (100,V4,2,Qao (Qam s.l (s.stamp+1) cs k) x1.ino,0,1,some 84) (fun (_:Unit) σ=>σ.put (some 84) (.ep 100 V4 2 (Qao (Qam s.l (s.stamp+1) cs k) x1.ino) 1)) (Qgx) fun _=>
 .op (stR Tryz.prog) (100,V4,2,Qao (Qam s.l (s.stamp+1) cs k) x1.ino,1,V4,98,2,((Qam s.l (s.stamp+1) cs k).take (Qao (Qam s.l (s.stamp+1) cs k) x1.ino)++(⟨x1.ino,[]⟩:Chn) :: (Qam s.l (s.stamp+1) cs k).drop (Qao (Qam s.l (s.stamp+1) cs k) x1.ino)).map chnA,[AV.sl 7 false (((Qb1 x2.l (s.stamp+1))++[(Qai x1 (s.stamp+1))]).map verA)],none) (fun (_:Unit) σ=>(σ.put (none) .any).setB 100 (.row V4 98 2 ((((Qam s.l (s.stamp+1) cs k).take (Qao (Qam s.l (s.stamp+1) cs k) x1.ino)++(⟨x1.ino,[]⟩:Chn) :: (Qam s.l (s.stamp+1) cs k).drop (Qao (Qam s.l (s.stamp+1) cs k) x1.ino)).map chnA).set (Qao (Qam s.l (s.stamp+1) cs k) x1.ino) ((chnA x2).take 1++[AV.sl 7 false (((Qb1 x2.l (s.stamp+1))++[(Qai x1 (s.stamp+1))]).map verA)]++(chnA x2).drop (1+[AV.sl 7 false (((Qb1 x2.l (s.stamp+1))++[(Qai x1 (s.stamp+1))]).map verA)].length))))) (Qh7 (chnA x2) (map_some hx2) (Nat.le_of_ble_eq_true rfl)) fun _=>
 .run 2 [rng .i64 ((k:Int)+1)] ⟨Qas (by omega) (by omega),trivial⟩<|
 .back L1 (k,V) ((k+1),V4) (show (k+1)≤cs.length from (by show _≤_;omega)) (show cs.length-(k+1)<cs.length-k from (by omega)) ⟨[(2,aI next),(3,.ptr 3 b1 0),(6,.ptr 6 b2 0),(7,aI (s.stamp+1)),(8,.ptr 8 b5 0),(26,.sl 7 false (cs.map chgA)),(27,aI (cs.length:Int)),(28,aI ((k:Int)+1))],[(3,.box b1 25 [.sl 2 false (s.l.map chnA),.sl 2 false (s.nexts.map cntA),aI s.stamp]),(6,.box b2 25 [aN,aN,aI 0]),(8,.box b5 25 [.rw 100 V4 ((((Qam s.l (s.stamp+1) cs k).take (Qao (Qam s.l (s.stamp+1) cs k) x1.ino)++(⟨x1.ino,[]⟩:Chn) :: (Qam s.l (s.stamp+1) cs k).drop (Qao (Qam s.l (s.stamp+1) cs k) x1.ino)).map chnA).length),.sl 2 false (s.nexts.map cntA),aI (s.stamp+1)]),(100,.row V4 98 2 ((((Qam s.l (s.stamp+1) cs k).take (Qao (Qam s.l (s.stamp+1) cs k) x1.ino)++(⟨x1.ino,[]⟩:Chn) :: (Qam s.l (s.stamp+1) cs k).drop (Qao (Qam s.l (s.stamp+1) cs k) x1.ino)).map chnA).set (Qao (Qam s.l (s.stamp+1) cs k) x1.ino) ((chnA x2).take 1++[AV.sl 7 false (((Qb1 x2.l (s.stamp+1))++[(Qai x1 (s.stamp+1))]).map verA)]++(chnA x2).drop (1+[AV.sl 7 false (((Qb1 x2.l (s.stamp+1))++[(Qai x1 (s.stamp+1))]).map verA)].length))))]⟩ ⟨sR,sR,sR,sR,sR,sR,sR,Sub.of_eq (congrArg aI (by first | omega | rfl)),trivial⟩ ⟨⟨_,rfl,SubB.refl _⟩,⟨_,rfl,SubB.refl _⟩,⟨_,rfl,SubB.boxs ⟨Sub.of_eq (congrArg (AV.rw 100 V4) (by rw [Qcp hx1,Zei q2];simp)),sR,sR,trivial⟩⟩,⟨_,rfl,SubB.of_eq (congrArg (Bx.row V4 98 2) (by rw [Qcp hx1];exact Zck q2 ex2 _ rfl))⟩,trivial⟩)
 <| fun q2=>have q2:=notF q2;have p2:=booT q2;.st (rowR 100) (V,98,2,(Qam s.l (s.stamp+1) cs k).map chnA) (fun _ σ=>σ) (Qbz 100 (by first | exact Qa2 (by assumption) | exact Qbf _ _ _ | (rw [List.length_map];first | exact Qa2 (by assumption) | exact Qbf _ _ _ | exact Nat.lt_of_le_of_lt (Nat.zero_le _) (Qa2 (by assumption)) | exact Nat.lt_of_le_of_lt (Nat.zero_le _) (Qbf _ _ _)))) fun a9r=>
 .run 3 [b5=b5] rt1<|
 .op (ixR Tryz.prog) (100,V,(Qam s.l (s.stamp+1) cs k).length,2,(Qao (Qam s.l (s.stamp+1) cs k) x1.ino:Int),some 53) (fun (_:Unit) σ=>σ.put (some 53) (.ep 100 V 2 (Qao (Qam s.l (s.stamp+1) cs k) x1.ino) 0)) (Qer (Qao (Qam s.l (s.stamp+1) cs k) x1.ino) a9r.2.1 (by omega) (by first | exact Qa2 (by assumption) | exact Qbf _ _ _ | (rw [List.length_map];first | exact Qa2 (by assumption) | exact Qbf _ _ _ | exact Nat.lt_of_le_of_lt (Nat.zero_le _) (Qa2 (by assumption)) | exact Nat.lt_of_le_of_lt (Nat.zero_le _) (Qbf _ _ _)))) fun _=>
 .ex (Qfs (l:=(Qam s.l (s.stamp+1) cs k)) (k:=Qao (Qam s.l (s.stamp+1) cs k) x1.ino) (by first | exact Qa2 (by assumption) | exact Qbf _ _ _ | (rw [List.length_map];first | exact Qa2 (by assumption) | exact Qbf _ _ _ | exact Nat.lt_of_le_of_lt (Nat.zero_le _) (Qa2 (by assumption)) | exact Nat.lt_of_le_of_lt (Nat.zero_le _) (Qbf _ _ _)))) fun x3 hx3=>
 have rx3:=Qeg (st:=s.stamp+1) (cs:=cs) hv k (by omega) x3 (List.mem_of_getElem? hx3);.op (fdR Tryz.prog) (100,V,2,Qao (Qam s.l (s.stamp+1) cs k) x1.ino,0,1,some 54) (fun (_:Unit) σ=>σ.put (some 54) (.ep 100 V 2 (Qao (Qam s.l (s.stamp+1) cs k) x1.ino) 1)) (Qgx) fun _=>
 .op (ldR Tryz.prog) (V,2,Qao (Qam s.l (s.stamp+1) cs k) x1.ino,1,V,2,(Qam s.l (s.stamp+1) cs k).map chnA,96,some 55) (fun (_:Unit) σ=>σ.put (some 55) (.sl 7 false (x3.l.map verA))) (Qob (chnA x3) (map_some hx3) (by kernel_rfl)) fun _=>
 .r 1<|.r 2<|.val 57 (show (aI ((x3.l.map verA).length:Int):AV)=aI (x3.l.length:Int) from by rw [List.length_map])<|.run 2 [rng .i64 ((x3.l.length:Int)-1)] ⟨Qas (by omega) (by omega),trivial⟩<|
 .r 3<|.br 61 (decide (((x3.l.length:Int)-1)≥0)) (fun q4=>have p4:=decT q4;.r 2<|.idxM x3.l verA (x3.l.length-1) (m:=(x3.l.length:Int)-1) (by omega) (by omega) fun x4 hx4=>
 .r 5<|.br 69 (x4.stamp==(s.stamp+1)) (fun q5=>have p5:=beqT q5;.r 2<|.slc 7 false (x3.l.map verA) none (some ((x3.l.length:Int)-1)) none 0 (x3.l.length-1) false (.inl ⟨rfl,rfl⟩) (.inr (congrArg some (by omega))) (.inl ⟨rfl,fun h=>by cases h⟩) (by simp<;>omega) (by simp<;>omega)<|
 .r 1<|.st (rowR 100) (V,98,2,(Qam s.l (s.stamp+1) cs k).map chnA) (fun _ σ=>σ) (Qbz 100 (by first | exact Qa2 (by assumption) | exact Qbf _ _ _ | (rw [List.length_map];first | exact Qa2 (by assumption) | exact Qbf _ _ _ | exact Nat.lt_of_le_of_lt (Nat.zero_le _) (Qa2 (by assumption)) | exact Nat.lt_of_le_of_lt (Nat.zero_le _) (Qbf _ _ _)))) fun a10r=>
 .ord [0,1,2,3,4,5,6,7,8,9,10,11,12]<|.run 8 [b5=b5,b6=b6] rt2<|
 .call (Qep x1 (s.stamp+1))<|
 .callS (args0:=[.sl 7 false (((x3.l.map verA).take (x3.l.length-1)).drop 0),aI ((((x3.l.map verA).take (x3.l.length-1)).drop 0).length:Int),.agg [aI ((Qai x1 (s.stamp+1)).stamp),aB ((Qai x1 (s.stamp+1)).gone),aI ((Qai x1 (s.stamp+1)).n.ino),aI ((Qai x1 (s.stamp+1)).n.kind),aI ((Qai x1 (s.stamp+1)).n.links),aS ((Qai x1 (s.stamp+1)).n.text),.sl 2 false ((Qai x1 (s.stamp+1)).n.l.map entA)]]) (args:=[.sl 7 false ((Qb1 x3.l (s.stamp+1)).map verA),aI ((Qb1 x3.l (s.stamp+1)).length:Int),.agg [aI ((Qai x1 (s.stamp+1)).stamp),aB ((Qai x1 (s.stamp+1)).gone),aI ((Qai x1 (s.stamp+1)).n.ino),aI ((Qai x1 (s.stamp+1)).n.kind),aI ((Qai x1 (s.stamp+1)).n.links),aS ((Qai x1 (s.stamp+1)).n.text),.sl 2 false ((Qai x1 (s.stamp+1)).n.l.map entA)]]) ⟨Sub.of_eq (by rw [Qvm hx4 p5,List.drop_zero,List.map_take]),Sub.of_eq (congrArg aI (by rw [Qvm hx4 p5];simp)),sR,trivial⟩ (Qhy (Qb1 x3.l (s.stamp+1)) (Qai x1 (s.stamp+1)) (by have:=Qmk x3.l (s.stamp+1);have:=Qeg (st:=s.stamp+1) (cs:=cs) hv k (by omega) x3 (List.mem_of_getElem? hx3);omega))<|
 .op (ixR Tryz.prog) (100,V,(Qam s.l (s.stamp+1) cs k).length,2,(Qao (Qam s.l (s.stamp+1) cs k) x1.ino:Int),some 83) (fun (_:Unit) σ=>σ.put (some 83) (.ep 100 V 2 (Qao (Qam s.l (s.stamp+1) cs k) x1.ino) 0)) (Qer (Qao (Qam s.l (s.stamp+1) cs k) x1.ino) a10r.2.1 (by omega) (by first | exact Qa2 (by assumption) | exact Qbf _ _ _ | (rw [List.length_map];first | exact Qa2 (by assumption) | exact Qbf _ _ _ | exact Nat.lt_of_le_of_lt (Nat.zero_le _) (Qa2 (by assumption)) | exact Nat.lt_of_le_of_lt (Nat.zero_le _) (Qbf _ _ _)))) fun _=>
 .op (fdR Tryz.prog) (100,V,2,Qao (Qam s.l (s.stamp+1) cs k) x1.ino,0,1,some 84) (fun (_:Unit) σ=>σ.put (some 84) (.ep 100 V 2 (Qao (Qam s.l (s.stamp+1) cs k) x1.ino) 1)) (Qgx) fun _=>
 .op (stR Tryz.prog) (100,V,2,Qao (Qam s.l (s.stamp+1) cs k) x1.ino,1,V,98,2,(Qam s.l (s.stamp+1) cs k).map chnA,[AV.sl 7 false (((Qb1 x3.l (s.stamp+1))++[(Qai x1 (s.stamp+1))]).map verA)],none) (fun (_:Unit) σ=>(σ.put (none) .any).setB 100 (.row V 98 2 (((Qam s.l (s.stamp+1) cs k).map chnA).set (Qao (Qam s.l (s.stamp+1) cs k) x1.ino) ((chnA x3).take 1++[AV.sl 7 false (((Qb1 x3.l (s.stamp+1))++[(Qai x1 (s.stamp+1))]).map verA)]++(chnA x3).drop (1+[AV.sl 7 false (((Qb1 x3.l (s.stamp+1))++[(Qai x1 (s.stamp+1))]).map verA)].length))))) (Qh7 (chnA x3) (map_some hx3) (Nat.le_of_ble_eq_true rfl)) fun _=>
 .run 2 [rng .i64 ((k:Int)+1)] ⟨Qas (by omega) (by omega),trivial⟩<|
 .back L1 (k,V) ((k+1),V) (show (k+1)≤cs.length from (by show _≤_;omega)) (show cs.length-(k+1)<cs.length-k from (by omega)) ⟨[(2,aI next),(3,.ptr 3 b1 0),(6,.ptr 6 b2 0),(7,aI (s.stamp+1)),(8,.ptr 8 b5 0),(26,.sl 7 false (cs.map chgA)),(27,aI (cs.length:Int)),(28,aI ((k:Int)+1))],[(3,.box b1 25 [.sl 2 false (s.l.map chnA),.sl 2 false (s.nexts.map cntA),aI s.stamp]),(6,.box b2 25 [aN,aN,aI 0]),(8,.box b5 25 [.rw 100 V ((Qam s.l (s.stamp+1) cs k).length),.sl 2 false (s.nexts.map cntA),aI (s.stamp+1)]),(100,.row V 98 2 (((Qam s.l (s.stamp+1) cs k).map chnA).set (Qao (Qam s.l (s.stamp+1) cs k) x1.ino) ((chnA x3).take 1++[AV.sl 7 false (((Qb1 x3.l (s.stamp+1))++[(Qai x1 (s.stamp+1))]).map verA)]++(chnA x3).drop (1+[AV.sl 7 false (((Qb1 x3.l (s.stamp+1))++[(Qai x1 (s.stamp+1))]).map verA)].length))))]⟩ ⟨sR,sR,sR,sR,sR,sR,sR,Sub.of_eq (congrArg aI (by first | omega | rfl)),trivial⟩ ⟨⟨_,rfl,SubB.refl _⟩,⟨_,rfl,SubB.refl _⟩,⟨_,rfl,SubB.boxs ⟨Sub.of_eq (congrArg (AV.rw 100 V) (by rw [Qcp hx1,Qlu q2])),sR,sR,trivial⟩⟩,⟨_,rfl,SubB.of_eq (congrArg (Bx.row V 98 2) (by rw [Qcp hx1];exact Qjo q2 hx3 _ rfl))⟩,trivial⟩)
 <| fun q5=>have p5:=beqF q5;.st (rowR 100) (V,98,2,(Qam s.l (s.stamp+1) cs k).map chnA) (fun _ σ=>σ) (Qbz 100 (by first | exact Qa2 (by assumption) | exact Qbf _ _ _ | (rw [List.length_map];first | exact Qa2 (by assumption) | exact Qbf _ _ _ | exact Nat.lt_of_le_of_lt (Nat.zero_le _) (Qa2 (by assumption)) | exact Nat.lt_of_le_of_lt (Nat.zero_le _) (Qbf _ _ _)))) fun a11r=>
 .ord [0,1,2,3,4,5,6,7,8,9,10,11,12]<|.run 6 [b5=b5] rt1<|
 .val 78 (show (aI ((x3.l.map verA).length:Int):AV)=aI (x3.l.length:Int) from by rw [List.length_map])<|.run 2 [b6=b6] rt1<|
 .call (Qep x1 (s.stamp+1))<|
 .callS (args0:=[.sl 7 false (x3.l.map verA),aI (x3.l.length:Int),.agg [aI ((Qai x1 (s.stamp+1)).stamp),aB ((Qai x1 (s.stamp+1)).gone),aI ((Qai x1 (s.stamp+1)).n.ino),aI ((Qai x1 (s.stamp+1)).n.kind),aI ((Qai x1 (s.stamp+1)).n.links),aS ((Qai x1 (s.stamp+1)).n.text),.sl 2 false ((Qai x1 (s.stamp+1)).n.l.map entA)]]) (args:=[.sl 7 false ((Qb1 x3.l (s.stamp+1)).map verA),aI ((Qb1 x3.l (s.stamp+1)).length:Int),.agg [aI ((Qai x1 (s.stamp+1)).stamp),aB ((Qai x1 (s.stamp+1)).gone),aI ((Qai x1 (s.stamp+1)).n.ino),aI ((Qai x1 (s.stamp+1)).n.kind),aI ((Qai x1 (s.stamp+1)).n.links),aS ((Qai x1 (s.stamp+1)).n.text),.sl 2 false ((Qai x1 (s.stamp+1)).n.l.map entA)]]) ⟨Sub.of_eq (by rw [Zcj hx4 p5]),Sub.of_eq (congrArg aI (by rw [Zcj hx4 p5])),sR,trivial⟩ (Qhy (Qb1 x3.l (s.stamp+1)) (Qai x1 (s.stamp+1)) (by have:=Qmk x3.l (s.stamp+1);have:=Qeg (st:=s.stamp+1) (cs:=cs) hv k (by omega) x3 (List.mem_of_getElem? hx3);omega))<|
 .op (ixR Tryz.prog) (100,V,(Qam s.l (s.stamp+1) cs k).length,2,(Qao (Qam s.l (s.stamp+1) cs k) x1.ino:Int),some 83) (fun (_:Unit) σ=>σ.put (some 83) (.ep 100 V 2 (Qao (Qam s.l (s.stamp+1) cs k) x1.ino) 0)) (Qer (Qao (Qam s.l (s.stamp+1) cs k) x1.ino) a11r.2.1 (by omega) (by first | exact Qa2 (by assumption) | exact Qbf _ _ _ | (rw [List.length_map];first | exact Qa2 (by assumption) | exact Qbf _ _ _ | exact Nat.lt_of_le_of_lt (Nat.zero_le _) (Qa2 (by assumption)) | exact Nat.lt_of_le_of_lt (Nat.zero_le _) (Qbf _ _ _)))) fun _=>
 .op (fdR Tryz.prog) (100,V,2,Qao (Qam s.l (s.stamp+1) cs k) x1.ino,0,1,some 84) (fun (_:Unit) σ=>σ.put (some 84) (.ep 100 V 2 (Qao (Qam s.l (s.stamp+1) cs k) x1.ino) 1)) (Qgx) fun _=>
 .op (stR Tryz.prog) (100,V,2,Qao (Qam s.l (s.stamp+1) cs k) x1.ino,1,V,98,2,(Qam s.l (s.stamp+1) cs k).map chnA,[AV.sl 7 false (((Qb1 x3.l (s.stamp+1))++[(Qai x1 (s.stamp+1))]).map verA)],none) (fun (_:Unit) σ=>(σ.put (none) .any).setB 100 (.row V 98 2 (((Qam s.l (s.stamp+1) cs k).map chnA).set (Qao (Qam s.l (s.stamp+1) cs k) x1.ino) ((chnA x3).take 1++[AV.sl 7 false (((Qb1 x3.l (s.stamp+1))++[(Qai x1 (s.stamp+1))]).map verA)]++(chnA x3).drop (1+[AV.sl 7 false (((Qb1 x3.l (s.stamp+1))++[(Qai x1 (s.stamp+1))]).map verA)].length))))) (Qh7 (chnA x3) (map_some hx3) (Nat.le_of_ble_eq_true rfl)) fun _=>
 .run 2 [rng .i64 ((k:Int)+1)] ⟨Qas (by omega) (by omega),trivial⟩<|
 .back L1 (k,V) ((k+1),V) (show (k+1)≤cs.length from (by show _≤_;omega)) (show cs.length-(k+1)<cs.length-k from (by omega)) ⟨[(2,aI next),(3,.ptr 3 b1 0),(6,.ptr 6 b2 0),(7,aI (s.stamp+1)),(8,.ptr 8 b5 0),(26,.sl 7 false (cs.map chgA)),(27,aI (cs.length:Int)),(28,aI ((k:Int)+1))],[(3,.box b1 25 [.sl 2 false (s.l.map chnA),.sl 2 false (s.nexts.map cntA),aI s.stamp]),(6,.box b2 25 [aN,aN,aI 0]),(8,.box b5 25 [.rw 100 V ((Qam s.l (s.stamp+1) cs k).length),.sl 2 false (s.nexts.map cntA),aI (s.stamp+1)]),(100,.row V 98 2 (((Qam s.l (s.stamp+1) cs k).map chnA).set (Qao (Qam s.l (s.stamp+1) cs k) x1.ino) ((chnA x3).take 1++[AV.sl 7 false (((Qb1 x3.l (s.stamp+1))++[(Qai x1 (s.stamp+1))]).map verA)]++(chnA x3).drop (1+[AV.sl 7 false (((Qb1 x3.l (s.stamp+1))++[(Qai x1 (s.stamp+1))]).map verA)].length))))]⟩ ⟨sR,sR,sR,sR,sR,sR,sR,Sub.of_eq (congrArg aI (by first | omega | rfl)),trivial⟩ ⟨⟨_,rfl,SubB.refl _⟩,⟨_,rfl,SubB.refl _⟩,⟨_,rfl,SubB.boxs ⟨Sub.of_eq (congrArg (AV.rw 100 V) (by rw [Qcp hx1,Qlu q2])),sR,sR,trivial⟩⟩,⟨_,rfl,SubB.of_eq (congrArg (Bx.row V 98 2) (by rw [Qcp hx1];exact Qjo q2 hx3 _ rfl))⟩,trivial⟩)
 <| fun q4=>have p4:=decF q4;.r 8<|.st (rowR 100) (V,98,2,(Qam s.l (s.stamp+1) cs k).map chnA) (fun _ σ=>σ) (Qbz 100 (by first | exact Qa2 (by assumption) | exact Qbf _ _ _ | (rw [List.length_map];first | exact Qa2 (by assumption) | exact Qbf _ _ _ | exact Nat.lt_of_le_of_lt (Nat.zero_le _) (Qa2 (by assumption)) | exact Nat.lt_of_le_of_lt (Nat.zero_le _) (Qbf _ _ _)))) fun a12r=>
 .ord [0,1,2,3,4,5,6,7,8,9,10,11,12]<|.run 6 [b5=b5] rt1<|
 .val 78 (show (aI ((x3.l.map verA).length:Int):AV)=aI (x3.l.length:Int) from by rw [List.length_map])<|.run 2 [b6=b6] rt1<|
 .call (Qep x1 (s.stamp+1))<|
 .callS (args0:=[.sl 7 false (x3.l.map verA),aI (x3.l.length:Int),.agg [aI ((Qai x1 (s.stamp+1)).stamp),aB ((Qai x1 (s.stamp+1)).gone),aI ((Qai x1 (s.stamp+1)).n.ino),aI ((Qai x1 (s.stamp+1)).n.kind),aI ((Qai x1 (s.stamp+1)).n.links),aS ((Qai x1 (s.stamp+1)).n.text),.sl 2 false ((Qai x1 (s.stamp+1)).n.l.map entA)]]) (args:=[.sl 7 false ((Qb1 x3.l (s.stamp+1)).map verA),aI ((Qb1 x3.l (s.stamp+1)).length:Int),.agg [aI ((Qai x1 (s.stamp+1)).stamp),aB ((Qai x1 (s.stamp+1)).gone),aI ((Qai x1 (s.stamp+1)).n.ino),aI ((Qai x1 (s.stamp+1)).n.kind),aI ((Qai x1 (s.stamp+1)).n.links),aS ((Qai x1 (s.stamp+1)).n.text),.sl 2 false ((Qai x1 (s.stamp+1)).n.l.map entA)]]) ⟨Sub.of_eq (by rw [show Qb1 x3.l (s.stamp+1)=x3.l from by rw [show x3.l=[] from List.eq_nil_of_length_eq_zero (by omega)];rfl]),Sub.of_eq (congrArg aI (by rw [show Qb1 x3.l (s.stamp+1)=x3.l from by rw [show x3.l=[] from List.eq_nil_of_length_eq_zero (by omega)];rfl])),sR,trivial⟩ (Qhy (Qb1 x3.l (s.stamp+1)) (Qai x1 (s.stamp+1)) (by have:=Qmk x3.l (s.stamp+1);have:=Qeg (st:=s.stamp+1) (cs:=cs) hv k (by omega) x3 (List.mem_of_getElem? hx3);omega))<|
 .op (ixR Tryz.prog) (100,V,(Qam s.l (s.stamp+1) cs k).length,2,(Qao (Qam s.l (s.stamp+1) cs k) x1.ino:Int),some 83) (fun (_:Unit) σ=>σ.put (some 83) (.ep 100 V 2 (Qao (Qam s.l (s.stamp+1) cs k) x1.ino) 0)) (Qer (Qao (Qam s.l (s.stamp+1) cs k) x1.ino) a12r.2.1 (by omega) (by first | exact Qa2 (by assumption) | exact Qbf _ _ _ | (rw [List.length_map];first | exact Qa2 (by assumption) | exact Qbf _ _ _ | exact Nat.lt_of_le_of_lt (Nat.zero_le _) (Qa2 (by assumption)) | exact Nat.lt_of_le_of_lt (Nat.zero_le _) (Qbf _ _ _)))) fun _=>
 .op (fdR Tryz.prog) (100,V,2,Qao (Qam s.l (s.stamp+1) cs k) x1.ino,0,1,some 84) (fun (_:Unit) σ=>σ.put (some 84) (.ep 100 V 2 (Qao (Qam s.l (s.stamp+1) cs k) x1.ino) 1)) (Qgx) fun _=>
 .op (stR Tryz.prog) (100,V,2,Qao (Qam s.l (s.stamp+1) cs k) x1.ino,1,V,98,2,(Qam s.l (s.stamp+1) cs k).map chnA,[AV.sl 7 false (((Qb1 x3.l (s.stamp+1))++[(Qai x1 (s.stamp+1))]).map verA)],none) (fun (_:Unit) σ=>(σ.put (none) .any).setB 100 (.row V 98 2 (((Qam s.l (s.stamp+1) cs k).map chnA).set (Qao (Qam s.l (s.stamp+1) cs k) x1.ino) ((chnA x3).take 1++[AV.sl 7 false (((Qb1 x3.l (s.stamp+1))++[(Qai x1 (s.stamp+1))]).map verA)]++(chnA x3).drop (1+[AV.sl 7 false (((Qb1 x3.l (s.stamp+1))++[(Qai x1 (s.stamp+1))]).map verA)].length))))) (Qh7 (chnA x3) (map_some hx3) (Nat.le_of_ble_eq_true rfl)) fun _=>
 .run 2 [rng .i64 ((k:Int)+1)] ⟨Qas (by omega) (by omega),trivial⟩<|
 .back L1 (k,V) ((k+1),V) (show (k+1)≤cs.length from (by show _≤_;omega)) (show cs.length-(k+1)<cs.length-k from (by omega)) ⟨[(2,aI next),(3,.ptr 3 b1 0),(6,.ptr 6 b2 0),(7,aI (s.stamp+1)),(8,.ptr 8 b5 0),(26,.sl 7 false (cs.map chgA)),(27,aI (cs.length:Int)),(28,aI ((k:Int)+1))],[(3,.box b1 25 [.sl 2 false (s.l.map chnA),.sl 2 false (s.nexts.map cntA),aI s.stamp]),(6,.box b2 25 [aN,aN,aI 0]),(8,.box b5 25 [.rw 100 V ((Qam s.l (s.stamp+1) cs k).length),.sl 2 false (s.nexts.map cntA),aI (s.stamp+1)]),(100,.row V 98 2 (((Qam s.l (s.stamp+1) cs k).map chnA).set (Qao (Qam s.l (s.stamp+1) cs k) x1.ino) ((chnA x3).take 1++[AV.sl 7 false (((Qb1 x3.l (s.stamp+1))++[(Qai x1 (s.stamp+1))]).map verA)]++(chnA x3).drop (1+[AV.sl 7 false (((Qb1 x3.l (s.stamp+1))++[(Qai x1 (s.stamp+1))]).map verA)].length))))]⟩ ⟨sR,sR,sR,sR,sR,sR,sR,Sub.of_eq (congrArg aI (by first | omega | rfl)),trivial⟩ ⟨⟨_,rfl,SubB.refl _⟩,⟨_,rfl,SubB.refl _⟩,⟨_,rfl,SubB.boxs ⟨Sub.of_eq (congrArg (AV.rw 100 V) (by rw [Qcp hx1,Qlu q2])),sR,sR,trivial⟩⟩,⟨_,rfl,SubB.of_eq (congrArg (Bx.row V 98 2) (by rw [Qcp hx1];exact Qjo q2 hx3 _ rfl))⟩,trivial⟩)
 <| fun q1=>have p1:=decF q1;.run 3 [b1=b1] rt1<|
 .val 88 (show (aI ((s.nexts.map cntA).length:Int):AV)=aI (s.nexts.length:Int) from by rw [List.length_map])<|.run 2 [rng .i64 ((s.nexts.length:Int)-1)] ⟨Qas (by omega) (by omega),trivial⟩<|
 .r 3<|.br 92 (decide (((s.nexts.length:Int)-1)<0)) (fun q6=>have p6:=decT q6;.r 9<|.run 5 [b1=b1,b1=b1] rt2<|
 .val 106 (show (aI ((s.nexts.map cntA).length:Int):AV)=aI (s.nexts.length:Int) from by rw [List.length_map])<|.r 3<|.call (Qps s.nexts (⟨s.stamp+1,next⟩:Cnt) (by omega))<|
 .run 2 [b5=b5] rt1<|
 .run 2 [b5=b5,b2=b2] rt2<|
 .frz 100 [6] [6] [V=V,(Qam s.l (s.stamp+1) cs k).length=((Qam s.l (s.stamp+1) cs k).map chnA).length] ⟨rfl,(by first | rfl | (simp;done) | (simp;omega)),trivial⟩<|
 .fin (x:=.agg [.sl 2 false ((Qam s.l (s.stamp+1) cs k).map chnA),.sl 2 false ((s.nexts++[(⟨s.stamp+1,next⟩:Cnt)]).map cntA),aI (s.stamp+1)]) (r:=.agg (stoA (Qhn s cs next))) [b2=b2] rt1 (by
  obtain rfl:k=cs.length:=by omega
  refine Sub.of_eq ?_
  rw [show stoA (Qhn s cs next)=stoA ⟨Qam s.l (s.stamp+1) cs cs.length,Qd1 s next,s.stamp+1⟩ from rfl,Qwr (by omega)]
  rfl))
 <| fun q6=>have p6:=decF q6;.run 4 [b1=b1] rt1<|
 .idxM s.nexts cntA (s.nexts.length-1) (m:=(s.nexts.length:Int)-1) (by omega) (by omega) fun x5 hx5=>
 .r 4<|.br 101 (decide (next>x5.next)) (fun q7=>have p7:=decT q7;.run 5 [b1=b1,b1=b1] rt2<|
 .val 106 (show (aI ((s.nexts.map cntA).length:Int):AV)=aI (s.nexts.length:Int) from by rw [List.length_map])<|.r 3<|.call (Qps s.nexts (⟨s.stamp+1,next⟩:Cnt) (by omega))<|
 .run 2 [b5=b5] rt1<|
 .run 2 [b5=b5,b2=b2] rt2<|
 .frz 100 [6] [6] [V=V,(Qam s.l (s.stamp+1) cs k).length=((Qam s.l (s.stamp+1) cs k).map chnA).length] ⟨rfl,(by first | rfl | (simp;done) | (simp;omega)),trivial⟩<|
 .fin (x:=.agg [.sl 2 false ((Qam s.l (s.stamp+1) cs k).map chnA),.sl 2 false ((s.nexts++[(⟨s.stamp+1,next⟩:Cnt)]).map cntA),aI (s.stamp+1)]) (r:=.agg (stoA (Qhn s cs next))) [b2=b2] rt1 (by
  obtain rfl:k=cs.length:=by omega
  refine Sub.of_eq ?_
  rw [show stoA (Qhn s cs next)=stoA ⟨Qam s.l (s.stamp+1) cs cs.length,Qd1 s next,s.stamp+1⟩ from rfl,Qqh hx5 (by assumption)]
  rfl))
 <| fun q7=>have p7:=decF q7;.run 2 [b5=b5,b2=b2] rt2<|
 .frz 100 [6] [6] [V=V,(Qam s.l (s.stamp+1) cs k).length=((Qam s.l (s.stamp+1) cs k).map chnA).length] ⟨rfl,(by first | rfl | (simp;done) | (simp;omega)),trivial⟩<|
 .fin (x:=.agg [.sl 2 false ((Qam s.l (s.stamp+1) cs k).map chnA),.sl 2 false (s.nexts.map cntA),aI (s.stamp+1)]) (r:=.agg (stoA (Qhn s cs next))) [b2=b2] rt1 (by
  obtain rfl:k=cs.length:=by omega
  refine Sub.of_eq ?_
  rw [show stoA (Qhn s cs next)=stoA ⟨Qam s.l (s.stamp+1) cs cs.length,Qd1 s next,s.stamp+1⟩ from rfl,Zea hx5 (by assumption)]
  rfl)) a1.1 a1.2 ha1) j1.1 j1.2) Tryz.func58 rfl (by kernel_rfl) (by kernel_rfl)
def OkCh (c:Chg):Prop:=I64 c.ino∧OkN c.n
end Go.Proofs.YtahlldgocpabjaaGreat
