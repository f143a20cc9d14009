import Derived.Test.YtahlldgocpabjaaGreatAl
import Derived.Test.YtahlldgocpabjaaGreatMrgAC
set_option maxRecDepth 100000
set_option maxHeartbeats 8000000
set_option linter.unusedVariables false
set_option linter.unusedSimpArgs false
namespace Go.Proofs.YtahlldgocpabjaaGreat
open Go Go.RowKit Copyhold Go.Proofs.Tryz
theorem Qj5 (l:List Ver) (c:Ver) (hn:l.length≤100000):Qai prog 105 [.sl 7 false (l.map verA),aI (l.length:Int),.agg (verA c)] (.sl 7 false ((l++[c]).map verA)):=by
 have h:=Zar l l.length c (W0m _) hn;rw [W13,List.drop_length] at h;exact h
theorem Qs9 (l:List Cnt) (c:Cnt) (hn:l.length≤100000):Qai prog 107 [.sl 2 false (l.map cntA),aI (l.length:Int),.agg (cntA c)] (.sl 2 false ((l++[c]).map cntA)):=by
 have h:=Zas l l.length c (W0m _) hn;rw [W13,List.drop_length] at h;exact h
theorem ins_at {α:Type} {l:List α} {i:Nat} {c x:α} (hi:i≤l.length) (h:(l.take i++c :: l.drop i)[i]?=some x):x=c:=by
 rw [W0n (by rw [W0g];omega),W0g,Nat.min_eq_left hi,Nat.sub_self] at h;exact (W0c h).symm
theorem Zna {α:Type} {l:List α} {i:Nat} {c d:α} (hi:i≤l.length):(l.take i++c :: l.drop i).set i d=l.take i++d :: l.drop i:=by
 rw [List.set_append_right _ _ (by rw [W0g];omega),W0g,Nat.min_eq_left hi,Nat.sub_self];rfl
def Qc5 (s:Sto) (next:Int):List Cnt:=match s.nexts[s.nexts.length-1]? with
 | some c=>if next>c.next then s.nexts++[⟨s.stamp+1,next⟩] else s.nexts
 | none=>s.nexts++[⟨s.stamp+1,next⟩]
theorem Zb1 {s:Sto} {next:Int} (h:s.nexts.length=0):Qc5 s next=s.nexts++[⟨s.stamp+1,next⟩]:=by
 unfold Qc5;rw [W0l h];rfl
theorem Qn6 {s:Sto} {next:Int} {c:Cnt} (h:s.nexts[s.nexts.length-1]?=some c) (e:next>c.next):Qc5 s next=s.nexts++[⟨s.stamp+1,next⟩]:=by
 unfold Qc5;rw [h];exact W1y e
theorem Qy9 {s:Sto} {next:Int} {c:Cnt} (h:s.nexts[s.nexts.length-1]?=some c) (e:¬ next>c.next):Qc5 s next=s.nexts:=by
 unfold Qc5;rw [h];exact W1x e
def Qcy (s:Sto) (cs:List Chg) (next:Int):Sto:=⟨Qas s.l (s.stamp+1) cs cs.length,Qc5 s next,s.stamp+1⟩
theorem Zey {l:List Chn} {st n:Int} {v:Ver} {B:Nat} (h:∀ c∈l,c.l.length≤B):∀ c∈putC l st n v,c.l.length≤B+1:=by
 intro c hc;unfold putC at hc
 split at hc
 ·split at hc
  ·rename_i d hd;rcases List.mem_or_eq_of_mem_set hc with hc | rfl
   ·have:=h c hc;omega
   ·have h1:=h d (W0h hd);have h2:=Qo7 d.l st;simp only [W0e,List.length_singleton];omega
  ·have:=h c hc;omega
 ·rcases W05.1 hc with hc | hc
  ·have:=h c (W14 hc);omega
  ·rcases W0y.1 hc with rfl | hc
   ·simp
   ·have:=h c (W2e hc);omega
theorem Qdy {l:List Chn} {st:Int} {cs:List Chg} {B:Nat} (h:∀ c∈l,c.l.length≤B):∀ k,k≤cs.length→∀ c∈Qas l st cs k,c.l.length≤B+k
 | 0,_=>by simpa [Qas] using h
 | k+1,hk=>by
  obtain ⟨c,hc⟩:=Qdt (l:=cs) (k:=k) (by omega);rw [Qct hc];exact Zey (Qdy h k (by omega))
theorem Qbj (l:List Chn) (n:Int) (c:Chn):Qao l n<(l.take (Qao l n)++c :: l.drop (Qao l n)).length:=by
 have:=Qkj l n;simp only [W0e,W0g,W0b,W0p];omega
theorem Ql6 {l:List Chn} {st n:Int} {v:Ver} {c:Chn} (h:Qcj l n=true) (hc:l[Qao l n]?=some c) (b:List Ver) (hb:b=Qb9 c.l st):((l.map chnA).set (Qao l n) ((chnA c).take 1++[AV.sl 7 false ((b++[v]).map verA)]++(chnA c).drop (1+1)))=(putC l st n v).map chnA:=by
 rw [Qgm h hc,List.map_set,hb];rfl
theorem Zh3 {l:List Chn} {st n:Int} {v:Ver} {c:Chn} (h:Qcj l n=false) (hc:c=⟨n,[]⟩) (b:List Ver) (hb:b=Qb9 c.l st):(((l.take (Qao l n)++(⟨n,[]⟩:Chn) :: l.drop (Qao l n)).map chnA).set (Qao l n) ((chnA c).take 1++[AV.sl 7 false ((b++[v]).map verA)]++(chnA c).drop (1+1)))=(putC l st n v).map chnA:=by
 subst hc;rw [Qi4 h,hb,Zal];have h2:=W1z (List.map chnA) (Zna (d:=(⟨n,[v]⟩:Chn)) (c:=(⟨n,[]⟩:Chn)) (Qkj l n));rw [List.map_set] at h2;exact h2
theorem Qoe {l:List Chn} {st n:Int} {v:Ver} (h:Qcj l n=true):(putC l st n v).length=l.length:=by
 obtain ⟨c,hc,_⟩:=Qit h;rw [Qgm h hc,List.length_set]
theorem Zj0 {l:List Chn} {st n:Int} {v:Ver} (h:Qcj l n=false):(putC l st n v).length=(l.take (Qao l n)++(⟨n,[]⟩:Chn) :: l.drop (Qao l n)).length:=by
 rw [Qi4 h];simp
theorem Qup (s:Sto) (cs:List Chg) (next:Int) (oks:OkS s) (hf:s.l.length≤5000) (hc:cs.length≤5000) (hnx:s.nexts.length≤5000) (hv:∀ c∈s.l,c.l.length≤5000) (hs:s.stamp<1152921504606847976):Qai prog 58 [.agg (stoA s),.sl 7 false (cs.map chgA),aI next] (.agg (stoA (Qcy s cs next))):=by
 have ok1:=oks.1.1;exact Qae func58 (
 .new fun b1=>.new fun b2=>.run 4 [b1=b1,rng .i64 (s.stamp+1)] ⟨rfl,Qah,trivial⟩<|
 let J1:Jn (Nat × Value):=⟨fun j1=>⟨[(1,.sl 7 false (cs.map chgA)),(2,aI next),(3,.ptr 3 b1 0),(6,.ptr 6 b2 0),(7,aI (s.stamp+1)),(8,.ptr 8 j1.1 0)],[(3,.box b1 25 (stoA s)),(6,.box b2 25 [aN,aN,aI 0]),(100,.row j1.2 98 2 (s.l.map chnA)),(8,.box j1.1 25 [.rw 100 j1.2 ((s.l.map chnA).length),.sl 2 false (s.nexts.map cntA),aI (s.stamp+1)])]⟩,fun _=>True⟩
 .cut J1 (.pick [0,1,3,4,5]<|.u 5 [b1,b1]<|
 .fork<|.alt (.op (crR prog 100) (102,[.sl 2 false (s.l.map chnA)],21) (fun (V:Value) σ=>(σ.put (some 21) (.rw 100 V (s.l.map chnA).length)).setB 100 (.row V 98 2 (s.l.map chnA))) (Qh3 (args':=[.sl 2 false (s.l.map chnA)]) sr1 (Qqq (s.l.map chnA) (by rw [W0a];omega) (fun l h=>by obtain ⟨z,_,rfl⟩:=W1j.1 h;rfl))) fun V1=>
 .pick [6,7,8]<|.r 1<|.new fun b3=>.u 1 [b3]<|
 .jo J1 (b3,V1) [] [] sr6 bb4)
 <| .new fun b4=>.pick [2,6,8]<|.op (crR prog 100) (102,[.sl 2 false (s.l.map chnA)],21) (fun (V:Value) σ=>(σ.put (some 21) (.rw 100 V (s.l.map chnA).length)).setB 100 (.row V 98 2 (s.l.map chnA))) (Qh3 (args':=[.sl 2 false (s.l.map chnA)]) sr1 (Qqq (s.l.map chnA) (by rw [W0a];omega) (fun l h=>by obtain ⟨z,_,rfl⟩:=W1j.1 h;rfl))) fun V2=>
 .u 2 [b4]<|
 .jo J1 (b4,V2) [] [] sr6 bb4)
 <| fun j1 _=>(fun (b5:Nat) (V3:Value)=>.r 2<|.lm 27 cs chgA<|.r 1<|let L1:Lp (Nat × Value):=⟨fun a1=>⟨[(2,aI next),(3,.ptr 3 b1 0),(6,.ptr 6 b2 0),(7,aI (s.stamp+1)),(8,.ptr 8 b5 0),(26,.sl 7 false (cs.map chgA)),(27,aI (cs.length:Int)),(28,aI (a1.1:Int))],[(3,.box b1 25 (stoA s)),(6,.box b2 25 [aN,aN,aI 0]),(8,.box b5 25 [.rw 100 a1.2 ((Qas s.l (s.stamp+1) cs a1.1).length),.sl 2 false (s.nexts.map cntA),aI (s.stamp+1)]),(100,.row a1.2 98 2 ((Qas s.l (s.stamp+1) cs a1.1).map chnA))]⟩,fun a1=>cs.length-a1.1,fun a1=>a1.1≤cs.length⟩
 .lp L1 (0,V3) (show 0≤cs.length from W0j _) [(28,aI 0)] [(8,.box b5 25 [.rw 100 V3 ((s.l.map chnA).length),.sl 2 false (s.nexts.map cntA),aI (s.stamp+1)]),(100,.row V3 98 2 (s.l.map chnA))] ⟨sR,sR,sR,sR,sR,sR,sR,sO,trivial⟩ ⟨sB,sB,⟨_,rfl,W2u ⟨W2p (W1z (AV.rw 100 V3) (by simp [Qas])),sR,sR,trivial⟩⟩,⟨_,rfl,W2q rfl⟩,trivial⟩ fun a1 ha1=>
 (fun (k:Nat) (V:Value) (hH1:k≤cs.length)=>.r 1<|.br 29 (decide ((k:Int)<(cs.length:Int))) (fun q1=>have p1:=decT q1;.idxM cs chgA k (m:=(k:Int)) rfl (by omega) fun x1 hx1=>
 .r 1<|.new fun b6=>.u 1 [b6]<|
 .u 4 [b5,b6]<|
 .op (cbR prog 100) ((103,[.rw 100 V ((Qas s.l (s.stamp+1) cs k).length),aI x1.ino],some 37),(V,98,2,(Qas s.l (s.stamp+1) cs k).map chnA)) (fun (_:Unit) σ=>σ.put (some 37) (.tup [aI (Qao (Qas s.l (s.stamp+1) cs k) x1.ino:Int),aB (Qcj (Qas s.l (s.stamp+1) cs k) x1.ino)])) (Qnq (args':=[.sl 2 false ((Qas s.l (s.stamp+1) cs k).map chnA),aI x1.ino]) ⟨Fz.row _ _ _ _ _ _ (by first | rfl | (simp;done) | (simp;omega)),Fz.refl _ _,trivial⟩ (Qw3 (Qas s.l (s.stamp+1) cs k) x1.ino (by have:=Qgx s.l (s.stamp+1) cs k;omega)) rfl) fun _=>
 .r 5<|.r 2<|.br 41 (!(Qcj (Qas s.l (s.stamp+1) cs k) x1.ino)) (fun q2=>have q2:=notT q2;have p2:=booF q2;.frz 100 [2,3,6,7,8,10,11,12,26,27,28,29,30,31,32,33,34,35,36,37,38,39,40,41] [3,6,8,10] [V=V,(Qas s.l (s.stamp+1) cs k).length=((Qas s.l (s.stamp+1) cs k).map chnA).length,V=V,(Qas s.l (s.stamp+1) cs k).length=((Qas s.l (s.stamp+1) cs k).map chnA).length] ⟨rfl,(by first | rfl | (simp;done) | (simp;omega)),rfl,(by first | rfl | (simp;done) | (simp;omega)),trivial⟩<|
 .u 6 [b5,b6]<|
 .op (crR prog 100) (104,[.sl 2 false ((Qas s.l (s.stamp+1) cs k).map chnA),aI (Qao (Qas s.l (s.stamp+1) cs k) x1.ino:Int),.agg [aI x1.ino,aN]],48) (fun (V:Value) σ=>(σ.put (some 48) (.rw 100 V (((Qas s.l (s.stamp+1) cs k).take (Qao (Qas s.l (s.stamp+1) cs k) x1.ino)++(⟨x1.ino,[]⟩:Chn) :: (Qas s.l (s.stamp+1) cs k).drop (Qao (Qas s.l (s.stamp+1) cs k) x1.ino)).map chnA).length)).setB 100 (.row V 98 2 (((Qas s.l (s.stamp+1) cs k).take (Qao (Qas s.l (s.stamp+1) cs k) x1.ino)++(⟨x1.ino,[]⟩:Chn) :: (Qas s.l (s.stamp+1) cs k).drop (Qao (Qas s.l (s.stamp+1) cs k) x1.ino)).map chnA))) (Qh3 (args':=[.sl 2 false ((Qas s.l (s.stamp+1) cs k).map chnA),aI (Qao (Qas s.l (s.stamp+1) cs k) x1.ino:Int),.agg [aI ((⟨x1.ino,[]⟩:Chn).ino),.sl 7 false ((⟨x1.ino,[]⟩:Chn).l.map verA)]]) ⟨sR,sR,W2t ⟨sR,Sub.nil _ _,trivial⟩,trivial⟩ (Zc6 (Qas s.l (s.stamp+1) cs k) (Qao (Qas s.l (s.stamp+1) cs k) x1.ino) (⟨x1.ino,[]⟩:Chn) (Qkj _ _) (by have:=Qgx s.l (s.stamp+1) cs k;omega))) fun V4=>
 .u 2 [b5]<|
 .st (rowR 100) (V4,98,2,((Qas s.l (s.stamp+1) cs k).take (Qao (Qas s.l (s.stamp+1) cs k) x1.ino)++(⟨x1.ino,[]⟩:Chn) :: (Qas s.l (s.stamp+1) cs k).drop (Qao (Qas s.l (s.stamp+1) cs k) x1.ino)).map chnA) (fun _ σ=>σ) (Qcd 100 (by first | exact Qa6 (by assumption) | exact Qbj _ _ _ | (rw [W0a];first | exact Qa6 (by assumption) | exact Qbj _ _ _ | exact W03 (W0j _) (Qa6 (by assumption)) | exact W03 (W0j _) (Qbj _ _ _)))) fun a7r=>
 .u 3 [b5]<|
 .op (ixR prog) (100,V4,(((Qas s.l (s.stamp+1) cs k).take (Qao (Qas s.l (s.stamp+1) cs k) x1.ino)++(⟨x1.ino,[]⟩:Chn) :: (Qas s.l (s.stamp+1) cs k).drop (Qao (Qas s.l (s.stamp+1) cs k) x1.ino)).map chnA).length,2,(Qao (Qas s.l (s.stamp+1) cs k) x1.ino:Int),some 53) (fun (_:Unit) σ=>σ.put (some 53) (.ep 100 V4 2 (Qao (Qas s.l (s.stamp+1) cs k) x1.ino) 0)) (Qfy (Qao (Qas s.l (s.stamp+1) cs k) x1.ino) a7r.2.1 (by omega) (by first | exact Qa6 (by assumption) | exact Qbj _ _ _ | (rw [W0a];first | exact Qa6 (by assumption) | exact Qbj _ _ _ | exact W03 (W0j _) (Qa6 (by assumption)) | exact W03 (W0j _) (Qbj _ _ _)))) fun _=>
 .ex (Qdt (l:=((Qas s.l (s.stamp+1) cs k).take (Qao (Qas s.l (s.stamp+1) cs k) x1.ino)++(⟨x1.ino,[]⟩:Chn) :: (Qas s.l (s.stamp+1) cs k).drop (Qao (Qas s.l (s.stamp+1) cs k) x1.ino))) (k:=Qao (Qas s.l (s.stamp+1) cs k) x1.ino) (by first | exact Qa6 (by assumption) | exact Qbj _ _ _ | (rw [W0a];first | exact Qa6 (by assumption) | exact Qbj _ _ _ | exact W03 (W0j _) (Qa6 (by assumption)) | exact W03 (W0j _) (Qbj _ _ _)))) fun x2 hx2=>
 have ex2:=ins_at (Qkj _ _) hx2;have zx2:x2.l.length=0:=(by rw [ex2];rfl);.op (fdR prog) (100,V4,2,Qao (Qas s.l (s.stamp+1) cs k) x1.ino,0,1,some 54) (fun (_:Unit) σ=>σ.put (some 54) (.ep 100 V4 2 (Qao (Qas s.l (s.stamp+1) cs k) x1.ino) 1)) (Qix) fun _=>
 .op (ldR prog) (V4,2,Qao (Qas s.l (s.stamp+1) cs k) x1.ino,1,V4,2,((Qas s.l (s.stamp+1) cs k).take (Qao (Qas s.l (s.stamp+1) cs k) x1.ino)++(⟨x1.ino,[]⟩:Chn) :: (Qas s.l (s.stamp+1) cs k).drop (Qao (Qas s.l (s.stamp+1) cs k) x1.ino)).map chnA,96,some 55) (fun (_:Unit) σ=>σ.put (some 55) (.sl 7 false (x2.l.map verA))) (Qq5 (chnA x2) (map_some hx2) (by kernel_rfl)) fun _=>
 .r 1<|.r 2<|.lm 57 x2.l verA<|.run 2 [rng .i64 ((x2.l.length:Int)-1)] ⟨Qah,trivial⟩<|
 .r 3<|.br 61 (decide (((x2.l.length:Int)-1)≥0)) (fun q3=>have p3:=decT q3;.no (by omega))
 <| fun q3=>have p3:=decF q3;.r 8<|.st (rowR 100) (V4,98,2,((Qas s.l (s.stamp+1) cs k).take (Qao (Qas s.l (s.stamp+1) cs k) x1.ino)++(⟨x1.ino,[]⟩:Chn) :: (Qas s.l (s.stamp+1) cs k).drop (Qao (Qas s.l (s.stamp+1) cs k) x1.ino)).map chnA) (fun _ σ=>σ) (Qcd 100 (by first | exact Qa6 (by assumption) | exact Qbj _ _ _ | (rw [W0a];first | exact Qa6 (by assumption) | exact Qbj _ _ _ | exact W03 (W0j _) (Qa6 (by assumption)) | exact W03 (W0j _) (Qbj _ _ _)))) fun a8r=>
 .ord [0,1,2,3,4,5,6,7,8,9,10,11,12]<|.u 6 [b5]<|
 .lm 78 x2.l verA<|.u 2 [b6]<|
 .call (Qfu x1 (s.stamp+1))<|
 .cs (args0:=[.sl 7 false (x2.l.map verA),aI (x2.l.length:Int),.agg [aI ((Qal x1 (s.stamp+1)).stamp),aB ((Qal x1 (s.stamp+1)).gone),aI ((Qal x1 (s.stamp+1)).n.ino),aI ((Qal x1 (s.stamp+1)).n.kind),aI ((Qal x1 (s.stamp+1)).n.links),aS ((Qal x1 (s.stamp+1)).n.text),.sl 2 false ((Qal x1 (s.stamp+1)).n.l.map entA)]]) (Qj5 (Qb9 x2.l (s.stamp+1)) (Qal x1 (s.stamp+1)) (by have:=Qo7 x2.l (s.stamp+1);have:=zx2;omega)) ⟨W2p (by rw [show Qb9 x2.l (s.stamp+1)=x2.l from by rw [show x2.l=[] from W0l (by omega)];rfl]),W2p (W1z aI (by rw [show Qb9 x2.l (s.stamp+1)=x2.l from by rw [show x2.l=[] from W0l (by omega)];rfl])),sR,trivial⟩<|
 .op (ixR prog) (100,V4,(((Qas s.l (s.stamp+1) cs k).take (Qao (Qas s.l (s.stamp+1) cs k) x1.ino)++(⟨x1.ino,[]⟩:Chn) :: (Qas s.l (s.stamp+1) cs k).drop (Qao (Qas s.l (s.stamp+1) cs k) x1.ino)).map chnA).length,2,(Qao (Qas s.l (s.stamp+1) cs k) x1.ino:Int),some 83) (fun (_:Unit) σ=>σ.put (some 83) (.ep 100 V4 2 (Qao (Qas s.l (s.stamp+1) cs k) x1.ino) 0)) (Qfy (Qao (Qas s.l (s.stamp+1) cs k) x1.ino) a8r.2.1 (by omega) (by first | exact Qa6 (by assumption) | exact Qbj _ _ _ | (rw [W0a];first | exact Qa6 (by assumption) | exact Qbj _ _ _ | exact W03 (W0j _) (Qa6 (by assumption)) | exact W03 (W0j _) (Qbj _ _ _)))) fun _=>
 .op (fdR prog) (100,V4,2,Qao (Qas s.l (s.stamp+1) cs k) x1.ino,0,1,some 84) (fun (_:Unit) σ=>σ.put (some 84) (.ep 100 V4 2 (Qao (Qas s.l (s.stamp+1) cs k) x1.ino) 1)) (Qix) fun _=>
 .op (stR prog) (100,V4,2,Qao (Qas s.l (s.stamp+1) cs k) x1.ino,1,V4,98,2,((Qas s.l (s.stamp+1) cs k).take (Qao (Qas s.l (s.stamp+1) cs k) x1.ino)++(⟨x1.ino,[]⟩:Chn) :: (Qas s.l (s.stamp+1) cs k).drop (Qao (Qas s.l (s.stamp+1) cs k) x1.ino)).map chnA,[AV.sl 7 false (((Qb9 x2.l (s.stamp+1))++[(Qal x1 (s.stamp+1))]).map verA)],none) (fun (_:Unit) σ=>(σ.put (none) .any).setB 100 (.row V4 98 2 ((((Qas s.l (s.stamp+1) cs k).take (Qao (Qas s.l (s.stamp+1) cs k) x1.ino)++(⟨x1.ino,[]⟩:Chn) :: (Qas s.l (s.stamp+1) cs k).drop (Qao (Qas s.l (s.stamp+1) cs k) x1.ino)).map chnA).set (Qao (Qas s.l (s.stamp+1) cs k) x1.ino) ((chnA x2).take 1++[AV.sl 7 false (((Qb9 x2.l (s.stamp+1))++[(Qal x1 (s.stamp+1))]).map verA)]++(chnA x2).drop (1+[AV.sl 7 false (((Qb9 x2.l (s.stamp+1))++[(Qal x1 (s.stamp+1))]).map verA)].length))))) (Qke (chnA x2) (map_some hx2) (W06 rfl)) fun _=>
 .run 2 [rng .i64 ((k:Int)+1)] ⟨Qah,trivial⟩<|
 .bk L1 (k,V) ((k+1),V4) (show (k+1)≤cs.length from (by show _≤_;omega)) (show cs.length-(k+1)<cs.length-k from (by omega)) [(28,aI ((k:Int)+1))] [(8,.box b5 25 [.rw 100 V4 ((((Qas s.l (s.stamp+1) cs k).take (Qao (Qas s.l (s.stamp+1) cs k) x1.ino)++(⟨x1.ino,[]⟩:Chn) :: (Qas s.l (s.stamp+1) cs k).drop (Qao (Qas s.l (s.stamp+1) cs k) x1.ino)).map chnA).length),.sl 2 false (s.nexts.map cntA),aI (s.stamp+1)]),(100,.row V4 98 2 ((((Qas s.l (s.stamp+1) cs k).take (Qao (Qas s.l (s.stamp+1) cs k) x1.ino)++(⟨x1.ino,[]⟩:Chn) :: (Qas s.l (s.stamp+1) cs k).drop (Qao (Qas s.l (s.stamp+1) cs k) x1.ino)).map chnA).set (Qao (Qas s.l (s.stamp+1) cs k) x1.ino) ((chnA x2).take 1++[AV.sl 7 false (((Qb9 x2.l (s.stamp+1))++[(Qal x1 (s.stamp+1))]).map verA)]++(chnA x2).drop (1+[AV.sl 7 false (((Qb9 x2.l (s.stamp+1))++[(Qal x1 (s.stamp+1))]).map verA)].length))))] ⟨sR,sR,sR,sR,sR,sR,sR,sO,trivial⟩ ⟨sB,sB,⟨_,rfl,W2u ⟨W2p (W1z (AV.rw 100 V4) (by rw [Qct hx1,Zj0 q2];simp)),sR,sR,trivial⟩⟩,⟨_,rfl,W2q (W1z (Bx.row V4 98 2) (by rw [Qct hx1];exact Zh3 q2 ex2 _ rfl))⟩,trivial⟩)
 <| fun q2=>have q2:=notF q2;have p2:=booT q2;.st (rowR 100) (V,98,2,(Qas s.l (s.stamp+1) cs k).map chnA) (fun _ σ=>σ) (Qcd 100 (by first | exact Qa6 (by assumption) | exact Qbj _ _ _ | (rw [W0a];first | exact Qa6 (by assumption) | exact Qbj _ _ _ | exact W03 (W0j _) (Qa6 (by assumption)) | exact W03 (W0j _) (Qbj _ _ _)))) fun a9r=>
 .u 3 [b5]<|
 .op (ixR prog) (100,V,(Qas s.l (s.stamp+1) cs k).length,2,(Qao (Qas s.l (s.stamp+1) cs k) x1.ino:Int),some 53) (fun (_:Unit) σ=>σ.put (some 53) (.ep 100 V 2 (Qao (Qas s.l (s.stamp+1) cs k) x1.ino) 0)) (Qfy (Qao (Qas s.l (s.stamp+1) cs k) x1.ino) a9r.2.1 (by omega) (by first | exact Qa6 (by assumption) | exact Qbj _ _ _ | (rw [W0a];first | exact Qa6 (by assumption) | exact Qbj _ _ _ | exact W03 (W0j _) (Qa6 (by assumption)) | exact W03 (W0j _) (Qbj _ _ _)))) fun _=>
 .ex (Qdt (l:=(Qas s.l (s.stamp+1) cs k)) (k:=Qao (Qas s.l (s.stamp+1) cs k) x1.ino) (by first | exact Qa6 (by assumption) | exact Qbj _ _ _ | (rw [W0a];first | exact Qa6 (by assumption) | exact Qbj _ _ _ | exact W03 (W0j _) (Qa6 (by assumption)) | exact W03 (W0j _) (Qbj _ _ _)))) fun x3 hx3=>
 have rx3:=Qdy (st:=s.stamp+1) (cs:=cs) hv k (by omega) x3 (W0h hx3);.op (fdR prog) (100,V,2,Qao (Qas s.l (s.stamp+1) cs k) x1.ino,0,1,some 54) (fun (_:Unit) σ=>σ.put (some 54) (.ep 100 V 2 (Qao (Qas s.l (s.stamp+1) cs k) x1.ino) 1)) (Qix) fun _=>
 .op (ldR prog) (V,2,Qao (Qas s.l (s.stamp+1) cs k) x1.ino,1,V,2,(Qas s.l (s.stamp+1) cs k).map chnA,96,some 55) (fun (_:Unit) σ=>σ.put (some 55) (.sl 7 false (x3.l.map verA))) (Qq5 (chnA x3) (map_some hx3) (by kernel_rfl)) fun _=>
 .r 1<|.r 2<|.lm 57 x3.l verA<|.run 2 [rng .i64 ((x3.l.length:Int)-1)] ⟨Qah,trivial⟩<|
 .r 3<|.br 61 (decide (((x3.l.length:Int)-1)≥0)) (fun q4=>have p4:=decT q4;.r 2<|.idxM x3.l verA (x3.l.length-1) (m:=(x3.l.length:Int)-1) (by omega) (by omega) fun x4 hx4=>
 .r 5<|.br 69 (x4.stamp==(s.stamp+1)) (fun q5=>have p5:=beqT q5;.r 2<|.slc 7 false (x3.l.map verA) none (some ((x3.l.length:Int)-1)) none 0 (x3.l.length-1) false (.inl ⟨rfl,rfl⟩) (.inr (W1z some (by omega))) (.inl ⟨rfl,fun h=>by cases h⟩) (by simp<;>omega) (by simp<;>omega)<|
 .r 1<|.st (rowR 100) (V,98,2,(Qas s.l (s.stamp+1) cs k).map chnA) (fun _ σ=>σ) (Qcd 100 (by first | exact Qa6 (by assumption) | exact Qbj _ _ _ | (rw [W0a];first | exact Qa6 (by assumption) | exact Qbj _ _ _ | exact W03 (W0j _) (Qa6 (by assumption)) | exact W03 (W0j _) (Qbj _ _ _)))) fun a10r=>
 .ord [0,1,2,3,4,5,6,7,8,9,10,11,12]<|.u 8 [b5,b6]<|
 .call (Qfu x1 (s.stamp+1))<|
 .cs (args0:=[.sl 7 false (((x3.l.map verA).take (x3.l.length-1)).drop 0),aI ((((x3.l.map verA).take (x3.l.length-1)).drop 0).length:Int),.agg [aI ((Qal x1 (s.stamp+1)).stamp),aB ((Qal x1 (s.stamp+1)).gone),aI ((Qal x1 (s.stamp+1)).n.ino),aI ((Qal x1 (s.stamp+1)).n.kind),aI ((Qal x1 (s.stamp+1)).n.links),aS ((Qal x1 (s.stamp+1)).n.text),.sl 2 false ((Qal x1 (s.stamp+1)).n.l.map entA)]]) (Qj5 (Qb9 x3.l (s.stamp+1)) (Qal x1 (s.stamp+1)) (by have:=Qo7 x3.l (s.stamp+1);have:=Qdy (st:=s.stamp+1) (cs:=cs) hv k (by omega) x3 (W0h hx3);omega)) ⟨W2p (by rw [Qst hx4 p5,List.drop_zero,W17]),W2p (W1z aI (by rw [Qst hx4 p5];simp)),sR,trivial⟩<|
 .op (ixR prog) (100,V,(Qas s.l (s.stamp+1) cs k).length,2,(Qao (Qas s.l (s.stamp+1) cs k) x1.ino:Int),some 83) (fun (_:Unit) σ=>σ.put (some 83) (.ep 100 V 2 (Qao (Qas s.l (s.stamp+1) cs k) x1.ino) 0)) (Qfy (Qao (Qas s.l (s.stamp+1) cs k) x1.ino) a10r.2.1 (by omega) (by first | exact Qa6 (by assumption) | exact Qbj _ _ _ | (rw [W0a];first | exact Qa6 (by assumption) | exact Qbj _ _ _ | exact W03 (W0j _) (Qa6 (by assumption)) | exact W03 (W0j _) (Qbj _ _ _)))) fun _=>
 .op (fdR prog) (100,V,2,Qao (Qas s.l (s.stamp+1) cs k) x1.ino,0,1,some 84) (fun (_:Unit) σ=>σ.put (some 84) (.ep 100 V 2 (Qao (Qas s.l (s.stamp+1) cs k) x1.ino) 1)) (Qix) fun _=>
 .op (stR prog) (100,V,2,Qao (Qas s.l (s.stamp+1) cs k) x1.ino,1,V,98,2,(Qas s.l (s.stamp+1) cs k).map chnA,[AV.sl 7 false (((Qb9 x3.l (s.stamp+1))++[(Qal x1 (s.stamp+1))]).map verA)],none) (fun (_:Unit) σ=>(σ.put (none) .any).setB 100 (.row V 98 2 (((Qas s.l (s.stamp+1) cs k).map chnA).set (Qao (Qas s.l (s.stamp+1) cs k) x1.ino) ((chnA x3).take 1++[AV.sl 7 false (((Qb9 x3.l (s.stamp+1))++[(Qal x1 (s.stamp+1))]).map verA)]++(chnA x3).drop (1+[AV.sl 7 false (((Qb9 x3.l (s.stamp+1))++[(Qal x1 (s.stamp+1))]).map verA)].length))))) (Qke (chnA x3) (map_some hx3) (W06 rfl)) fun _=>
 .run 2 [rng .i64 ((k:Int)+1)] ⟨Qah,trivial⟩<|
 .bk L1 (k,V) ((k+1),V) (show (k+1)≤cs.length from (by show _≤_;omega)) (show cs.length-(k+1)<cs.length-k from (by omega)) [(28,aI ((k:Int)+1))] [(8,.box b5 25 [.rw 100 V ((Qas s.l (s.stamp+1) cs k).length),.sl 2 false (s.nexts.map cntA),aI (s.stamp+1)]),(100,.row V 98 2 (((Qas s.l (s.stamp+1) cs k).map chnA).set (Qao (Qas s.l (s.stamp+1) cs k) x1.ino) ((chnA x3).take 1++[AV.sl 7 false (((Qb9 x3.l (s.stamp+1))++[(Qal x1 (s.stamp+1))]).map verA)]++(chnA x3).drop (1+[AV.sl 7 false (((Qb9 x3.l (s.stamp+1))++[(Qal x1 (s.stamp+1))]).map verA)].length))))] ⟨sR,sR,sR,sR,sR,sR,sR,sO,trivial⟩ ⟨sB,sB,⟨_,rfl,W2u ⟨W2p (W1z (AV.rw 100 V) (by rw [Qct hx1,Qoe q2])),sR,sR,trivial⟩⟩,⟨_,rfl,W2q (W1z (Bx.row V 98 2) (by rw [Qct hx1];exact Ql6 q2 hx3 _ rfl))⟩,trivial⟩)
 <| fun q5=>have p5:=beqF q5;.st (rowR 100) (V,98,2,(Qas s.l (s.stamp+1) cs k).map chnA) (fun _ σ=>σ) (Qcd 100 (by first | exact Qa6 (by assumption) | exact Qbj _ _ _ | (rw [W0a];first | exact Qa6 (by assumption) | exact Qbj _ _ _ | exact W03 (W0j _) (Qa6 (by assumption)) | exact W03 (W0j _) (Qbj _ _ _)))) fun a11r=>
 .ord [0,1,2,3,4,5,6,7,8,9,10,11,12]<|.u 6 [b5]<|
 .lm 78 x3.l verA<|.u 2 [b6]<|
 .call (Qfu x1 (s.stamp+1))<|
 .cs (args0:=[.sl 7 false (x3.l.map verA),aI (x3.l.length:Int),.agg [aI ((Qal x1 (s.stamp+1)).stamp),aB ((Qal x1 (s.stamp+1)).gone),aI ((Qal x1 (s.stamp+1)).n.ino),aI ((Qal x1 (s.stamp+1)).n.kind),aI ((Qal x1 (s.stamp+1)).n.links),aS ((Qal x1 (s.stamp+1)).n.text),.sl 2 false ((Qal x1 (s.stamp+1)).n.l.map entA)]]) (Qj5 (Qb9 x3.l (s.stamp+1)) (Qal x1 (s.stamp+1)) (by have:=Qo7 x3.l (s.stamp+1);have:=Qdy (st:=s.stamp+1) (cs:=cs) hv k (by omega) x3 (W0h hx3);omega)) ⟨W2p (by rw [Qx9 hx4 p5]),W2p (W1z aI (by rw [Qx9 hx4 p5])),sR,trivial⟩<|
 .op (ixR prog) (100,V,(Qas s.l (s.stamp+1) cs k).length,2,(Qao (Qas s.l (s.stamp+1) cs k) x1.ino:Int),some 83) (fun (_:Unit) σ=>σ.put (some 83) (.ep 100 V 2 (Qao (Qas s.l (s.stamp+1) cs k) x1.ino) 0)) (Qfy (Qao (Qas s.l (s.stamp+1) cs k) x1.ino) a11r.2.1 (by omega) (by first | exact Qa6 (by assumption) | exact Qbj _ _ _ | (rw [W0a];first | exact Qa6 (by assumption) | exact Qbj _ _ _ | exact W03 (W0j _) (Qa6 (by assumption)) | exact W03 (W0j _) (Qbj _ _ _)))) fun _=>
 .op (fdR prog) (100,V,2,Qao (Qas s.l (s.stamp+1) cs k) x1.ino,0,1,some 84) (fun (_:Unit) σ=>σ.put (some 84) (.ep 100 V 2 (Qao (Qas s.l (s.stamp+1) cs k) x1.ino) 1)) (Qix) fun _=>
 .op (stR prog) (100,V,2,Qao (Qas s.l (s.stamp+1) cs k) x1.ino,1,V,98,2,(Qas s.l (s.stamp+1) cs k).map chnA,[AV.sl 7 false (((Qb9 x3.l (s.stamp+1))++[(Qal x1 (s.stamp+1))]).map verA)],none) (fun (_:Unit) σ=>(σ.put (none) .any).setB 100 (.row V 98 2 (((Qas s.l (s.stamp+1) cs k).map chnA).set (Qao (Qas s.l (s.stamp+1) cs k) x1.ino) ((chnA x3).take 1++[AV.sl 7 false (((Qb9 x3.l (s.stamp+1))++[(Qal x1 (s.stamp+1))]).map verA)]++(chnA x3).drop (1+[AV.sl 7 false (((Qb9 x3.l (s.stamp+1))++[(Qal x1 (s.stamp+1))]).map verA)].length))))) (Qke (chnA x3) (map_some hx3) (W06 rfl)) fun _=>
 .run 2 [rng .i64 ((k:Int)+1)] ⟨Qah,trivial⟩<|
 .bk L1 (k,V) ((k+1),V) (show (k+1)≤cs.length from (by show _≤_;omega)) (show cs.length-(k+1)<cs.length-k from (by omega)) [(28,aI ((k:Int)+1))] [(8,.box b5 25 [.rw 100 V ((Qas s.l (s.stamp+1) cs k).length),.sl 2 false (s.nexts.map cntA),aI (s.stamp+1)]),(100,.row V 98 2 (((Qas s.l (s.stamp+1) cs k).map chnA).set (Qao (Qas s.l (s.stamp+1) cs k) x1.ino) ((chnA x3).take 1++[AV.sl 7 false (((Qb9 x3.l (s.stamp+1))++[(Qal x1 (s.stamp+1))]).map verA)]++(chnA x3).drop (1+[AV.sl 7 false (((Qb9 x3.l (s.stamp+1))++[(Qal x1 (s.stamp+1))]).map verA)].length))))] ⟨sR,sR,sR,sR,sR,sR,sR,sO,trivial⟩ ⟨sB,sB,⟨_,rfl,W2u ⟨W2p (W1z (AV.rw 100 V) (by rw [Qct hx1,Qoe q2])),sR,sR,trivial⟩⟩,⟨_,rfl,W2q (W1z (Bx.row V 98 2) (by rw [Qct hx1];exact Ql6 q2 hx3 _ rfl))⟩,trivial⟩)
 <| fun q4=>have p4:=decF q4;.r 8<|.st (rowR 100) (V,98,2,(Qas s.l (s.stamp+1) cs k).map chnA) (fun _ σ=>σ) (Qcd 100 (by first | exact Qa6 (by assumption) | exact Qbj _ _ _ | (rw [W0a];first | exact Qa6 (by assumption) | exact Qbj _ _ _ | exact W03 (W0j _) (Qa6 (by assumption)) | exact W03 (W0j _) (Qbj _ _ _)))) fun a12r=>
 .ord [0,1,2,3,4,5,6,7,8,9,10,11,12]<|.u 6 [b5]<|
 .lm 78 x3.l verA<|.u 2 [b6]<|
 .call (Qfu x1 (s.stamp+1))<|
 .cs (args0:=[.sl 7 false (x3.l.map verA),aI (x3.l.length:Int),.agg [aI ((Qal x1 (s.stamp+1)).stamp),aB ((Qal x1 (s.stamp+1)).gone),aI ((Qal x1 (s.stamp+1)).n.ino),aI ((Qal x1 (s.stamp+1)).n.kind),aI ((Qal x1 (s.stamp+1)).n.links),aS ((Qal x1 (s.stamp+1)).n.text),.sl 2 false ((Qal x1 (s.stamp+1)).n.l.map entA)]]) (Qj5 (Qb9 x3.l (s.stamp+1)) (Qal x1 (s.stamp+1)) (by have:=Qo7 x3.l (s.stamp+1);have:=Qdy (st:=s.stamp+1) (cs:=cs) hv k (by omega) x3 (W0h hx3);omega)) ⟨W2p (by rw [show Qb9 x3.l (s.stamp+1)=x3.l from by rw [show x3.l=[] from W0l (by omega)];rfl]),W2p (W1z aI (by rw [show Qb9 x3.l (s.stamp+1)=x3.l from by rw [show x3.l=[] from W0l (by omega)];rfl])),sR,trivial⟩<|
 .op (ixR prog) (100,V,(Qas s.l (s.stamp+1) cs k).length,2,(Qao (Qas s.l (s.stamp+1) cs k) x1.ino:Int),some 83) (fun (_:Unit) σ=>σ.put (some 83) (.ep 100 V 2 (Qao (Qas s.l (s.stamp+1) cs k) x1.ino) 0)) (Qfy (Qao (Qas s.l (s.stamp+1) cs k) x1.ino) a12r.2.1 (by omega) (by first | exact Qa6 (by assumption) | exact Qbj _ _ _ | (rw [W0a];first | exact Qa6 (by assumption) | exact Qbj _ _ _ | exact W03 (W0j _) (Qa6 (by assumption)) | exact W03 (W0j _) (Qbj _ _ _)))) fun _=>
 .op (fdR prog) (100,V,2,Qao (Qas s.l (s.stamp+1) cs k) x1.ino,0,1,some 84) (fun (_:Unit) σ=>σ.put (some 84) (.ep 100 V 2 (Qao (Qas s.l (s.stamp+1) cs k) x1.ino) 1)) (Qix) fun _=>
 .op (stR prog) (100,V,2,Qao (Qas s.l (s.stamp+1) cs k) x1.ino,1,V,98,2,(Qas s.l (s.stamp+1) cs k).map chnA,[AV.sl 7 false (((Qb9 x3.l (s.stamp+1))++[(Qal x1 (s.stamp+1))]).map verA)],none) (fun (_:Unit) σ=>(σ.put (none) .any).setB 100 (.row V 98 2 (((Qas s.l (s.stamp+1) cs k).map chnA).set (Qao (Qas s.l (s.stamp+1) cs k) x1.ino) ((chnA x3).take 1++[AV.sl 7 false (((Qb9 x3.l (s.stamp+1))++[(Qal x1 (s.stamp+1))]).map verA)]++(chnA x3).drop (1+[AV.sl 7 false (((Qb9 x3.l (s.stamp+1))++[(Qal x1 (s.stamp+1))]).map verA)].length))))) (Qke (chnA x3) (map_some hx3) (W06 rfl)) fun _=>
 .run 2 [rng .i64 ((k:Int)+1)] ⟨Qah,trivial⟩<|
 .bk L1 (k,V) ((k+1),V) (show (k+1)≤cs.length from (by show _≤_;omega)) (show cs.length-(k+1)<cs.length-k from (by omega)) [(28,aI ((k:Int)+1))] [(8,.box b5 25 [.rw 100 V ((Qas s.l (s.stamp+1) cs k).length),.sl 2 false (s.nexts.map cntA),aI (s.stamp+1)]),(100,.row V 98 2 (((Qas s.l (s.stamp+1) cs k).map chnA).set (Qao (Qas s.l (s.stamp+1) cs k) x1.ino) ((chnA x3).take 1++[AV.sl 7 false (((Qb9 x3.l (s.stamp+1))++[(Qal x1 (s.stamp+1))]).map verA)]++(chnA x3).drop (1+[AV.sl 7 false (((Qb9 x3.l (s.stamp+1))++[(Qal x1 (s.stamp+1))]).map verA)].length))))] ⟨sR,sR,sR,sR,sR,sR,sR,sO,trivial⟩ ⟨sB,sB,⟨_,rfl,W2u ⟨W2p (W1z (AV.rw 100 V) (by rw [Qct hx1,Qoe q2])),sR,sR,trivial⟩⟩,⟨_,rfl,W2q (W1z (Bx.row V 98 2) (by rw [Qct hx1];exact Ql6 q2 hx3 _ rfl))⟩,trivial⟩)
 <| fun q1=>have p1:=decF q1;.u 3 [b1]<|
 .lm 88 s.nexts cntA<|.run 2 [rng .i64 ((s.nexts.length:Int)-1)] ⟨Qah,trivial⟩<|
 .r 3<|.br 92 (decide (((s.nexts.length:Int)-1)<0)) (fun q6=>have p6:=decT q6;.r 9<|.u 5 [b1,b1]<|
 .lm 106 s.nexts cntA<|.r 3<|.call (Qs9 s.nexts (⟨s.stamp+1,next⟩:Cnt) (by omega))<|
 .u 2 [b5]<|
 .u 2 [b5,b2]<|
 .frz 100 [6] [6] [V=V,(Qas s.l (s.stamp+1) cs k).length=((Qas s.l (s.stamp+1) cs k).map chnA).length] ⟨rfl,(by first | rfl | (simp;done) | (simp;omega)),trivial⟩<|
 .f (.agg (stoA (Qcy s cs next))) [b2] (.agg [.sl 2 false ((Qas s.l (s.stamp+1) cs k).map chnA),.sl 2 false ((s.nexts++[(⟨s.stamp+1,next⟩:Cnt)]).map cntA),aI (s.stamp+1)]) (by
  obtain rfl:k=cs.length:=by omega
  refine W2p ?_;rw [show stoA (Qcy s cs next)=stoA ⟨Qas s.l (s.stamp+1) cs cs.length,Qc5 s next,s.stamp+1⟩ from rfl,Zb1 (by omega)];rfl))
 <| fun q6=>have p6:=decF q6;.u 4 [b1]<|
 .idxM s.nexts cntA (s.nexts.length-1) (m:=(s.nexts.length:Int)-1) (by omega) (by omega) fun x5 hx5=>
 .r 4<|.br 101 (decide (next>x5.next)) (fun q7=>have p7:=decT q7;.u 5 [b1,b1]<|
 .lm 106 s.nexts cntA<|.r 3<|.call (Qs9 s.nexts (⟨s.stamp+1,next⟩:Cnt) (by omega))<|
 .u 2 [b5]<|
 .u 2 [b5,b2]<|
 .frz 100 [6] [6] [V=V,(Qas s.l (s.stamp+1) cs k).length=((Qas s.l (s.stamp+1) cs k).map chnA).length] ⟨rfl,(by first | rfl | (simp;done) | (simp;omega)),trivial⟩<|
 .f (.agg (stoA (Qcy s cs next))) [b2] (.agg [.sl 2 false ((Qas s.l (s.stamp+1) cs k).map chnA),.sl 2 false ((s.nexts++[(⟨s.stamp+1,next⟩:Cnt)]).map cntA),aI (s.stamp+1)]) (by
  obtain rfl:k=cs.length:=by omega
  refine W2p ?_;rw [show stoA (Qcy s cs next)=stoA ⟨Qas s.l (s.stamp+1) cs cs.length,Qc5 s next,s.stamp+1⟩ from rfl,Qn6 hx5 (by assumption)];rfl))
 <| fun q7=>have p7:=decF q7;.u 2 [b5,b2]<|
 .frz 100 [6] [6] [V=V,(Qas s.l (s.stamp+1) cs k).length=((Qas s.l (s.stamp+1) cs k).map chnA).length] ⟨rfl,(by first | rfl | (simp;done) | (simp;omega)),trivial⟩<|
 .f (.agg (stoA (Qcy s cs next))) [b2] (.agg [.sl 2 false ((Qas s.l (s.stamp+1) cs k).map chnA),.sl 2 false (s.nexts.map cntA),aI (s.stamp+1)]) (by
  obtain rfl:k=cs.length:=by omega
  refine W2p ?_;rw [show stoA (Qcy s cs next)=stoA ⟨Qas s.l (s.stamp+1) cs cs.length,Qc5 s next,s.stamp+1⟩ from rfl,Qy9 hx5 (by assumption)];rfl)) a1.1 a1.2 ha1) j1.1 j1.2)
def nodG (c:Chg):Nod:=⟨c.ino,c.n.kind,c.n.links,c.n.text,c.n.l⟩
def OkCh (c:Chg):Prop:=I64 c.ino∧OkN c.n
theorem Zli {r:List Ver} {st:Int}:∀ v∈Qb9 r st,v∈r:=by
 intro v hv;unfold Qb9 at hv
 split at hv
 ·split at hv
  ·exact W14 hv
  ·exact hv
 ·exact hv
theorem Znp {P:Chn→Prop} {l:List Chn} {st n:Int} {v:Ver} (hl:∀ c∈l,P c) (h1:P ⟨n,[v]⟩) (h2:∀ d∈l,P ⟨d.ino,Qb9 d.l st++[v]⟩):∀ c∈putC l st n v,P c:=by
 intro c hc;unfold putC at hc
 split at hc
 ·split at hc
  ·rename_i d hd;rcases List.mem_or_eq_of_mem_set hc with hc | rfl
   ·exact hl c hc
   ·exact h2 d (W0h hd)
  ·exact hl c hc
 ·rcases W05.1 hc with hc | hc
  ·exact hl c (W14 hc)
  ·rcases W0y.1 hc with rfl | hc
   ·exact h1
   ·exact hl c (W2e hc)
def Qpj (l:List Chn) (st:Int) (cs:List Chg):List Chn:=cs.foldl (fun l c=>putC l st c.ino (Qal c st)) l
theorem Qr1 (l:List Chn) (st:Int) (cs:List Chg):Qas l st cs cs.length=Qpj l st cs:=by unfold Qas Qpj;rw [W13]
theorem Qol {P:Chn→Prop} {st:Int}:∀ {cs:List Chg} {l:List Chn},(∀ c∈l,P c)→(∀ c∈cs,P ⟨c.ino,[Qal c st]⟩)→(∀ c∈cs,∀ d,P d→P ⟨d.ino,Qb9 d.l st++[Qal c st]⟩)→∀ c∈Qpj l st cs,P c
 | [],l,hl,_,_=>hl
 | x :: r,l,hl,h1,h2=>Qol (cs:=r) (l:=putC l st x.ino (Qal x st)) (Znp hl (h1 x (List.mem_cons_self ..)) (fun d hd=>h2 x (List.mem_cons_self ..) d (hl d hd))) (fun c hc=>h1 c (W12 _ hc)) (fun c hc=>h2 c (W12 _ hc))
theorem Qca (c:Chg) (st:Int):(Qal c st).stamp=st:=by unfold Qal;split<;>rfl
theorem Qnc {c:Chg} {st:Int} (h:OkCh c) (hs:I64 st):OkV (Qal c st):=by
 unfold Qal
 split
 ·exact ⟨hs,Qlr⟩
 ·exact ⟨hs,h.1,h.2.2⟩
def OkD (c:Chn):Prop:=I64 c.ino∧∀ v∈c.l,OkV v
theorem Zj7 {l:List Chn} {st:Int} {cs:List Chg} (hs:I64 st) (hl:∀ c∈l,OkD c) (hc:∀ c∈cs,OkCh c):∀ c∈Qpj l st cs,OkD c:=
 Qol hl (fun c h=>⟨(hc c h).1,fun v hv=>by obtain rfl:=W0z.1 hv;exact Qnc (hc c h) hs⟩)
  (fun c h d hd=>⟨hd.1,fun v hv=>by
   rcases W05.1 hv with hv | hv
   ·exact hd.2 v (Zli v hv)
   ·obtain rfl:=W0z.1 hv;exact Qnc (hc c h) hs⟩)
theorem Zfg {s:Sto} {next:Int} (oks:OkS s) (hn:I64 next) (hs:I64 (s.stamp+1)):∀ c∈Qc5 s next,OkK c:=by
 have key:∀ c∈s.nexts++[(⟨s.stamp+1,next⟩:Cnt)],OkK c:=fun c hc=>by
  rcases W05.1 hc with hc | hc
  ·exact oks.2.2.2.2 c hc
  ·obtain rfl:=W0z.1 hc;exact ⟨hs,hn⟩
 intro c hc;unfold Qc5 at hc
 split at hc
 ·split at hc
  ·exact key c hc
  ·exact oks.2.2.2.2 c hc
 ·exact key c hc
theorem Zb2 (s:Sto) (next:Int):(Qc5 s next).length≤s.nexts.length+1:=by
 unfold Qc5
 split
 ·split
  ·simp
  ·omega
 ·simp
structure Fit (s:Sto) (B:Nat):Prop where
 ok:OkS s
 l:s.l.length≤B
 n:s.nexts.length≤B
 r:∀ c∈s.l,c.l.length≤B
theorem Fit.inst {s:Sto} {B:Nat} {cs:List Chg} {next:Int} (h:Fit s B) (hc:∀ c∈cs,OkCh c) (hn:I64 next) (hs:s.stamp<9223372036854775807) (hB:B+1+cs.length≤100000):Fit (Qcy s cs next) (B+1+cs.length):=by
 have hst:I64 (s.stamp+1):=⟨by have:=h.ok.1.1;omega,by omega⟩
 have h1:=Qgx s.l (s.stamp+1) cs cs.length;have h2:=Qdy (st:=s.stamp+1) (cs:=cs) h.r cs.length (W0m _);have h3:=Zb2 s next
 have h4:∀ c∈Qas s.l (s.stamp+1) cs cs.length,OkD c:=by
  rw [Qr1];exact Zj7 hst (fun c hc=>⟨(h.ok.2.2.2.1 c hc).1,(h.ok.2.2.2.1 c hc).2.2⟩) hc
 have hl:=h.l;have hn2:=h.n;refine ⟨⟨hst,?_,?_,fun c hc=>⟨(h4 c hc).1,?_,(h4 c hc).2⟩,Zfg h.ok hn hst⟩,?_,?_,fun c hc=>?_⟩
 ·show (Qas s.l (s.stamp+1) cs cs.length).length≤_;omega
 ·show (Qc5 s next).length≤_;omega
 ·have:=h2 c hc;omega
 ·show (Qas s.l (s.stamp+1) cs cs.length).length≤_;omega
 ·show (Qc5 s next).length≤_;omega
 ·have:=h2 c hc;omega
theorem Qxr {s:Sto} (oks:OkS s) (h:few s):Fit s 200:=by
 obtain ⟨h1,h2,h3⟩:=Qz1 h;refine ⟨oks,h1,h2,fun c hc=>?_⟩;have:c.l.length≤(s.l.map (fun c=>c.l.length)).sum:=by
  clear h h1 h2 h3
  revert hc
  generalize s.l=l;intro hc
  induction l with
  | nil=>cases hc
  | cons d r ih=>
   simp only [W1u,List.sum_cons];rcases W0y.1 hc with rfl | hc
   ·omega
   ·have:=ih hc;omega
 unfold Zn3 at h3;omega
structure Abs where
 ino:Int
 last:Option (Bool × Nod)
 later:Bool
theorem Qrr {s:Sto} {b:Int} (h:∀ c∈s.nexts,c.stamp≤b):Qf8 s b=match s.nexts[s.nexts.length-1]? with | some c=>c.next | none=>1:=by
 unfold Qf8 atD;rw [Qso (f:=Cnt.stamp) h (W1s b)];by_cases h0:s.nexts.length=0
 ·rw [W1y h0,W0l h0];rfl
 ·rw [W1x h0];cases s.nexts[s.nexts.length-1]?<;>rfl
theorem Qtk {s:Sto} (hp:Qb7 s):∀ c∈s.l,∀ v∈c.l,v.stamp≤s.stamp:=fun c hc v hv=>by
 obtain ⟨k,hk⟩:=W0w hc;obtain ⟨j,hj⟩:=W0w hv;exact ((hp.2.2.2.at hk).1.2.1.2.at hj).2.1
theorem Quc {s:Sto} (hp:Qb7 s):∀ c∈s.nexts,1≤c.next:=fun c hc=>by
 obtain ⟨k,hk⟩:=W0w hc;exact hp.2.2.1.at hk
theorem Qv5 {st n:Int} {r:List Ver} {v:Ver} (hv:v.stamp>st):Qbz st ⟨n,r++[v]⟩=Qbz st ⟨n,r⟩:=by
 have e:∀ r:List Ver,cutV Ver.stamp st (r++[v])=cutV Ver.stamp st r:=by
  intro r
  induction r with
  | nil=>show (if cutV Ver.stamp st []=0 then (if v.stamp≤st then 1 else 0) else _)=0;simp only [cutV,if_true];rw [W1x (by omega)]
  | cons x r ih=>simp only [List.cons_append,cutV,ih]
 unfold Qbz atD;rw [e];have h1:=Qg0 Ver.stamp st r;by_cases h0:cutV Ver.stamp st r=0
 ·rw [W1y h0,W1y h0]
 ·rw [W1x h0,W1x h0,W0o (by omega)]
theorem Zh2 {r:List Ver} {st:Int} (h:∀ v∈r,v.stamp<st):Qb9 r st=r:=by
 unfold Qb9
 split
 ·rename_i v hv;have:=h v (W0h hv);rw [W1x (by omega)]
 ·rfl
def Qht (l:List Chn):Prop:=l.Pairwise fun c d=>c.ino<d.ino
theorem Qnr {s:Sto} (hp:Qb7 s):Qht s.l:=by
 have h:=hp.2.2.2;have key:∀ (i j:Nat) (c d:Chn),i<j→s.l[i]?=some c→s.l[j]?=some d→c.ino<d.ino:=by
  intro i j
  induction j with
  | zero=>intro c d h;omega
  | succ j ih=>
   intro c d hij hc hd;obtain ⟨e,he⟩:=Qdt (l:=s.l) (k:=j) (by have:=Qap hd;omega);have h1:=(h.at hd).2 e (by omega) (by simpa using he);rcases Nat.lt_or_ge i j with hij' | hij'
   ·have:=ih c e hij' hc he;omega
   ·obtain rfl:i=j:=by omega
    rw [hc] at he;obtain rfl:=W0c he;exact h1
 unfold Qht;rw [W1d];intro i j hi hj hij;exact key i j _ _ hij (W0d hi) (W0d hj)
theorem Qxv {n:Int}:∀ {l:List Chn},Qht l→Qcj l n=false→∀ c∈l,c.ino ≠ n
 | [],_,_,c,hc=>by cases hc
 | x :: r,hr,ht,c,hc=>by
  obtain ⟨h1,h2⟩:=W1l.1 hr;by_cases hx:x.ino<n
  ·have e:Qao (x :: r) n=Qao r n+1:=by unfold Qao;simp [hx]
   have ht':Qcj r n=false:=by
    unfold Qcj at ht ⊢;rw [e] at ht;simpa using ht
   rcases W0y.1 hc with rfl | hc
   ·omega
   ·exact Qxv h2 ht' c hc
  ·have e:Qao (x :: r) n=0:=by unfold Qao;simp [hx]
   have hne:x.ino ≠ n:=by
    unfold Qcj at ht;rw [e] at ht;simpa using ht
   rcases W0y.1 hc with rfl | hc
   ·exact hne
   ·have:=h1 c hc;omega
end Go.Proofs.YtahlldgocpabjaaGreat
