import Derived.Test.YtkhodpknpligpaaGreatAl
import Derived.Test.YtkhodpknpligpaaGreatMrgX
set_option maxRecDepth 100000
set_option maxHeartbeats 8000000
set_option linter.unusedVariables false
set_option linter.unusedSimpArgs false
namespace Go.Proofs.YtkhodpknpligpaaGreat
open Go Go.RowKit Copyhold Go.Proofs.Tryz
theorem Qio (l:List Ver) (c:Ver) (hn:l.length≤100000):Qag prog 215 [.sl 7 false (l.map verA),aI (l.length:Int),.agg (verA c)] (.sl 7 false ((l++[c]).map verA)):=by
 have h:=Qyc l l.length c (W0m _) hn;rw [W12,List.drop_length] at h;exact h
theorem Qq8 (l:List Cnt) (c:Cnt) (hn:l.length≤100000):Qag prog 217 [.sl 2 false (l.map cntA),aI (l.length:Int),.agg (cntA c)] (.sl 2 false ((l++[c]).map cntA)):=by
 have h:=Qyd l l.length c (W0m _) hn;rw [W12,List.drop_length] at h;exact h
theorem ins_at {α:Type} {l:List α} {i:Nat} {c x:α} (hi:i≤l.length) (h:(l.take i++c :: l.drop i)[i]?=some x):x=c:=by
 rw [W0n (by rw [W0g];omega),W0g,Nat.min_eq_left hi,Nat.sub_self] at h;exact (W0c h).symm
theorem Zle {α:Type} {l:List α} {i:Nat} {c d:α} (hi:i≤l.length):(l.take i++c :: l.drop i).set i d=l.take i++d :: l.drop i:=by
 rw [List.set_append_right _ _ (by rw [W0g];omega),W0g,Nat.min_eq_left hi,Nat.sub_self];rfl
def Qc3 (s:Sto) (next:Int):List Cnt:=match s.nexts[s.nexts.length-1]? with
 | some c=>if next>c.next then s.nexts++[⟨s.stamp+1,next⟩] else s.nexts
 | none=>s.nexts++[⟨s.stamp+1,next⟩]
theorem Qzc {s:Sto} {next:Int} (h:s.nexts.length=0):Qc3 s next=s.nexts++[⟨s.stamp+1,next⟩]:=by
 unfold Qc3;rw [W0l h];rfl
theorem Zcl {s:Sto} {next:Int} {c:Cnt} (h:s.nexts[s.nexts.length-1]?=some c) (e:next>c.next):Qc3 s next=s.nexts++[⟨s.stamp+1,next⟩]:=by
 unfold Qc3;rw [h];exact W1x e
theorem Zhv {s:Sto} {next:Int} {c:Cnt} (h:s.nexts[s.nexts.length-1]?=some c) (e:¬ next>c.next):Qc3 s next=s.nexts:=by
 unfold Qc3;rw [h];exact W1w e
def Qea (s:Sto) (cs:List Chg) (next:Int):Sto:=⟨Qao s.l (s.stamp+1) cs cs.length,Qc3 s next,s.stamp+1⟩
theorem Zbz {l:List Chn} {st n:Int} {v:Ver} {B:Nat} (h:∀ c∈l,c.l.length≤B):∀ c∈putC l st n v,c.l.length≤B+1:=by
 intro c hc;unfold putC at hc
 split at hc
 ·split at hc
  ·rename_i d hd;rcases List.mem_or_eq_of_mem_set hc with hc | rfl
   ·have:=h c hc;omega
   ·have h1:=h d (W0h hd);have h2:=Qno d.l st;simp only [W0e,List.length_singleton];omega
  ·have:=h c hc;omega
 ·rcases W04.1 hc with hc | hc
  ·have:=h c (W13 hc);omega
  ·rcases W0y.1 hc with rfl | hc
   ·simp
   ·have:=h c (W2d hc);omega
theorem Qeo {l:List Chn} {st:Int} {cs:List Chg} {B:Nat} (h:∀ c∈l,c.l.length≤B):∀ k,k≤cs.length→∀ c∈Qao l st cs k,c.l.length≤B+k
 | 0,_=>by simpa [Qao] using h
 | k+1,hk=>by
  obtain ⟨c,hc⟩:=Qdk (l:=cs) (k:=k) (by omega);rw [Qcu hc];exact Zbz (Qeo h k (by omega))
theorem Qa7 (l:List Chn) (n:Int) (c:Chn):Qam l n<(l.take (Qam l n)++c :: l.drop (Qam l n)).length:=by
 have:=Qi0 l n;simp only [W0e,W0g,W0b,W0p];omega
theorem Qkc {l:List Chn} {st n:Int} {v:Ver} {c:Chn} (h:Qcn l n=true) (hc:l[Qam l n]?=some c) (b:List Ver) (hb:b=Qbt c.l st):((l.map chnA).set (Qam l n) ((chnA c).take 1++[AV.sl 7 false ((b++[v]).map verA)]++(chnA c).drop (1+1)))=(putC l st n v).map chnA:=by
 rw [Qhl h hc,List.map_set,hb];rfl
theorem Zfp {l:List Chn} {st n:Int} {v:Ver} {c:Chn} (h:Qcn l n=false) (hc:c=⟨n,[]⟩) (b:List Ver) (hb:b=Qbt c.l st):(((l.take (Qam l n)++(⟨n,[]⟩:Chn) :: l.drop (Qam l n)).map chnA).set (Qam l n) ((chnA c).take 1++[AV.sl 7 false ((b++[v]).map verA)]++(chnA c).drop (1+1)))=(putC l st n v).map chnA:=by
 subst hc;rw [Qlh h,hb,Zjl];have h2:=W1y (List.map chnA) (Zle (d:=(⟨n,[v]⟩:Chn)) (c:=(⟨n,[]⟩:Chn)) (Qi0 l n));rw [List.map_set] at h2;exact h2
theorem Qms {l:List Chn} {st n:Int} {v:Ver} (h:Qcn l n=true):(putC l st n v).length=l.length:=by
 obtain ⟨c,hc,_⟩:=Qg9 h;rw [Qhl h hc,List.length_set]
theorem Zh0 {l:List Chn} {st n:Int} {v:Ver} (h:Qcn l n=false):(putC l st n v).length=(l.take (Qam l n)++(⟨n,[]⟩:Chn) :: l.drop (Qam l n)).length:=by
 rw [Qlh h];simp
theorem Qsh (s:Sto) (cs:List Chg) (next:Int) (oks:OkS s) (hf:s.l.length≤5000) (hc:cs.length≤5000) (hnx:s.nexts.length≤5000) (hv:∀ c∈s.l,c.l.length≤5000) (hs:s.stamp<1152921504606847976):Qag prog 171 [.agg (stoA s),.sl 7 false (cs.map chgA),aI next] (.agg (stoA (Qea s cs next))):=by
 have ok1:=oks.1.1;exact Qac func171 (
 .new fun b1=>.new fun b2=>.run 4 [b1=b1,rng .i64 (s.stamp+1)] ⟨rfl,Qal,trivial⟩<|
 let J1:Jn (Nat × Value):=⟨fun j1=>⟨[(1,.sl 7 false (cs.map chgA)),(2,aI next),(3,.ptr 3 b1 0),(6,.ptr 6 b2 0),(7,aI (s.stamp+1)),(8,.ptr 8 j1.1 0)],[(3,.box b1 25 (stoA s)),(6,.box b2 25 [aN,aN,aI 0]),(100,.row j1.2 82 2 (s.l.map chnA)),(8,.box j1.1 25 [.rw 100 j1.2 ((s.l.map chnA).length),.sl 2 false (s.nexts.map cntA),aI (s.stamp+1)])]⟩,fun _=>True⟩
 .cut J1 (.pick [0,1,3,4,5]<|.u 5 [b1,b1]<|
 .fork<|.alt (.op (crR prog 100) (212,[.sl 2 false (s.l.map chnA)],21) (fun (V:Value) σ=>(σ.put (some 21) (.rw 100 V (s.l.map chnA).length)).setB 100 (.row V 82 2 (s.l.map chnA))) (Qgh (args':=[.sl 2 false (s.l.map chnA)]) sr1 (Qo5 (s.l.map chnA) (by rw [W0a];omega) (fun l h=>by obtain ⟨z,_,rfl⟩:=W1i.1 h;rfl))) fun V1=>
 .pick [6,7,8]<|.r 1<|.new fun b3=>.u 1 [b3]<|
 .jo J1 (b3,V1) [] [] sr6 bb4)
 <| .new fun b4=>.pick [2,6,8]<|.op (crR prog 100) (212,[.sl 2 false (s.l.map chnA)],21) (fun (V:Value) σ=>(σ.put (some 21) (.rw 100 V (s.l.map chnA).length)).setB 100 (.row V 82 2 (s.l.map chnA))) (Qgh (args':=[.sl 2 false (s.l.map chnA)]) sr1 (Qo5 (s.l.map chnA) (by rw [W0a];omega) (fun l h=>by obtain ⟨z,_,rfl⟩:=W1i.1 h;rfl))) fun V2=>
 .u 2 [b4]<|
 .jo J1 (b4,V2) [] [] sr6 bb4)
 <| fun j1 _=>(fun (b5:Nat) (V3:Value)=>.r 2<|.lm 27 cs chgA<|.r 1<|let L1:Lp (Nat × Value):=⟨fun a1=>⟨[(2,aI next),(3,.ptr 3 b1 0),(6,.ptr 6 b2 0),(7,aI (s.stamp+1)),(8,.ptr 8 b5 0),(26,.sl 7 false (cs.map chgA)),(27,aI (cs.length:Int)),(28,aI (a1.1:Int))],[(3,.box b1 25 (stoA s)),(6,.box b2 25 [aN,aN,aI 0]),(8,.box b5 25 [.rw 100 a1.2 ((Qao s.l (s.stamp+1) cs a1.1).length),.sl 2 false (s.nexts.map cntA),aI (s.stamp+1)]),(100,.row a1.2 82 2 ((Qao s.l (s.stamp+1) cs a1.1).map chnA))]⟩,fun a1=>cs.length-a1.1,fun a1=>a1.1≤cs.length⟩
 .lp L1 (0,V3) (show 0≤cs.length from W0j _) [(28,aI 0)] [(8,.box b5 25 [.rw 100 V3 ((s.l.map chnA).length),.sl 2 false (s.nexts.map cntA),aI (s.stamp+1)]),(100,.row V3 82 2 (s.l.map chnA))] ⟨sR,sR,sR,sR,sR,sR,sR,sO,trivial⟩ ⟨sB,sB,⟨_,rfl,W2s ⟨W2n (W1y (AV.rw 100 V3) (by simp [Qao])),sR,sR,trivial⟩⟩,⟨_,rfl,W2o rfl⟩,trivial⟩ fun a1 ha1=>
 (fun (k:Nat) (V:Value) (hH1:k≤cs.length)=>.r 1<|.br 29 (decide ((k:Int)<(cs.length:Int))) (fun q1=>have p1:=decT q1;.idxM cs chgA k (m:=(k:Int)) rfl (by omega) fun x1 hx1=>
 .r 1<|.new fun b6=>.u 1 [b6]<|
 .u 4 [b5,b6]<|
 .op (cbR prog 100) ((213,[.rw 100 V ((Qao s.l (s.stamp+1) cs k).length),aI x1.ino],some 37),(V,82,2,(Qao s.l (s.stamp+1) cs k).map chnA)) (fun (_:Unit) σ=>σ.put (some 37) (.tup [aI (Qam (Qao s.l (s.stamp+1) cs k) x1.ino:Int),aB (Qcn (Qao s.l (s.stamp+1) cs k) x1.ino)])) (Qpo (args':=[.sl 2 false ((Qao s.l (s.stamp+1) cs k).map chnA),aI x1.ino]) ⟨Fz.row _ _ _ _ _ _ (by first | rfl | (simp;done) | (simp;omega)),Fz.refl _ _,trivial⟩ (Qub (Qao s.l (s.stamp+1) cs k) x1.ino (by have:=Qjd s.l (s.stamp+1) cs k;omega)) rfl) fun _=>
 .r 5<|.r 2<|.br 41 (!(Qcn (Qao s.l (s.stamp+1) cs k) x1.ino)) (fun q2=>have q2:=notT q2;have p2:=booF q2;.frz 100 [2,3,6,7,8,10,11,12,26,27,28,29,30,31,32,33,34,35,36,37,38,39,40,41] [3,6,8,10] [V=V,(Qao s.l (s.stamp+1) cs k).length=((Qao s.l (s.stamp+1) cs k).map chnA).length,V=V,(Qao s.l (s.stamp+1) cs k).length=((Qao s.l (s.stamp+1) cs k).map chnA).length] ⟨rfl,(by first | rfl | (simp;done) | (simp;omega)),rfl,(by first | rfl | (simp;done) | (simp;omega)),trivial⟩<|
 .u 6 [b5,b6]<|
 .op (crR prog 100) (214,[.sl 2 false ((Qao s.l (s.stamp+1) cs k).map chnA),aI (Qam (Qao s.l (s.stamp+1) cs k) x1.ino:Int),.agg [aI x1.ino,aN]],48) (fun (V:Value) σ=>(σ.put (some 48) (.rw 100 V (((Qao s.l (s.stamp+1) cs k).take (Qam (Qao s.l (s.stamp+1) cs k) x1.ino)++(⟨x1.ino,[]⟩:Chn) :: (Qao s.l (s.stamp+1) cs k).drop (Qam (Qao s.l (s.stamp+1) cs k) x1.ino)).map chnA).length)).setB 100 (.row V 82 2 (((Qao s.l (s.stamp+1) cs k).take (Qam (Qao s.l (s.stamp+1) cs k) x1.ino)++(⟨x1.ino,[]⟩:Chn) :: (Qao s.l (s.stamp+1) cs k).drop (Qam (Qao s.l (s.stamp+1) cs k) x1.ino)).map chnA))) (Qgh (args':=[.sl 2 false ((Qao s.l (s.stamp+1) cs k).map chnA),aI (Qam (Qao s.l (s.stamp+1) cs k) x1.ino:Int),.agg [aI ((⟨x1.ino,[]⟩:Chn).ino),.sl 7 false ((⟨x1.ino,[]⟩:Chn).l.map verA)]]) ⟨sR,sR,W2r ⟨sR,Sub.nil _ _,trivial⟩,trivial⟩ (Zan (Qao s.l (s.stamp+1) cs k) (Qam (Qao s.l (s.stamp+1) cs k) x1.ino) (⟨x1.ino,[]⟩:Chn) (Qi0 _ _) (by have:=Qjd s.l (s.stamp+1) cs k;omega))) fun V4=>
 .u 2 [b5]<|
 .st (rowR 100) (V4,82,2,((Qao s.l (s.stamp+1) cs k).take (Qam (Qao s.l (s.stamp+1) cs k) x1.ino)++(⟨x1.ino,[]⟩:Chn) :: (Qao s.l (s.stamp+1) cs k).drop (Qam (Qao s.l (s.stamp+1) cs k) x1.ino)).map chnA) (fun _ σ=>σ) (Qb0 100 (by first | exact Qa1 (by assumption) | exact Qa7 _ _ _ | (rw [W0a];first | exact Qa1 (by assumption) | exact Qa7 _ _ _ | exact W03 (W0j _) (Qa1 (by assumption)) | exact W03 (W0j _) (Qa7 _ _ _)))) fun a7r=>
 .u 3 [b5]<|
 .op (ixR prog) (100,V4,(((Qao s.l (s.stamp+1) cs k).take (Qam (Qao s.l (s.stamp+1) cs k) x1.ino)++(⟨x1.ino,[]⟩:Chn) :: (Qao s.l (s.stamp+1) cs k).drop (Qam (Qao s.l (s.stamp+1) cs k) x1.ino)).map chnA).length,2,(Qam (Qao s.l (s.stamp+1) cs k) x1.ino:Int),some 53) (fun (_:Unit) σ=>σ.put (some 53) (.ep 100 V4 2 (Qam (Qao s.l (s.stamp+1) cs k) x1.ino) 0)) (Qft (Qam (Qao s.l (s.stamp+1) cs k) x1.ino) a7r.2.1 (by omega) (by first | exact Qa1 (by assumption) | exact Qa7 _ _ _ | (rw [W0a];first | exact Qa1 (by assumption) | exact Qa7 _ _ _ | exact W03 (W0j _) (Qa1 (by assumption)) | exact W03 (W0j _) (Qa7 _ _ _)))) fun _=>
 .ex (Qdk (l:=((Qao s.l (s.stamp+1) cs k).take (Qam (Qao s.l (s.stamp+1) cs k) x1.ino)++(⟨x1.ino,[]⟩:Chn) :: (Qao s.l (s.stamp+1) cs k).drop (Qam (Qao s.l (s.stamp+1) cs k) x1.ino))) (k:=Qam (Qao s.l (s.stamp+1) cs k) x1.ino) (by first | exact Qa1 (by assumption) | exact Qa7 _ _ _ | (rw [W0a];first | exact Qa1 (by assumption) | exact Qa7 _ _ _ | exact W03 (W0j _) (Qa1 (by assumption)) | exact W03 (W0j _) (Qa7 _ _ _)))) fun x2 hx2=>
 have ex2:=ins_at (Qi0 _ _) hx2;have zx2:x2.l.length=0:=(by rw [ex2];rfl);.op (fdR prog) (100,V4,2,Qam (Qao s.l (s.stamp+1) cs k) x1.ino,0,1,some 54) (fun (_:Unit) σ=>σ.put (some 54) (.ep 100 V4 2 (Qam (Qao s.l (s.stamp+1) cs k) x1.ino) 1)) (Qhd) fun _=>
 .op (ldR prog) (V4,2,Qam (Qao s.l (s.stamp+1) cs k) x1.ino,1,V4,2,((Qao s.l (s.stamp+1) cs k).take (Qam (Qao s.l (s.stamp+1) cs k) x1.ino)++(⟨x1.ino,[]⟩:Chn) :: (Qao s.l (s.stamp+1) cs k).drop (Qam (Qao s.l (s.stamp+1) cs k) x1.ino)).map chnA,80,some 55) (fun (_:Unit) σ=>σ.put (some 55) (.sl 7 false (x2.l.map verA))) (Qpn (chnA x2) (map_some hx2) (by kernel_rfl)) fun _=>
 .r 1<|.r 2<|.lm 57 x2.l verA<|.run 2 [rng .i64 ((x2.l.length:Int)-1)] ⟨Qal,trivial⟩<|
 .r 3<|.br 61 (decide (((x2.l.length:Int)-1)≥0)) (fun q3=>have p3:=decT q3;.no (by omega))
 <| fun q3=>have p3:=decF q3;.r 8<|.st (rowR 100) (V4,82,2,((Qao s.l (s.stamp+1) cs k).take (Qam (Qao s.l (s.stamp+1) cs k) x1.ino)++(⟨x1.ino,[]⟩:Chn) :: (Qao s.l (s.stamp+1) cs k).drop (Qam (Qao s.l (s.stamp+1) cs k) x1.ino)).map chnA) (fun _ σ=>σ) (Qb0 100 (by first | exact Qa1 (by assumption) | exact Qa7 _ _ _ | (rw [W0a];first | exact Qa1 (by assumption) | exact Qa7 _ _ _ | exact W03 (W0j _) (Qa1 (by assumption)) | exact W03 (W0j _) (Qa7 _ _ _)))) fun a8r=>
 .ord [0,1,2,3,4,5,6,7,8,9,10,11,12]<|.u 6 [b5]<|
 .lm 78 x2.l verA<|.u 2 [b6]<|
 .call (Qe0 x1 (s.stamp+1))<|
 .cs (args0:=[.sl 7 false (x2.l.map verA),aI (x2.l.length:Int),.agg [aI ((Qai x1 (s.stamp+1)).stamp),aB ((Qai x1 (s.stamp+1)).gone),aI ((Qai x1 (s.stamp+1)).n.ino),aI ((Qai x1 (s.stamp+1)).n.kind),aI ((Qai x1 (s.stamp+1)).n.links),aS ((Qai x1 (s.stamp+1)).n.text),.sl 2 false ((Qai x1 (s.stamp+1)).n.l.map entA)]]) (Qio (Qbt x2.l (s.stamp+1)) (Qai x1 (s.stamp+1)) (by have:=Qno x2.l (s.stamp+1);have:=zx2;omega)) ⟨W2n (by rw [show Qbt x2.l (s.stamp+1)=x2.l from by rw [show x2.l=[] from W0l (by omega)];rfl]),W2n (W1y aI (by rw [show Qbt x2.l (s.stamp+1)=x2.l from by rw [show x2.l=[] from W0l (by omega)];rfl])),sR,trivial⟩<|
 .op (ixR prog) (100,V4,(((Qao s.l (s.stamp+1) cs k).take (Qam (Qao s.l (s.stamp+1) cs k) x1.ino)++(⟨x1.ino,[]⟩:Chn) :: (Qao s.l (s.stamp+1) cs k).drop (Qam (Qao s.l (s.stamp+1) cs k) x1.ino)).map chnA).length,2,(Qam (Qao s.l (s.stamp+1) cs k) x1.ino:Int),some 83) (fun (_:Unit) σ=>σ.put (some 83) (.ep 100 V4 2 (Qam (Qao s.l (s.stamp+1) cs k) x1.ino) 0)) (Qft (Qam (Qao s.l (s.stamp+1) cs k) x1.ino) a8r.2.1 (by omega) (by first | exact Qa1 (by assumption) | exact Qa7 _ _ _ | (rw [W0a];first | exact Qa1 (by assumption) | exact Qa7 _ _ _ | exact W03 (W0j _) (Qa1 (by assumption)) | exact W03 (W0j _) (Qa7 _ _ _)))) fun _=>
 .op (fdR prog) (100,V4,2,Qam (Qao s.l (s.stamp+1) cs k) x1.ino,0,1,some 84) (fun (_:Unit) σ=>σ.put (some 84) (.ep 100 V4 2 (Qam (Qao s.l (s.stamp+1) cs k) x1.ino) 1)) (Qhd) fun _=>
 .op (stR prog) (100,V4,2,Qam (Qao s.l (s.stamp+1) cs k) x1.ino,1,V4,82,2,((Qao s.l (s.stamp+1) cs k).take (Qam (Qao s.l (s.stamp+1) cs k) x1.ino)++(⟨x1.ino,[]⟩:Chn) :: (Qao s.l (s.stamp+1) cs k).drop (Qam (Qao s.l (s.stamp+1) cs k) x1.ino)).map chnA,[AV.sl 7 false (((Qbt x2.l (s.stamp+1))++[(Qai x1 (s.stamp+1))]).map verA)],none) (fun (_:Unit) σ=>(σ.put (none) .any).setB 100 (.row V4 82 2 ((((Qao s.l (s.stamp+1) cs k).take (Qam (Qao s.l (s.stamp+1) cs k) x1.ino)++(⟨x1.ino,[]⟩:Chn) :: (Qao s.l (s.stamp+1) cs k).drop (Qam (Qao s.l (s.stamp+1) cs k) x1.ino)).map chnA).set (Qam (Qao s.l (s.stamp+1) cs k) x1.ino) ((chnA x2).take 1++[AV.sl 7 false (((Qbt x2.l (s.stamp+1))++[(Qai x1 (s.stamp+1))]).map verA)]++(chnA x2).drop (1+[AV.sl 7 false (((Qbt x2.l (s.stamp+1))++[(Qai x1 (s.stamp+1))]).map verA)].length))))) (Qlb (chnA x2) (map_some hx2) (W05 rfl)) fun _=>
 .run 2 [rng .i64 ((k:Int)+1)] ⟨Qal,trivial⟩<|
 .bk L1 (k,V) ((k+1),V4) (show (k+1)≤cs.length from (by show _≤_;omega)) (show cs.length-(k+1)<cs.length-k from (by omega)) [(28,aI ((k:Int)+1))] [(8,.box b5 25 [.rw 100 V4 ((((Qao s.l (s.stamp+1) cs k).take (Qam (Qao s.l (s.stamp+1) cs k) x1.ino)++(⟨x1.ino,[]⟩:Chn) :: (Qao s.l (s.stamp+1) cs k).drop (Qam (Qao s.l (s.stamp+1) cs k) x1.ino)).map chnA).length),.sl 2 false (s.nexts.map cntA),aI (s.stamp+1)]),(100,.row V4 82 2 ((((Qao s.l (s.stamp+1) cs k).take (Qam (Qao s.l (s.stamp+1) cs k) x1.ino)++(⟨x1.ino,[]⟩:Chn) :: (Qao s.l (s.stamp+1) cs k).drop (Qam (Qao s.l (s.stamp+1) cs k) x1.ino)).map chnA).set (Qam (Qao s.l (s.stamp+1) cs k) x1.ino) ((chnA x2).take 1++[AV.sl 7 false (((Qbt x2.l (s.stamp+1))++[(Qai x1 (s.stamp+1))]).map verA)]++(chnA x2).drop (1+[AV.sl 7 false (((Qbt x2.l (s.stamp+1))++[(Qai x1 (s.stamp+1))]).map verA)].length))))] ⟨sR,sR,sR,sR,sR,sR,sR,sO,trivial⟩ ⟨sB,sB,⟨_,rfl,W2s ⟨W2n (W1y (AV.rw 100 V4) (by rw [Qcu hx1,Zh0 q2];simp)),sR,sR,trivial⟩⟩,⟨_,rfl,W2o (W1y (Bx.row V4 82 2) (by rw [Qcu hx1];exact Zfp q2 ex2 _ rfl))⟩,trivial⟩)
 <| fun q2=>have q2:=notF q2;have p2:=booT q2;.st (rowR 100) (V,82,2,(Qao s.l (s.stamp+1) cs k).map chnA) (fun _ σ=>σ) (Qb0 100 (by first | exact Qa1 (by assumption) | exact Qa7 _ _ _ | (rw [W0a];first | exact Qa1 (by assumption) | exact Qa7 _ _ _ | exact W03 (W0j _) (Qa1 (by assumption)) | exact W03 (W0j _) (Qa7 _ _ _)))) fun a9r=>
 .u 3 [b5]<|
 .op (ixR prog) (100,V,(Qao s.l (s.stamp+1) cs k).length,2,(Qam (Qao s.l (s.stamp+1) cs k) x1.ino:Int),some 53) (fun (_:Unit) σ=>σ.put (some 53) (.ep 100 V 2 (Qam (Qao s.l (s.stamp+1) cs k) x1.ino) 0)) (Qft (Qam (Qao s.l (s.stamp+1) cs k) x1.ino) a9r.2.1 (by omega) (by first | exact Qa1 (by assumption) | exact Qa7 _ _ _ | (rw [W0a];first | exact Qa1 (by assumption) | exact Qa7 _ _ _ | exact W03 (W0j _) (Qa1 (by assumption)) | exact W03 (W0j _) (Qa7 _ _ _)))) fun _=>
 .ex (Qdk (l:=(Qao s.l (s.stamp+1) cs k)) (k:=Qam (Qao s.l (s.stamp+1) cs k) x1.ino) (by first | exact Qa1 (by assumption) | exact Qa7 _ _ _ | (rw [W0a];first | exact Qa1 (by assumption) | exact Qa7 _ _ _ | exact W03 (W0j _) (Qa1 (by assumption)) | exact W03 (W0j _) (Qa7 _ _ _)))) fun x3 hx3=>
 have rx3:=Qeo (st:=s.stamp+1) (cs:=cs) hv k (by omega) x3 (W0h hx3);.op (fdR prog) (100,V,2,Qam (Qao s.l (s.stamp+1) cs k) x1.ino,0,1,some 54) (fun (_:Unit) σ=>σ.put (some 54) (.ep 100 V 2 (Qam (Qao s.l (s.stamp+1) cs k) x1.ino) 1)) (Qhd) fun _=>
 .op (ldR prog) (V,2,Qam (Qao s.l (s.stamp+1) cs k) x1.ino,1,V,2,(Qao s.l (s.stamp+1) cs k).map chnA,80,some 55) (fun (_:Unit) σ=>σ.put (some 55) (.sl 7 false (x3.l.map verA))) (Qpn (chnA x3) (map_some hx3) (by kernel_rfl)) fun _=>
 .r 1<|.r 2<|.lm 57 x3.l verA<|.run 2 [rng .i64 ((x3.l.length:Int)-1)] ⟨Qal,trivial⟩<|
 .r 3<|.br 61 (decide (((x3.l.length:Int)-1)≥0)) (fun q4=>have p4:=decT q4;.r 2<|.idxM x3.l verA (x3.l.length-1) (m:=(x3.l.length:Int)-1) (by omega) (by omega) fun x4 hx4=>
 .r 5<|.br 69 (x4.stamp==(s.stamp+1)) (fun q5=>have p5:=beqT q5;.r 2<|.slc 7 false (x3.l.map verA) none (some ((x3.l.length:Int)-1)) none 0 (x3.l.length-1) false (.inl ⟨rfl,rfl⟩) (.inr (W1y some (by omega))) (.inl ⟨rfl,fun h=>by cases h⟩) (by simp<;>omega) (by simp<;>omega)<|
 .r 1<|.st (rowR 100) (V,82,2,(Qao s.l (s.stamp+1) cs k).map chnA) (fun _ σ=>σ) (Qb0 100 (by first | exact Qa1 (by assumption) | exact Qa7 _ _ _ | (rw [W0a];first | exact Qa1 (by assumption) | exact Qa7 _ _ _ | exact W03 (W0j _) (Qa1 (by assumption)) | exact W03 (W0j _) (Qa7 _ _ _)))) fun a10r=>
 .ord [0,1,2,3,4,5,6,7,8,9,10,11,12]<|.u 8 [b5,b6]<|
 .call (Qe0 x1 (s.stamp+1))<|
 .cs (args0:=[.sl 7 false (((x3.l.map verA).take (x3.l.length-1)).drop 0),aI ((((x3.l.map verA).take (x3.l.length-1)).drop 0).length:Int),.agg [aI ((Qai x1 (s.stamp+1)).stamp),aB ((Qai x1 (s.stamp+1)).gone),aI ((Qai x1 (s.stamp+1)).n.ino),aI ((Qai x1 (s.stamp+1)).n.kind),aI ((Qai x1 (s.stamp+1)).n.links),aS ((Qai x1 (s.stamp+1)).n.text),.sl 2 false ((Qai x1 (s.stamp+1)).n.l.map entA)]]) (Qio (Qbt x3.l (s.stamp+1)) (Qai x1 (s.stamp+1)) (by have:=Qno x3.l (s.stamp+1);have:=Qeo (st:=s.stamp+1) (cs:=cs) hv k (by omega) x3 (W0h hx3);omega)) ⟨W2n (by rw [Qx4 hx4 p5,List.drop_zero,W16]),W2n (W1y aI (by rw [Qx4 hx4 p5];simp)),sR,trivial⟩<|
 .op (ixR prog) (100,V,(Qao s.l (s.stamp+1) cs k).length,2,(Qam (Qao s.l (s.stamp+1) cs k) x1.ino:Int),some 83) (fun (_:Unit) σ=>σ.put (some 83) (.ep 100 V 2 (Qam (Qao s.l (s.stamp+1) cs k) x1.ino) 0)) (Qft (Qam (Qao s.l (s.stamp+1) cs k) x1.ino) a10r.2.1 (by omega) (by first | exact Qa1 (by assumption) | exact Qa7 _ _ _ | (rw [W0a];first | exact Qa1 (by assumption) | exact Qa7 _ _ _ | exact W03 (W0j _) (Qa1 (by assumption)) | exact W03 (W0j _) (Qa7 _ _ _)))) fun _=>
 .op (fdR prog) (100,V,2,Qam (Qao s.l (s.stamp+1) cs k) x1.ino,0,1,some 84) (fun (_:Unit) σ=>σ.put (some 84) (.ep 100 V 2 (Qam (Qao s.l (s.stamp+1) cs k) x1.ino) 1)) (Qhd) fun _=>
 .op (stR prog) (100,V,2,Qam (Qao s.l (s.stamp+1) cs k) x1.ino,1,V,82,2,(Qao s.l (s.stamp+1) cs k).map chnA,[AV.sl 7 false (((Qbt x3.l (s.stamp+1))++[(Qai x1 (s.stamp+1))]).map verA)],none) (fun (_:Unit) σ=>(σ.put (none) .any).setB 100 (.row V 82 2 (((Qao s.l (s.stamp+1) cs k).map chnA).set (Qam (Qao s.l (s.stamp+1) cs k) x1.ino) ((chnA x3).take 1++[AV.sl 7 false (((Qbt x3.l (s.stamp+1))++[(Qai x1 (s.stamp+1))]).map verA)]++(chnA x3).drop (1+[AV.sl 7 false (((Qbt x3.l (s.stamp+1))++[(Qai x1 (s.stamp+1))]).map verA)].length))))) (Qlb (chnA x3) (map_some hx3) (W05 rfl)) fun _=>
 .run 2 [rng .i64 ((k:Int)+1)] ⟨Qal,trivial⟩<|
 .bk L1 (k,V) ((k+1),V) (show (k+1)≤cs.length from (by show _≤_;omega)) (show cs.length-(k+1)<cs.length-k from (by omega)) [(28,aI ((k:Int)+1))] [(8,.box b5 25 [.rw 100 V ((Qao s.l (s.stamp+1) cs k).length),.sl 2 false (s.nexts.map cntA),aI (s.stamp+1)]),(100,.row V 82 2 (((Qao s.l (s.stamp+1) cs k).map chnA).set (Qam (Qao s.l (s.stamp+1) cs k) x1.ino) ((chnA x3).take 1++[AV.sl 7 false (((Qbt x3.l (s.stamp+1))++[(Qai x1 (s.stamp+1))]).map verA)]++(chnA x3).drop (1+[AV.sl 7 false (((Qbt x3.l (s.stamp+1))++[(Qai x1 (s.stamp+1))]).map verA)].length))))] ⟨sR,sR,sR,sR,sR,sR,sR,sO,trivial⟩ ⟨sB,sB,⟨_,rfl,W2s ⟨W2n (W1y (AV.rw 100 V) (by rw [Qcu hx1,Qms q2])),sR,sR,trivial⟩⟩,⟨_,rfl,W2o (W1y (Bx.row V 82 2) (by rw [Qcu hx1];exact Qkc q2 hx3 _ rfl))⟩,trivial⟩)
 <| fun q5=>have p5:=beqF q5;.st (rowR 100) (V,82,2,(Qao s.l (s.stamp+1) cs k).map chnA) (fun _ σ=>σ) (Qb0 100 (by first | exact Qa1 (by assumption) | exact Qa7 _ _ _ | (rw [W0a];first | exact Qa1 (by assumption) | exact Qa7 _ _ _ | exact W03 (W0j _) (Qa1 (by assumption)) | exact W03 (W0j _) (Qa7 _ _ _)))) fun a11r=>
 .ord [0,1,2,3,4,5,6,7,8,9,10,11,12]<|.u 6 [b5]<|
 .lm 78 x3.l verA<|.u 2 [b6]<|
 .call (Qe0 x1 (s.stamp+1))<|
 .cs (args0:=[.sl 7 false (x3.l.map verA),aI (x3.l.length:Int),.agg [aI ((Qai x1 (s.stamp+1)).stamp),aB ((Qai x1 (s.stamp+1)).gone),aI ((Qai x1 (s.stamp+1)).n.ino),aI ((Qai x1 (s.stamp+1)).n.kind),aI ((Qai x1 (s.stamp+1)).n.links),aS ((Qai x1 (s.stamp+1)).n.text),.sl 2 false ((Qai x1 (s.stamp+1)).n.l.map entA)]]) (Qio (Qbt x3.l (s.stamp+1)) (Qai x1 (s.stamp+1)) (by have:=Qno x3.l (s.stamp+1);have:=Qeo (st:=s.stamp+1) (cs:=cs) hv k (by omega) x3 (W0h hx3);omega)) ⟨W2n (by rw [Zfo hx4 p5]),W2n (W1y aI (by rw [Zfo hx4 p5])),sR,trivial⟩<|
 .op (ixR prog) (100,V,(Qao s.l (s.stamp+1) cs k).length,2,(Qam (Qao s.l (s.stamp+1) cs k) x1.ino:Int),some 83) (fun (_:Unit) σ=>σ.put (some 83) (.ep 100 V 2 (Qam (Qao s.l (s.stamp+1) cs k) x1.ino) 0)) (Qft (Qam (Qao s.l (s.stamp+1) cs k) x1.ino) a11r.2.1 (by omega) (by first | exact Qa1 (by assumption) | exact Qa7 _ _ _ | (rw [W0a];first | exact Qa1 (by assumption) | exact Qa7 _ _ _ | exact W03 (W0j _) (Qa1 (by assumption)) | exact W03 (W0j _) (Qa7 _ _ _)))) fun _=>
 .op (fdR prog) (100,V,2,Qam (Qao s.l (s.stamp+1) cs k) x1.ino,0,1,some 84) (fun (_:Unit) σ=>σ.put (some 84) (.ep 100 V 2 (Qam (Qao s.l (s.stamp+1) cs k) x1.ino) 1)) (Qhd) fun _=>
 .op (stR prog) (100,V,2,Qam (Qao s.l (s.stamp+1) cs k) x1.ino,1,V,82,2,(Qao s.l (s.stamp+1) cs k).map chnA,[AV.sl 7 false (((Qbt x3.l (s.stamp+1))++[(Qai x1 (s.stamp+1))]).map verA)],none) (fun (_:Unit) σ=>(σ.put (none) .any).setB 100 (.row V 82 2 (((Qao s.l (s.stamp+1) cs k).map chnA).set (Qam (Qao s.l (s.stamp+1) cs k) x1.ino) ((chnA x3).take 1++[AV.sl 7 false (((Qbt x3.l (s.stamp+1))++[(Qai x1 (s.stamp+1))]).map verA)]++(chnA x3).drop (1+[AV.sl 7 false (((Qbt x3.l (s.stamp+1))++[(Qai x1 (s.stamp+1))]).map verA)].length))))) (Qlb (chnA x3) (map_some hx3) (W05 rfl)) fun _=>
 .run 2 [rng .i64 ((k:Int)+1)] ⟨Qal,trivial⟩<|
 .bk L1 (k,V) ((k+1),V) (show (k+1)≤cs.length from (by show _≤_;omega)) (show cs.length-(k+1)<cs.length-k from (by omega)) [(28,aI ((k:Int)+1))] [(8,.box b5 25 [.rw 100 V ((Qao s.l (s.stamp+1) cs k).length),.sl 2 false (s.nexts.map cntA),aI (s.stamp+1)]),(100,.row V 82 2 (((Qao s.l (s.stamp+1) cs k).map chnA).set (Qam (Qao s.l (s.stamp+1) cs k) x1.ino) ((chnA x3).take 1++[AV.sl 7 false (((Qbt x3.l (s.stamp+1))++[(Qai x1 (s.stamp+1))]).map verA)]++(chnA x3).drop (1+[AV.sl 7 false (((Qbt x3.l (s.stamp+1))++[(Qai x1 (s.stamp+1))]).map verA)].length))))] ⟨sR,sR,sR,sR,sR,sR,sR,sO,trivial⟩ ⟨sB,sB,⟨_,rfl,W2s ⟨W2n (W1y (AV.rw 100 V) (by rw [Qcu hx1,Qms q2])),sR,sR,trivial⟩⟩,⟨_,rfl,W2o (W1y (Bx.row V 82 2) (by rw [Qcu hx1];exact Qkc q2 hx3 _ rfl))⟩,trivial⟩)
 <| fun q4=>have p4:=decF q4;.r 8<|.st (rowR 100) (V,82,2,(Qao s.l (s.stamp+1) cs k).map chnA) (fun _ σ=>σ) (Qb0 100 (by first | exact Qa1 (by assumption) | exact Qa7 _ _ _ | (rw [W0a];first | exact Qa1 (by assumption) | exact Qa7 _ _ _ | exact W03 (W0j _) (Qa1 (by assumption)) | exact W03 (W0j _) (Qa7 _ _ _)))) fun a12r=>
 .ord [0,1,2,3,4,5,6,7,8,9,10,11,12]<|.u 6 [b5]<|
 .lm 78 x3.l verA<|.u 2 [b6]<|
 .call (Qe0 x1 (s.stamp+1))<|
 .cs (args0:=[.sl 7 false (x3.l.map verA),aI (x3.l.length:Int),.agg [aI ((Qai x1 (s.stamp+1)).stamp),aB ((Qai x1 (s.stamp+1)).gone),aI ((Qai x1 (s.stamp+1)).n.ino),aI ((Qai x1 (s.stamp+1)).n.kind),aI ((Qai x1 (s.stamp+1)).n.links),aS ((Qai x1 (s.stamp+1)).n.text),.sl 2 false ((Qai x1 (s.stamp+1)).n.l.map entA)]]) (Qio (Qbt x3.l (s.stamp+1)) (Qai x1 (s.stamp+1)) (by have:=Qno x3.l (s.stamp+1);have:=Qeo (st:=s.stamp+1) (cs:=cs) hv k (by omega) x3 (W0h hx3);omega)) ⟨W2n (by rw [show Qbt x3.l (s.stamp+1)=x3.l from by rw [show x3.l=[] from W0l (by omega)];rfl]),W2n (W1y aI (by rw [show Qbt x3.l (s.stamp+1)=x3.l from by rw [show x3.l=[] from W0l (by omega)];rfl])),sR,trivial⟩<|
 .op (ixR prog) (100,V,(Qao s.l (s.stamp+1) cs k).length,2,(Qam (Qao s.l (s.stamp+1) cs k) x1.ino:Int),some 83) (fun (_:Unit) σ=>σ.put (some 83) (.ep 100 V 2 (Qam (Qao s.l (s.stamp+1) cs k) x1.ino) 0)) (Qft (Qam (Qao s.l (s.stamp+1) cs k) x1.ino) a12r.2.1 (by omega) (by first | exact Qa1 (by assumption) | exact Qa7 _ _ _ | (rw [W0a];first | exact Qa1 (by assumption) | exact Qa7 _ _ _ | exact W03 (W0j _) (Qa1 (by assumption)) | exact W03 (W0j _) (Qa7 _ _ _)))) fun _=>
 .op (fdR prog) (100,V,2,Qam (Qao s.l (s.stamp+1) cs k) x1.ino,0,1,some 84) (fun (_:Unit) σ=>σ.put (some 84) (.ep 100 V 2 (Qam (Qao s.l (s.stamp+1) cs k) x1.ino) 1)) (Qhd) fun _=>
 .op (stR prog) (100,V,2,Qam (Qao s.l (s.stamp+1) cs k) x1.ino,1,V,82,2,(Qao s.l (s.stamp+1) cs k).map chnA,[AV.sl 7 false (((Qbt x3.l (s.stamp+1))++[(Qai x1 (s.stamp+1))]).map verA)],none) (fun (_:Unit) σ=>(σ.put (none) .any).setB 100 (.row V 82 2 (((Qao s.l (s.stamp+1) cs k).map chnA).set (Qam (Qao s.l (s.stamp+1) cs k) x1.ino) ((chnA x3).take 1++[AV.sl 7 false (((Qbt x3.l (s.stamp+1))++[(Qai x1 (s.stamp+1))]).map verA)]++(chnA x3).drop (1+[AV.sl 7 false (((Qbt x3.l (s.stamp+1))++[(Qai x1 (s.stamp+1))]).map verA)].length))))) (Qlb (chnA x3) (map_some hx3) (W05 rfl)) fun _=>
 .run 2 [rng .i64 ((k:Int)+1)] ⟨Qal,trivial⟩<|
 .bk L1 (k,V) ((k+1),V) (show (k+1)≤cs.length from (by show _≤_;omega)) (show cs.length-(k+1)<cs.length-k from (by omega)) [(28,aI ((k:Int)+1))] [(8,.box b5 25 [.rw 100 V ((Qao s.l (s.stamp+1) cs k).length),.sl 2 false (s.nexts.map cntA),aI (s.stamp+1)]),(100,.row V 82 2 (((Qao s.l (s.stamp+1) cs k).map chnA).set (Qam (Qao s.l (s.stamp+1) cs k) x1.ino) ((chnA x3).take 1++[AV.sl 7 false (((Qbt x3.l (s.stamp+1))++[(Qai x1 (s.stamp+1))]).map verA)]++(chnA x3).drop (1+[AV.sl 7 false (((Qbt x3.l (s.stamp+1))++[(Qai x1 (s.stamp+1))]).map verA)].length))))] ⟨sR,sR,sR,sR,sR,sR,sR,sO,trivial⟩ ⟨sB,sB,⟨_,rfl,W2s ⟨W2n (W1y (AV.rw 100 V) (by rw [Qcu hx1,Qms q2])),sR,sR,trivial⟩⟩,⟨_,rfl,W2o (W1y (Bx.row V 82 2) (by rw [Qcu hx1];exact Qkc q2 hx3 _ rfl))⟩,trivial⟩)
 <| fun q1=>have p1:=decF q1;.u 3 [b1]<|
 .lm 88 s.nexts cntA<|.run 2 [rng .i64 ((s.nexts.length:Int)-1)] ⟨Qal,trivial⟩<|
 .r 3<|.br 92 (decide (((s.nexts.length:Int)-1)<0)) (fun q6=>have p6:=decT q6;.r 9<|.u 5 [b1,b1]<|
 .lm 106 s.nexts cntA<|.r 3<|.call (Qq8 s.nexts (⟨s.stamp+1,next⟩:Cnt) (by omega))<|
 .u 2 [b5]<|
 .u 2 [b5,b2]<|
 .frz 100 [6] [6] [V=V,(Qao s.l (s.stamp+1) cs k).length=((Qao s.l (s.stamp+1) cs k).map chnA).length] ⟨rfl,(by first | rfl | (simp;done) | (simp;omega)),trivial⟩<|
 .f (.agg (stoA (Qea s cs next))) [b2] (.agg [.sl 2 false ((Qao s.l (s.stamp+1) cs k).map chnA),.sl 2 false ((s.nexts++[(⟨s.stamp+1,next⟩:Cnt)]).map cntA),aI (s.stamp+1)]) (by
  obtain rfl:k=cs.length:=by omega
  refine W2n ?_;rw [show stoA (Qea s cs next)=stoA ⟨Qao s.l (s.stamp+1) cs cs.length,Qc3 s next,s.stamp+1⟩ from rfl,Qzc (by omega)];rfl))
 <| fun q6=>have p6:=decF q6;.u 4 [b1]<|
 .idxM s.nexts cntA (s.nexts.length-1) (m:=(s.nexts.length:Int)-1) (by omega) (by omega) fun x5 hx5=>
 .r 4<|.br 101 (decide (next>x5.next)) (fun q7=>have p7:=decT q7;.u 5 [b1,b1]<|
 .lm 106 s.nexts cntA<|.r 3<|.call (Qq8 s.nexts (⟨s.stamp+1,next⟩:Cnt) (by omega))<|
 .u 2 [b5]<|
 .u 2 [b5,b2]<|
 .frz 100 [6] [6] [V=V,(Qao s.l (s.stamp+1) cs k).length=((Qao s.l (s.stamp+1) cs k).map chnA).length] ⟨rfl,(by first | rfl | (simp;done) | (simp;omega)),trivial⟩<|
 .f (.agg (stoA (Qea s cs next))) [b2] (.agg [.sl 2 false ((Qao s.l (s.stamp+1) cs k).map chnA),.sl 2 false ((s.nexts++[(⟨s.stamp+1,next⟩:Cnt)]).map cntA),aI (s.stamp+1)]) (by
  obtain rfl:k=cs.length:=by omega
  refine W2n ?_;rw [show stoA (Qea s cs next)=stoA ⟨Qao s.l (s.stamp+1) cs cs.length,Qc3 s next,s.stamp+1⟩ from rfl,Zcl hx5 (by assumption)];rfl))
 <| fun q7=>have p7:=decF q7;.u 2 [b5,b2]<|
 .frz 100 [6] [6] [V=V,(Qao s.l (s.stamp+1) cs k).length=((Qao s.l (s.stamp+1) cs k).map chnA).length] ⟨rfl,(by first | rfl | (simp;done) | (simp;omega)),trivial⟩<|
 .f (.agg (stoA (Qea s cs next))) [b2] (.agg [.sl 2 false ((Qao s.l (s.stamp+1) cs k).map chnA),.sl 2 false (s.nexts.map cntA),aI (s.stamp+1)]) (by
  obtain rfl:k=cs.length:=by omega
  refine W2n ?_;rw [show stoA (Qea s cs next)=stoA ⟨Qao s.l (s.stamp+1) cs cs.length,Qc3 s next,s.stamp+1⟩ from rfl,Zhv hx5 (by assumption)];rfl)) a1.1 a1.2 ha1) j1.1 j1.2)
def nodG (c:Chg):Nod:=⟨c.ino,c.n.kind,c.n.links,c.n.text,c.n.l⟩
def OkCh (c:Chg):Prop:=I64 c.ino∧OkN c.n
theorem Zjk {r:List Ver} {st:Int}:∀ v∈Qbt r st,v∈r:=by
 intro v hv;unfold Qbt at hv
 split at hv
 ·split at hv
  ·exact W13 hv
  ·exact hv
 ·exact hv
theorem Zlq {P:Chn→Prop} {l:List Chn} {st n:Int} {v:Ver} (hl:∀ c∈l,P c) (h1:P ⟨n,[v]⟩) (h2:∀ d∈l,P ⟨d.ino,Qbt d.l st++[v]⟩):∀ c∈putC l st n v,P c:=by
 intro c hc;unfold putC at hc
 split at hc
 ·split at hc
  ·rename_i d hd;rcases List.mem_or_eq_of_mem_set hc with hc | rfl
   ·exact hl c hc
   ·exact h2 d (W0h hd)
  ·exact hl c hc
 ·rcases W04.1 hc with hc | hc
  ·exact hl c (W13 hc)
  ·rcases W0y.1 hc with rfl | hc
   ·exact h1
   ·exact hl c (W2d hc)
def Qus (l:List Chn) (st:Int) (cs:List Chg):List Chn:=cs.foldl (fun l c=>putC l st c.ino (Qai c st)) l
theorem Qp8 (l:List Chn) (st:Int) (cs:List Chg):Qao l st cs cs.length=Qus l st cs:=by unfold Qao Qus;rw [W12]
theorem Qsi {P:Chn→Prop} {st:Int}:∀ {cs:List Chg} {l:List Chn},(∀ c∈l,P c)→(∀ c∈cs,P ⟨c.ino,[Qai c st]⟩)→(∀ c∈cs,∀ d,P d→P ⟨d.ino,Qbt d.l st++[Qai c st]⟩)→∀ c∈Qus l st cs,P c
 | [],l,hl,_,_=>hl
 | x :: r,l,hl,h1,h2=>Qsi (cs:=r) (l:=putC l st x.ino (Qai x st)) (Zlq hl (h1 x (List.mem_cons_self ..)) (fun d hd=>h2 x (List.mem_cons_self ..) d (hl d hd))) (fun c hc=>h1 c (W11 _ hc)) (fun c hc=>h2 c (W11 _ hc))
theorem Qd1 (c:Chg) (st:Int):(Qai c st).stamp=st:=by unfold Qai;split<;>rfl
theorem Qlu {c:Chg} {st:Int} (h:OkCh c) (hs:I64 st):OkV (Qai c st):=by
 unfold Qai
 split
 ·exact ⟨hs,Qj1⟩
 ·exact ⟨hs,h.1,h.2.2⟩
def OkD (c:Chn):Prop:=I64 c.ino∧∀ v∈c.l,OkV v
theorem Zh6 {l:List Chn} {st:Int} {cs:List Chg} (hs:I64 st) (hl:∀ c∈l,OkD c) (hc:∀ c∈cs,OkCh c):∀ c∈Qus l st cs,OkD c:=
 Qsi hl (fun c h=>⟨(hc c h).1,fun v hv=>by obtain rfl:=W0z.1 hv;exact Qlu (hc c h) hs⟩)
  (fun c h d hd=>⟨hd.1,fun v hv=>by
   rcases W04.1 hv with hv | hv
   ·exact hd.2 v (Zjk v hv)
   ·obtain rfl:=W0z.1 hv;exact Qlu (hc c h) hs⟩)
theorem Zcm {s:Sto} {next:Int} (oks:OkS s) (hn:I64 next) (hs:I64 (s.stamp+1)):∀ c∈Qc3 s next,OkK c:=by
 have key:∀ c∈s.nexts++[(⟨s.stamp+1,next⟩:Cnt)],OkK c:=fun c hc=>by
  rcases W04.1 hc with hc | hc
  ·exact oks.2.2.2.2 c hc
  ·obtain rfl:=W0z.1 hc;exact ⟨hs,hn⟩
 intro c hc;unfold Qc3 at hc
 split at hc
 ·split at hc
  ·exact key c hc
  ·exact oks.2.2.2.2 c hc
 ·exact key c hc
theorem Qzd (s:Sto) (next:Int):(Qc3 s next).length≤s.nexts.length+1:=by
 unfold Qc3
 split
 ·split
  ·simp
  ·omega
 ·simp
structure Fit (s:Sto) (B:Nat):Prop where
 ok:OkS s
 l:s.l.length≤B
 n:s.nexts.length≤B
 r:∀ c∈s.l,c.l.length≤B
theorem Fit.inst {s:Sto} {B:Nat} {cs:List Chg} {next:Int} (h:Fit s B) (hc:∀ c∈cs,OkCh c) (hn:I64 next) (hs:s.stamp<9223372036854775807) (hB:B+1+cs.length≤100000):Fit (Qea s cs next) (B+1+cs.length):=by
 have hst:I64 (s.stamp+1):=⟨by have:=h.ok.1.1;omega,by omega⟩
 have h1:=Qjd s.l (s.stamp+1) cs cs.length;have h2:=Qeo (st:=s.stamp+1) (cs:=cs) h.r cs.length (W0m _);have h3:=Qzd s next
 have h4:∀ c∈Qao s.l (s.stamp+1) cs cs.length,OkD c:=by
  rw [Qp8];exact Zh6 hst (fun c hc=>⟨(h.ok.2.2.2.1 c hc).1,(h.ok.2.2.2.1 c hc).2.2⟩) hc
 have hl:=h.l;have hn2:=h.n;refine ⟨⟨hst,?_,?_,fun c hc=>⟨(h4 c hc).1,?_,(h4 c hc).2⟩,Zcm h.ok hn hst⟩,?_,?_,fun c hc=>?_⟩
 ·show (Qao s.l (s.stamp+1) cs cs.length).length≤_;omega
 ·show (Qc3 s next).length≤_;omega
 ·have:=h2 c hc;omega
 ·show (Qao s.l (s.stamp+1) cs cs.length).length≤_;omega
 ·show (Qc3 s next).length≤_;omega
 ·have:=h2 c hc;omega
theorem Zmu {s:Sto} (oks:OkS s) (h:few s):Fit s 200:=by
 obtain ⟨h1,h2,h3⟩:=Qqn h;refine ⟨oks,h1,h2,fun c hc=>?_⟩;have:c.l.length≤(s.l.map (fun c=>c.l.length)).sum:=by
  clear h h1 h2 h3
  revert hc
  generalize s.l=l;intro hc
  induction l with
  | nil=>cases hc
  | cons d r ih=>
   simp only [W1t,W1s];rcases W0y.1 hc with rfl | hc
   ·omega
   ·have:=ih hc;omega
 unfold Zl8 at h3;omega
structure Abs where
 ino:Int
 last:Option (Bool × Nod)
 later:Bool
theorem Zcn {s:Sto} {b:Int} (h:∀ c∈s.nexts,c.stamp≤b):Qi6 s b=match s.nexts[s.nexts.length-1]? with | some c=>c.next | none=>1:=by
 unfold Qi6 atD;rw [Qqs (f:=Cnt.stamp) h (W1q b)];by_cases h0:s.nexts.length=0
 ·rw [W1x h0,W0l h0];rfl
 ·rw [W1w h0];cases s.nexts[s.nexts.length-1]?<;>rfl
theorem Qrf {s:Sto} (hp:Qcc s):∀ c∈s.l,∀ v∈c.l,v.stamp≤s.stamp:=fun c hc v hv=>by
 obtain ⟨k,hk⟩:=W0w hc;obtain ⟨j,hj⟩:=W0w hv;exact ((hp.2.2.2.at hk).1.2.1.2.at hj).2.1
theorem Qr7 {s:Sto} (hp:Qcc s):∀ c∈s.nexts,1≤c.next:=fun c hc=>by
 obtain ⟨k,hk⟩:=W0w hc;exact hp.2.2.1.at hk
theorem Zfn {r:List Ver} {st:Int} (h:∀ v∈r,v.stamp<st):Qbt r st=r:=by
 unfold Qbt
 split
 ·rename_i v hv;have:=h v (W0h hv);rw [W1w (by omega)]
 ·rfl
def Qil (l:List Chn):Prop:=l.Pairwise fun c d=>c.ino<d.ino
theorem Qpq {s:Sto} (hp:Qcc s):Qil s.l:=by
 have h:=hp.2.2.2;have key:∀ (i j:Nat) (c d:Chn),i<j→s.l[i]?=some c→s.l[j]?=some d→c.ino<d.ino:=by
  intro i j
  induction j with
  | zero=>intro c d h;omega
  | succ j ih=>
   intro c d hij hc hd;obtain ⟨e,he⟩:=Qdk (l:=s.l) (k:=j) (by have:=Qan hd;omega);have h1:=(h.at hd).2 e (by omega) (by simpa using he);rcases Nat.lt_or_ge i j with hij' | hij'
   ·have:=ih c e hij' hc he;omega
   ·obtain rfl:i=j:=by omega
    rw [hc] at he;obtain rfl:=W0c he;exact h1
 unfold Qil;rw [W1c];intro i j hi hj hij;exact key i j _ _ hij (W0d hi) (W0d hj)
theorem Qu3 {n:Int}:∀ {l:List Chn},Qil l→Qcn l n=false→∀ c∈l,c.ino ≠ n
 | [],_,_,c,hc=>by cases hc
 | x :: r,hr,ht,c,hc=>by
  obtain ⟨h1,h2⟩:=W1k.1 hr;by_cases hx:x.ino<n
  ·have e:Qam (x :: r) n=Qam r n+1:=by unfold Qam;simp [hx]
   have ht':Qcn r n=false:=by
    unfold Qcn at ht ⊢;rw [e] at ht;simpa using ht
   rcases W0y.1 hc with rfl | hc
   ·omega
   ·exact Qu3 h2 ht' c hc
  ·have e:Qam (x :: r) n=0:=by unfold Qam;simp [hx]
   have hne:x.ino ≠ n:=by
    unfold Qcn at ht;rw [e] at ht;simpa using ht
   rcases W0y.1 hc with rfl | hc
   ·exact hne
   ·have:=h1 c hc;omega
end Go.Proofs.YtkhodpknpligpaaGreat
