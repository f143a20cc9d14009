import Derived.Test.YtahlldgocpabjaaGreatMrgAK
set_option maxRecDepth 100000
set_option maxHeartbeats 8000000
set_option linter.unusedVariables false
set_option linter.unusedSimpArgs false
namespace Go.Proofs.YtahlldgocpabjaaGreat
open Go Go.RowKit Copyhold Go.Proofs.Tryz
theorem Qjm (l:List Ver) (c:Ver) (hn:l.length≤100000):Qah prog 105 [.sl 7 false (l.map verA),aI (l.length:Int),.agg (verA c)] (.sl 7 false ((l++[c]).map verA)):=by
 have h:=Qy4 l l.length c (Nat.le_refl _) hn;rw [List.take_length,List.drop_length] at h;exact h
theorem Qr7 (l:List Cnt) (c:Cnt) (hn:l.length≤100000):Qah prog 107 [.sl 2 false (l.map cntA),aI (l.length:Int),.agg (cntA c)] (.sl 2 false ((l++[c]).map cntA)):=by
 have h:=Qy5 l l.length c (Nat.le_refl _) hn;rw [List.take_length,List.drop_length] at h;exact h
theorem ins_at {α:Type} {l:List α} {i:Nat} {c x:α} (hi:i≤l.length) (h:(l.take i++c :: l.drop i)[i]?=some x):x=c:=by
 rw [List.getElem?_append_right (by rw [List.length_take];omega),List.length_take,Nat.min_eq_left hi,Nat.sub_self] at h;exact (Option.some.inj h).symm
theorem Zl5 {α:Type} {l:List α} {i:Nat} {c d:α} (hi:i≤l.length):(l.take i++c :: l.drop i).set i d=l.take i++d :: l.drop i:=by
 rw [List.set_append_right _ _ (by rw [List.length_take];omega),List.length_take,Nat.min_eq_left hi,Nat.sub_self];rfl
def Qc6 (s:Sto) (next:Int):List Cnt:=match s.nexts[s.nexts.length-1]? with
 | some c=>if next>c.next then s.nexts++[⟨s.stamp+1,next⟩] else s.nexts
 | none=>s.nexts++[⟨s.stamp+1,next⟩]
theorem Zac {s:Sto} {next:Int} (h:s.nexts.length=0):Qc6 s next=s.nexts++[⟨s.stamp+1,next⟩]:=by
 unfold Qc6;rw [List.eq_nil_of_length_eq_zero h];rfl
theorem Qnf {s:Sto} {next:Int} {c:Cnt} (h:s.nexts[s.nexts.length-1]?=some c) (e:next>c.next):Qc6 s next=s.nexts++[⟨s.stamp+1,next⟩]:=by
 unfold Qc6;rw [h];exact if_pos e
theorem Qxr {s:Sto} {next:Int} {c:Cnt} (h:s.nexts[s.nexts.length-1]?=some c) (e:¬ next>c.next):Qc6 s next=s.nexts:=by
 unfold Qc6;rw [h];exact if_neg e
def Qdd (s:Sto) (cs:List Chg) (next:Int):Sto:=⟨Qas s.l (s.stamp+1) cs cs.length,Qc6 s next,s.stamp+1⟩
theorem Zdd {l:List Chn} {st n:Int} {v:Ver} {B:Nat} (h:∀ c∈l,c.l.length≤B):∀ c∈putC l st n v,c.l.length≤B+1:=by
 intro c hc;unfold putC at hc
 split at hc
 ·split at hc
  ·rename_i d hd;rcases List.mem_or_eq_of_mem_set hc with hc | rfl
   ·have:=h c hc;omega
   ·have h1:=h d (List.mem_of_getElem? hd);have h2:=Qob d.l st;simp only [List.length_append,List.length_singleton];omega
  ·have:=h c hc;omega
 ·rcases List.mem_append.1 hc with hc | hc
  ·have:=h c (List.mem_of_mem_take hc);omega
  ·rcases List.mem_cons.1 hc with rfl | hc
   ·simp
   ·have:=h c (List.mem_of_mem_drop hc);omega
theorem Qdt {l:List Chn} {st:Int} {cs:List Chg} {B:Nat} (h:∀ c∈l,c.l.length≤B):∀ k,k≤cs.length→∀ c∈Qas l st cs k,c.l.length≤B+k
 | 0,_=>by simpa [Qas] using h
 | k+1,hk=>by
  obtain ⟨c,hc⟩:=Qdo (l:=cs) (k:=k) (by omega);rw [Qcq hc];exact Zdd (Qdt h k (by omega))
theorem Qbc (l:List Chn) (n:Int) (c:Chn):Qao l n<(l.take (Qao l n)++c :: l.drop (Qao l n)).length:=by
 have:=Qjz l n;simp only [List.length_append,List.length_take,List.length_cons,List.length_drop];omega
theorem Qll {l:List Chn} {st n:Int} {v:Ver} {c:Chn} (h:Qcd l n=true) (hc:l[Qao l n]?=some c) (b:List Ver) (hb:b=Qb3 c.l st):((l.map chnA).set (Qao l n) ((chnA c).take 1++[AV.sl 7 false ((b++[v]).map verA)]++(chnA c).drop (1+1)))=(putC l st n v).map chnA:=by
 rw [Qgb h hc,List.map_set,hb];rfl
theorem Zgt {l:List Chn} {st n:Int} {v:Ver} {c:Chn} (h:Qcd l n=false) (hc:c=⟨n,[]⟩) (b:List Ver) (hb:b=Qb3 c.l st):(((l.take (Qao l n)++(⟨n,[]⟩:Chn) :: l.drop (Qao l n)).map chnA).set (Qao l n) ((chnA c).take 1++[AV.sl 7 false ((b++[v]).map verA)]++(chnA c).drop (1+1)))=(putC l st n v).map chnA:=by
 subst hc;rw [Qim h,hb,Qy0];have h2:=congrArg (List.map chnA) (Zl5 (d:=(⟨n,[v]⟩:Chn)) (c:=(⟨n,[]⟩:Chn)) (Qjz l n));rw [List.map_set] at h2;exact h2
theorem Qnm {l:List Chn} {st n:Int} {v:Ver} (h:Qcd l n=true):(putC l st n v).length=l.length:=by
 obtain ⟨c,hc,_⟩:=Qic h;rw [Qgb h hc,List.length_set]
theorem Ziz {l:List Chn} {st n:Int} {v:Ver} (h:Qcd l n=false):(putC l st n v).length=(l.take (Qao l n)++(⟨n,[]⟩:Chn) :: l.drop (Qao l n)).length:=by
 rw [Qim h];simp
theorem Qth (s:Sto) (cs:List Chg) (next:Int) (oks:OkS s) (hf:s.l.length≤1000) (hc:cs.length≤1000) (hnx:s.nexts.length≤1000) (hv:∀ c∈s.l,c.l.length≤1000) (hs:s.stamp<1152921504606846977):Qah prog 58 [.agg (stoA s),.sl 7 false (cs.map chgA),aI next] (.agg (stoA (Qdd s cs next))):=by
 have ok1:=oks.1.1;exact Qac func58 (
 .new fun b1=>.new fun b2=>.run 4 [b1=b1,rng .i64 (s.stamp+1)] ⟨rfl,Qai (by omega) (by omega),trivial⟩<|
 let J1:Jn (Nat × Value):=⟨fun j1=>⟨[(1,.sl 7 false (cs.map chgA)),(2,aI next),(3,.ptr 3 b1 0),(6,.ptr 6 b2 0),(7,aI (s.stamp+1)),(8,.ptr 8 j1.1 0)],[(3,.box b1 25 (stoA s)),(6,.box b2 25 [aN,aN,aI 0]),(100,.row j1.2 98 2 (s.l.map chnA)),(8,.box j1.1 25 [.rw 100 j1.2 ((s.l.map chnA).length),.sl 2 false (s.nexts.map cntA),aI (s.stamp+1)])]⟩,fun _=>True⟩
 .cut J1 (.pick [0,1,3,4,5]<|.u 5 [b1,b1]<|
 .fork<|.alt (.op (crR prog 100) (102,[.sl 2 false (s.l.map chnA)],21) (fun (V:Value) σ=>(σ.put (some 21) (.rw 100 V (s.l.map chnA).length)).setB 100 (.row V 98 2 (s.l.map chnA))) (Qhl (args':=[.sl 2 false (s.l.map chnA)]) sr1 (Qpu (s.l.map chnA) (by rw [List.length_map];omega) (fun l h=>by obtain ⟨z,_,rfl⟩:=List.mem_map.1 h;rfl))) fun V1=>
 .pick [6,7,8]<|.r 1<|.new fun b3=>.u 1 [b3]<|
 .jo J1 (b3,V1) [] [] sr6 bb4)
 <| .new fun b4=>.pick [2,6,8]<|.op (crR prog 100) (102,[.sl 2 false (s.l.map chnA)],21) (fun (V:Value) σ=>(σ.put (some 21) (.rw 100 V (s.l.map chnA).length)).setB 100 (.row V 98 2 (s.l.map chnA))) (Qhl (args':=[.sl 2 false (s.l.map chnA)]) sr1 (Qpu (s.l.map chnA) (by rw [List.length_map];omega) (fun l h=>by obtain ⟨z,_,rfl⟩:=List.mem_map.1 h;rfl))) fun V2=>
 .u 2 [b4]<|
 .jo J1 (b4,V2) [] [] sr6 bb4)
 <| fun j1 _=>(fun (b5:Nat) (V3:Value)=>.r 2<|.lm 27 cs chgA<|.r 1<|let L1:Lp (Nat × Value):=⟨fun a1=>⟨[(2,aI next),(3,.ptr 3 b1 0),(6,.ptr 6 b2 0),(7,aI (s.stamp+1)),(8,.ptr 8 b5 0),(26,.sl 7 false (cs.map chgA)),(27,aI (cs.length:Int)),(28,aI (a1.1:Int))],[(3,.box b1 25 (stoA s)),(6,.box b2 25 [aN,aN,aI 0]),(8,.box b5 25 [.rw 100 a1.2 ((Qas s.l (s.stamp+1) cs a1.1).length),.sl 2 false (s.nexts.map cntA),aI (s.stamp+1)]),(100,.row a1.2 98 2 ((Qas s.l (s.stamp+1) cs a1.1).map chnA))]⟩,fun a1=>cs.length-a1.1,fun a1=>a1.1≤cs.length⟩
 .lp L1 (0,V3) (show 0≤cs.length from Nat.zero_le _) [(28,aI 0)] [(8,.box b5 25 [.rw 100 V3 ((s.l.map chnA).length),.sl 2 false (s.nexts.map cntA),aI (s.stamp+1)]),(100,.row V3 98 2 (s.l.map chnA))] ⟨sR,sR,sR,sR,sR,sR,sR,sO,trivial⟩ ⟨sB,sB,⟨_,rfl,SubB.boxs ⟨Sub.of_eq (congrArg (AV.rw 100 V3) (by simp [Qas])),sR,sR,trivial⟩⟩,⟨_,rfl,SubB.of_eq rfl⟩,trivial⟩ fun a1 ha1=>
 (fun (k:Nat) (V:Value) (hH1:k≤cs.length)=>.r 1<|.br 29 (decide ((k:Int)<(cs.length:Int))) (fun q1=>have p1:=decT q1;.idxM cs chgA k (m:=(k:Int)) rfl (by omega) fun x1 hx1=>
 .r 1<|.new fun b6=>.u 1 [b6]<|
 .u 4 [b5,b6]<|
 .op (cbR prog 100) ((103,[.rw 100 V ((Qas s.l (s.stamp+1) cs k).length),aI x1.ino],some 37),(V,98,2,(Qas s.l (s.stamp+1) cs k).map chnA)) (fun (_:Unit) σ=>σ.put (some 37) (.tup [aI (Qao (Qas s.l (s.stamp+1) cs k) x1.ino:Int),aB (Qcd (Qas s.l (s.stamp+1) cs k) x1.ino)])) (Qp9 (args':=[.sl 2 false ((Qas s.l (s.stamp+1) cs k).map chnA),aI x1.ino]) ⟨Fz.row _ _ _ _ _ _ (by first | rfl | (simp;done) | (simp;omega)),Fz.refl _ _,trivial⟩ (Qvq (Qas s.l (s.stamp+1) cs k) x1.ino (by have:=Qgk s.l (s.stamp+1) cs k;omega)) rfl) fun _=>
 .r 5<|.r 2<|.br 41 (!(Qcd (Qas s.l (s.stamp+1) cs k) x1.ino)) (fun q2=>have q2:=notT q2;have p2:=booF q2;.frz 100 [2,3,6,7,8,10,11,12,26,27,28,29,30,31,32,33,34,35,36,37,38,39,40,41] [3,6,8,10] [V=V,(Qas s.l (s.stamp+1) cs k).length=((Qas s.l (s.stamp+1) cs k).map chnA).length,V=V,(Qas s.l (s.stamp+1) cs k).length=((Qas s.l (s.stamp+1) cs k).map chnA).length] ⟨rfl,(by first | rfl | (simp;done) | (simp;omega)),rfl,(by first | rfl | (simp;done) | (simp;omega)),trivial⟩<|
 .u 6 [b5,b6]<|
 .op (crR prog 100) (104,[.sl 2 false ((Qas s.l (s.stamp+1) cs k).map chnA),aI (Qao (Qas s.l (s.stamp+1) cs k) x1.ino:Int),.agg [aI x1.ino,aN]],48) (fun (V:Value) σ=>(σ.put (some 48) (.rw 100 V (((Qas s.l (s.stamp+1) cs k).take (Qao (Qas s.l (s.stamp+1) cs k) x1.ino)++(⟨x1.ino,[]⟩:Chn) :: (Qas s.l (s.stamp+1) cs k).drop (Qao (Qas s.l (s.stamp+1) cs k) x1.ino)).map chnA).length)).setB 100 (.row V 98 2 (((Qas s.l (s.stamp+1) cs k).take (Qao (Qas s.l (s.stamp+1) cs k) x1.ino)++(⟨x1.ino,[]⟩:Chn) :: (Qas s.l (s.stamp+1) cs k).drop (Qao (Qas s.l (s.stamp+1) cs k) x1.ino)).map chnA))) (Qhl (args':=[.sl 2 false ((Qas s.l (s.stamp+1) cs k).map chnA),aI (Qao (Qas s.l (s.stamp+1) cs k) x1.ino:Int),.agg [aI ((⟨x1.ino,[]⟩:Chn).ino),.sl 7 false ((⟨x1.ino,[]⟩:Chn).l.map verA)]]) ⟨sR,sR,Sub.aggs ⟨sR,Sub.nil _ _,trivial⟩,trivial⟩ (Zbj (Qas s.l (s.stamp+1) cs k) (Qao (Qas s.l (s.stamp+1) cs k) x1.ino) (⟨x1.ino,[]⟩:Chn) (Qjz _ _) (by have:=Qgk s.l (s.stamp+1) cs k;omega))) fun V4=>
 .u 2 [b5]<|
 .st (rowR 100) (V4,98,2,((Qas s.l (s.stamp+1) cs k).take (Qao (Qas s.l (s.stamp+1) cs k) x1.ino)++(⟨x1.ino,[]⟩:Chn) :: (Qas s.l (s.stamp+1) cs k).drop (Qao (Qas s.l (s.stamp+1) cs k) x1.ino)).map chnA) (fun _ σ=>σ) (Qb5 100 (by first | exact Qa2 (by assumption) | exact Qbc _ _ _ | (rw [List.length_map];first | exact Qa2 (by assumption) | exact Qbc _ _ _ | exact Nat.lt_of_le_of_lt (Nat.zero_le _) (Qa2 (by assumption)) | exact Nat.lt_of_le_of_lt (Nat.zero_le _) (Qbc _ _ _)))) fun a7r=>
 .u 3 [b5]<|
 .op (ixR prog) (100,V4,(((Qas s.l (s.stamp+1) cs k).take (Qao (Qas s.l (s.stamp+1) cs k) x1.ino)++(⟨x1.ino,[]⟩:Chn) :: (Qas s.l (s.stamp+1) cs k).drop (Qao (Qas s.l (s.stamp+1) cs k) x1.ino)).map chnA).length,2,(Qao (Qas s.l (s.stamp+1) cs k) x1.ino:Int),some 53) (fun (_:Unit) σ=>σ.put (some 53) (.ep 100 V4 2 (Qao (Qas s.l (s.stamp+1) cs k) x1.ino) 0)) (Qfj (Qao (Qas s.l (s.stamp+1) cs k) x1.ino) a7r.2.1 (by omega) (by first | exact Qa2 (by assumption) | exact Qbc _ _ _ | (rw [List.length_map];first | exact Qa2 (by assumption) | exact Qbc _ _ _ | exact Nat.lt_of_le_of_lt (Nat.zero_le _) (Qa2 (by assumption)) | exact Nat.lt_of_le_of_lt (Nat.zero_le _) (Qbc _ _ _)))) fun _=>
 .ex (Qdo (l:=((Qas s.l (s.stamp+1) cs k).take (Qao (Qas s.l (s.stamp+1) cs k) x1.ino)++(⟨x1.ino,[]⟩:Chn) :: (Qas s.l (s.stamp+1) cs k).drop (Qao (Qas s.l (s.stamp+1) cs k) x1.ino))) (k:=Qao (Qas s.l (s.stamp+1) cs k) x1.ino) (by first | exact Qa2 (by assumption) | exact Qbc _ _ _ | (rw [List.length_map];first | exact Qa2 (by assumption) | exact Qbc _ _ _ | exact Nat.lt_of_le_of_lt (Nat.zero_le _) (Qa2 (by assumption)) | exact Nat.lt_of_le_of_lt (Nat.zero_le _) (Qbc _ _ _)))) fun x2 hx2=>
 have ex2:=ins_at (Qjz _ _) hx2;have zx2:x2.l.length=0:=(by rw [ex2];rfl);.op (fdR prog) (100,V4,2,Qao (Qas s.l (s.stamp+1) cs k) x1.ino,0,1,some 54) (fun (_:Unit) σ=>σ.put (some 54) (.ep 100 V4 2 (Qao (Qas s.l (s.stamp+1) cs k) x1.ino) 1)) (Qif) fun _=>
 .op (ldR prog) (V4,2,Qao (Qas s.l (s.stamp+1) cs k) x1.ino,1,V4,2,((Qas s.l (s.stamp+1) cs k).take (Qao (Qas s.l (s.stamp+1) cs k) x1.ino)++(⟨x1.ino,[]⟩:Chn) :: (Qas s.l (s.stamp+1) cs k).drop (Qao (Qas s.l (s.stamp+1) cs k) x1.ino)).map chnA,96,some 55) (fun (_:Unit) σ=>σ.put (some 55) (.sl 7 false (x2.l.map verA))) (Qp8 (chnA x2) (map_some hx2) (by kernel_rfl)) fun _=>
 .r 1<|.r 2<|.lm 57 x2.l verA<|.run 2 [rng .i64 ((x2.l.length:Int)-1)] ⟨Qai (by omega) (by omega),trivial⟩<|
 .r 3<|.br 61 (decide (((x2.l.length:Int)-1)≥0)) (fun q3=>have p3:=decT q3;.no (by omega))
 <| fun q3=>have p3:=decF q3;.r 8<|.st (rowR 100) (V4,98,2,((Qas s.l (s.stamp+1) cs k).take (Qao (Qas s.l (s.stamp+1) cs k) x1.ino)++(⟨x1.ino,[]⟩:Chn) :: (Qas s.l (s.stamp+1) cs k).drop (Qao (Qas s.l (s.stamp+1) cs k) x1.ino)).map chnA) (fun _ σ=>σ) (Qb5 100 (by first | exact Qa2 (by assumption) | exact Qbc _ _ _ | (rw [List.length_map];first | exact Qa2 (by assumption) | exact Qbc _ _ _ | exact Nat.lt_of_le_of_lt (Nat.zero_le _) (Qa2 (by assumption)) | exact Nat.lt_of_le_of_lt (Nat.zero_le _) (Qbc _ _ _)))) fun a8r=>
 .ord [0,1,2,3,4,5,6,7,8,9,10,11,12]<|.u 6 [b5]<|
 .lm 78 x2.l verA<|.u 2 [b6]<|
 .call (Qfg x1 (s.stamp+1))<|
 .cs (args0:=[.sl 7 false (x2.l.map verA),aI (x2.l.length:Int),.agg [aI ((Qak x1 (s.stamp+1)).stamp),aB ((Qak x1 (s.stamp+1)).gone),aI ((Qak x1 (s.stamp+1)).n.ino),aI ((Qak x1 (s.stamp+1)).n.kind),aI ((Qak x1 (s.stamp+1)).n.links),aS ((Qak x1 (s.stamp+1)).n.text),.sl 2 false ((Qak x1 (s.stamp+1)).n.l.map entA)]]) (Qjm (Qb3 x2.l (s.stamp+1)) (Qak x1 (s.stamp+1)) (by have:=Qob x2.l (s.stamp+1);have:=zx2;omega)) ⟨Sub.of_eq (by rw [show Qb3 x2.l (s.stamp+1)=x2.l from by rw [show x2.l=[] from List.eq_nil_of_length_eq_zero (by omega)];rfl]),Sub.of_eq (congrArg aI (by rw [show Qb3 x2.l (s.stamp+1)=x2.l from by rw [show x2.l=[] from List.eq_nil_of_length_eq_zero (by omega)];rfl])),sR,trivial⟩<|
 .op (ixR prog) (100,V4,(((Qas s.l (s.stamp+1) cs k).take (Qao (Qas s.l (s.stamp+1) cs k) x1.ino)++(⟨x1.ino,[]⟩:Chn) :: (Qas s.l (s.stamp+1) cs k).drop (Qao (Qas s.l (s.stamp+1) cs k) x1.ino)).map chnA).length,2,(Qao (Qas s.l (s.stamp+1) cs k) x1.ino:Int),some 83) (fun (_:Unit) σ=>σ.put (some 83) (.ep 100 V4 2 (Qao (Qas s.l (s.stamp+1) cs k) x1.ino) 0)) (Qfj (Qao (Qas s.l (s.stamp+1) cs k) x1.ino) a8r.2.1 (by omega) (by first | exact Qa2 (by assumption) | exact Qbc _ _ _ | (rw [List.length_map];first | exact Qa2 (by assumption) | exact Qbc _ _ _ | exact Nat.lt_of_le_of_lt (Nat.zero_le _) (Qa2 (by assumption)) | exact Nat.lt_of_le_of_lt (Nat.zero_le _) (Qbc _ _ _)))) fun _=>
 .op (fdR prog) (100,V4,2,Qao (Qas s.l (s.stamp+1) cs k) x1.ino,0,1,some 84) (fun (_:Unit) σ=>σ.put (some 84) (.ep 100 V4 2 (Qao (Qas s.l (s.stamp+1) cs k) x1.ino) 1)) (Qif) fun _=>
 .op (stR prog) (100,V4,2,Qao (Qas s.l (s.stamp+1) cs k) x1.ino,1,V4,98,2,((Qas s.l (s.stamp+1) cs k).take (Qao (Qas s.l (s.stamp+1) cs k) x1.ino)++(⟨x1.ino,[]⟩:Chn) :: (Qas s.l (s.stamp+1) cs k).drop (Qao (Qas s.l (s.stamp+1) cs k) x1.ino)).map chnA,[AV.sl 7 false (((Qb3 x2.l (s.stamp+1))++[(Qak x1 (s.stamp+1))]).map verA)],none) (fun (_:Unit) σ=>(σ.put (none) .any).setB 100 (.row V4 98 2 ((((Qas s.l (s.stamp+1) cs k).take (Qao (Qas s.l (s.stamp+1) cs k) x1.ino)++(⟨x1.ino,[]⟩:Chn) :: (Qas s.l (s.stamp+1) cs k).drop (Qao (Qas s.l (s.stamp+1) cs k) x1.ino)).map chnA).set (Qao (Qas s.l (s.stamp+1) cs k) x1.ino) ((chnA x2).take 1++[AV.sl 7 false (((Qb3 x2.l (s.stamp+1))++[(Qak x1 (s.stamp+1))]).map verA)]++(chnA x2).drop (1+[AV.sl 7 false (((Qb3 x2.l (s.stamp+1))++[(Qak x1 (s.stamp+1))]).map verA)].length))))) (Qjv (chnA x2) (map_some hx2) (Nat.le_of_ble_eq_true rfl)) fun _=>
 .run 2 [rng .i64 ((k:Int)+1)] ⟨Qai (by omega) (by omega),trivial⟩<|
 .bk L1 (k,V) ((k+1),V4) (show (k+1)≤cs.length from (by show _≤_;omega)) (show cs.length-(k+1)<cs.length-k from (by omega)) [(28,aI ((k:Int)+1))] [(8,.box b5 25 [.rw 100 V4 ((((Qas s.l (s.stamp+1) cs k).take (Qao (Qas s.l (s.stamp+1) cs k) x1.ino)++(⟨x1.ino,[]⟩:Chn) :: (Qas s.l (s.stamp+1) cs k).drop (Qao (Qas s.l (s.stamp+1) cs k) x1.ino)).map chnA).length),.sl 2 false (s.nexts.map cntA),aI (s.stamp+1)]),(100,.row V4 98 2 ((((Qas s.l (s.stamp+1) cs k).take (Qao (Qas s.l (s.stamp+1) cs k) x1.ino)++(⟨x1.ino,[]⟩:Chn) :: (Qas s.l (s.stamp+1) cs k).drop (Qao (Qas s.l (s.stamp+1) cs k) x1.ino)).map chnA).set (Qao (Qas s.l (s.stamp+1) cs k) x1.ino) ((chnA x2).take 1++[AV.sl 7 false (((Qb3 x2.l (s.stamp+1))++[(Qak x1 (s.stamp+1))]).map verA)]++(chnA x2).drop (1+[AV.sl 7 false (((Qb3 x2.l (s.stamp+1))++[(Qak x1 (s.stamp+1))]).map verA)].length))))] ⟨sR,sR,sR,sR,sR,sR,sR,sO,trivial⟩ ⟨sB,sB,⟨_,rfl,SubB.boxs ⟨Sub.of_eq (congrArg (AV.rw 100 V4) (by rw [Qcq hx1,Ziz q2];simp)),sR,sR,trivial⟩⟩,⟨_,rfl,SubB.of_eq (congrArg (Bx.row V4 98 2) (by rw [Qcq hx1];exact Zgt q2 ex2 _ rfl))⟩,trivial⟩)
 <| fun q2=>have q2:=notF q2;have p2:=booT q2;.st (rowR 100) (V,98,2,(Qas s.l (s.stamp+1) cs k).map chnA) (fun _ σ=>σ) (Qb5 100 (by first | exact Qa2 (by assumption) | exact Qbc _ _ _ | (rw [List.length_map];first | exact Qa2 (by assumption) | exact Qbc _ _ _ | exact Nat.lt_of_le_of_lt (Nat.zero_le _) (Qa2 (by assumption)) | exact Nat.lt_of_le_of_lt (Nat.zero_le _) (Qbc _ _ _)))) fun a9r=>
 .u 3 [b5]<|
 .op (ixR prog) (100,V,(Qas s.l (s.stamp+1) cs k).length,2,(Qao (Qas s.l (s.stamp+1) cs k) x1.ino:Int),some 53) (fun (_:Unit) σ=>σ.put (some 53) (.ep 100 V 2 (Qao (Qas s.l (s.stamp+1) cs k) x1.ino) 0)) (Qfj (Qao (Qas s.l (s.stamp+1) cs k) x1.ino) a9r.2.1 (by omega) (by first | exact Qa2 (by assumption) | exact Qbc _ _ _ | (rw [List.length_map];first | exact Qa2 (by assumption) | exact Qbc _ _ _ | exact Nat.lt_of_le_of_lt (Nat.zero_le _) (Qa2 (by assumption)) | exact Nat.lt_of_le_of_lt (Nat.zero_le _) (Qbc _ _ _)))) fun _=>
 .ex (Qdo (l:=(Qas s.l (s.stamp+1) cs k)) (k:=Qao (Qas s.l (s.stamp+1) cs k) x1.ino) (by first | exact Qa2 (by assumption) | exact Qbc _ _ _ | (rw [List.length_map];first | exact Qa2 (by assumption) | exact Qbc _ _ _ | exact Nat.lt_of_le_of_lt (Nat.zero_le _) (Qa2 (by assumption)) | exact Nat.lt_of_le_of_lt (Nat.zero_le _) (Qbc _ _ _)))) fun x3 hx3=>
 have rx3:=Qdt (st:=s.stamp+1) (cs:=cs) hv k (by omega) x3 (List.mem_of_getElem? hx3);.op (fdR prog) (100,V,2,Qao (Qas s.l (s.stamp+1) cs k) x1.ino,0,1,some 54) (fun (_:Unit) σ=>σ.put (some 54) (.ep 100 V 2 (Qao (Qas s.l (s.stamp+1) cs k) x1.ino) 1)) (Qif) fun _=>
 .op (ldR prog) (V,2,Qao (Qas s.l (s.stamp+1) cs k) x1.ino,1,V,2,(Qas s.l (s.stamp+1) cs k).map chnA,96,some 55) (fun (_:Unit) σ=>σ.put (some 55) (.sl 7 false (x3.l.map verA))) (Qp8 (chnA x3) (map_some hx3) (by kernel_rfl)) fun _=>
 .r 1<|.r 2<|.lm 57 x3.l verA<|.run 2 [rng .i64 ((x3.l.length:Int)-1)] ⟨Qai (by omega) (by omega),trivial⟩<|
 .r 3<|.br 61 (decide (((x3.l.length:Int)-1)≥0)) (fun q4=>have p4:=decT q4;.r 2<|.idxM x3.l verA (x3.l.length-1) (m:=(x3.l.length:Int)-1) (by omega) (by omega) fun x4 hx4=>
 .r 5<|.br 69 (x4.stamp==(s.stamp+1)) (fun q5=>have p5:=beqT q5;.r 2<|.slc 7 false (x3.l.map verA) none (some ((x3.l.length:Int)-1)) none 0 (x3.l.length-1) false (.inl ⟨rfl,rfl⟩) (.inr (congrArg some (by omega))) (.inl ⟨rfl,fun h=>by cases h⟩) (by simp<;>omega) (by simp<;>omega)<|
 .r 1<|.st (rowR 100) (V,98,2,(Qas s.l (s.stamp+1) cs k).map chnA) (fun _ σ=>σ) (Qb5 100 (by first | exact Qa2 (by assumption) | exact Qbc _ _ _ | (rw [List.length_map];first | exact Qa2 (by assumption) | exact Qbc _ _ _ | exact Nat.lt_of_le_of_lt (Nat.zero_le _) (Qa2 (by assumption)) | exact Nat.lt_of_le_of_lt (Nat.zero_le _) (Qbc _ _ _)))) fun a10r=>
 .ord [0,1,2,3,4,5,6,7,8,9,10,11,12]<|.u 8 [b5,b6]<|
 .call (Qfg x1 (s.stamp+1))<|
 .cs (args0:=[.sl 7 false (((x3.l.map verA).take (x3.l.length-1)).drop 0),aI ((((x3.l.map verA).take (x3.l.length-1)).drop 0).length:Int),.agg [aI ((Qak x1 (s.stamp+1)).stamp),aB ((Qak x1 (s.stamp+1)).gone),aI ((Qak x1 (s.stamp+1)).n.ino),aI ((Qak x1 (s.stamp+1)).n.kind),aI ((Qak x1 (s.stamp+1)).n.links),aS ((Qak x1 (s.stamp+1)).n.text),.sl 2 false ((Qak x1 (s.stamp+1)).n.l.map entA)]]) (Qjm (Qb3 x3.l (s.stamp+1)) (Qak x1 (s.stamp+1)) (by have:=Qob x3.l (s.stamp+1);have:=Qdt (st:=s.stamp+1) (cs:=cs) hv k (by omega) x3 (List.mem_of_getElem? hx3);omega)) ⟨Sub.of_eq (by rw [Qrr hx4 p5,List.drop_zero,List.map_take]),Sub.of_eq (congrArg aI (by rw [Qrr hx4 p5];simp)),sR,trivial⟩<|
 .op (ixR prog) (100,V,(Qas s.l (s.stamp+1) cs k).length,2,(Qao (Qas s.l (s.stamp+1) cs k) x1.ino:Int),some 83) (fun (_:Unit) σ=>σ.put (some 83) (.ep 100 V 2 (Qao (Qas s.l (s.stamp+1) cs k) x1.ino) 0)) (Qfj (Qao (Qas s.l (s.stamp+1) cs k) x1.ino) a10r.2.1 (by omega) (by first | exact Qa2 (by assumption) | exact Qbc _ _ _ | (rw [List.length_map];first | exact Qa2 (by assumption) | exact Qbc _ _ _ | exact Nat.lt_of_le_of_lt (Nat.zero_le _) (Qa2 (by assumption)) | exact Nat.lt_of_le_of_lt (Nat.zero_le _) (Qbc _ _ _)))) fun _=>
 .op (fdR prog) (100,V,2,Qao (Qas s.l (s.stamp+1) cs k) x1.ino,0,1,some 84) (fun (_:Unit) σ=>σ.put (some 84) (.ep 100 V 2 (Qao (Qas s.l (s.stamp+1) cs k) x1.ino) 1)) (Qif) fun _=>
 .op (stR prog) (100,V,2,Qao (Qas s.l (s.stamp+1) cs k) x1.ino,1,V,98,2,(Qas s.l (s.stamp+1) cs k).map chnA,[AV.sl 7 false (((Qb3 x3.l (s.stamp+1))++[(Qak x1 (s.stamp+1))]).map verA)],none) (fun (_:Unit) σ=>(σ.put (none) .any).setB 100 (.row V 98 2 (((Qas s.l (s.stamp+1) cs k).map chnA).set (Qao (Qas s.l (s.stamp+1) cs k) x1.ino) ((chnA x3).take 1++[AV.sl 7 false (((Qb3 x3.l (s.stamp+1))++[(Qak x1 (s.stamp+1))]).map verA)]++(chnA x3).drop (1+[AV.sl 7 false (((Qb3 x3.l (s.stamp+1))++[(Qak x1 (s.stamp+1))]).map verA)].length))))) (Qjv (chnA x3) (map_some hx3) (Nat.le_of_ble_eq_true rfl)) fun _=>
 .run 2 [rng .i64 ((k:Int)+1)] ⟨Qai (by omega) (by omega),trivial⟩<|
 .bk L1 (k,V) ((k+1),V) (show (k+1)≤cs.length from (by show _≤_;omega)) (show cs.length-(k+1)<cs.length-k from (by omega)) [(28,aI ((k:Int)+1))] [(8,.box b5 25 [.rw 100 V ((Qas s.l (s.stamp+1) cs k).length),.sl 2 false (s.nexts.map cntA),aI (s.stamp+1)]),(100,.row V 98 2 (((Qas s.l (s.stamp+1) cs k).map chnA).set (Qao (Qas s.l (s.stamp+1) cs k) x1.ino) ((chnA x3).take 1++[AV.sl 7 false (((Qb3 x3.l (s.stamp+1))++[(Qak x1 (s.stamp+1))]).map verA)]++(chnA x3).drop (1+[AV.sl 7 false (((Qb3 x3.l (s.stamp+1))++[(Qak x1 (s.stamp+1))]).map verA)].length))))] ⟨sR,sR,sR,sR,sR,sR,sR,sO,trivial⟩ ⟨sB,sB,⟨_,rfl,SubB.boxs ⟨Sub.of_eq (congrArg (AV.rw 100 V) (by rw [Qcq hx1,Qnm q2])),sR,sR,trivial⟩⟩,⟨_,rfl,SubB.of_eq (congrArg (Bx.row V 98 2) (by rw [Qcq hx1];exact Qll q2 hx3 _ rfl))⟩,trivial⟩)
 <| fun q5=>have p5:=beqF q5;.st (rowR 100) (V,98,2,(Qas s.l (s.stamp+1) cs k).map chnA) (fun _ σ=>σ) (Qb5 100 (by first | exact Qa2 (by assumption) | exact Qbc _ _ _ | (rw [List.length_map];first | exact Qa2 (by assumption) | exact Qbc _ _ _ | exact Nat.lt_of_le_of_lt (Nat.zero_le _) (Qa2 (by assumption)) | exact Nat.lt_of_le_of_lt (Nat.zero_le _) (Qbc _ _ _)))) fun a11r=>
 .ord [0,1,2,3,4,5,6,7,8,9,10,11,12]<|.u 6 [b5]<|
 .lm 78 x3.l verA<|.u 2 [b6]<|
 .call (Qfg x1 (s.stamp+1))<|
 .cs (args0:=[.sl 7 false (x3.l.map verA),aI (x3.l.length:Int),.agg [aI ((Qak x1 (s.stamp+1)).stamp),aB ((Qak x1 (s.stamp+1)).gone),aI ((Qak x1 (s.stamp+1)).n.ino),aI ((Qak x1 (s.stamp+1)).n.kind),aI ((Qak x1 (s.stamp+1)).n.links),aS ((Qak x1 (s.stamp+1)).n.text),.sl 2 false ((Qak x1 (s.stamp+1)).n.l.map entA)]]) (Qjm (Qb3 x3.l (s.stamp+1)) (Qak x1 (s.stamp+1)) (by have:=Qob x3.l (s.stamp+1);have:=Qdt (st:=s.stamp+1) (cs:=cs) hv k (by omega) x3 (List.mem_of_getElem? hx3);omega)) ⟨Sub.of_eq (by rw [Qwt hx4 p5]),Sub.of_eq (congrArg aI (by rw [Qwt hx4 p5])),sR,trivial⟩<|
 .op (ixR prog) (100,V,(Qas s.l (s.stamp+1) cs k).length,2,(Qao (Qas s.l (s.stamp+1) cs k) x1.ino:Int),some 83) (fun (_:Unit) σ=>σ.put (some 83) (.ep 100 V 2 (Qao (Qas s.l (s.stamp+1) cs k) x1.ino) 0)) (Qfj (Qao (Qas s.l (s.stamp+1) cs k) x1.ino) a11r.2.1 (by omega) (by first | exact Qa2 (by assumption) | exact Qbc _ _ _ | (rw [List.length_map];first | exact Qa2 (by assumption) | exact Qbc _ _ _ | exact Nat.lt_of_le_of_lt (Nat.zero_le _) (Qa2 (by assumption)) | exact Nat.lt_of_le_of_lt (Nat.zero_le _) (Qbc _ _ _)))) fun _=>
 .op (fdR prog) (100,V,2,Qao (Qas s.l (s.stamp+1) cs k) x1.ino,0,1,some 84) (fun (_:Unit) σ=>σ.put (some 84) (.ep 100 V 2 (Qao (Qas s.l (s.stamp+1) cs k) x1.ino) 1)) (Qif) fun _=>
 .op (stR prog) (100,V,2,Qao (Qas s.l (s.stamp+1) cs k) x1.ino,1,V,98,2,(Qas s.l (s.stamp+1) cs k).map chnA,[AV.sl 7 false (((Qb3 x3.l (s.stamp+1))++[(Qak x1 (s.stamp+1))]).map verA)],none) (fun (_:Unit) σ=>(σ.put (none) .any).setB 100 (.row V 98 2 (((Qas s.l (s.stamp+1) cs k).map chnA).set (Qao (Qas s.l (s.stamp+1) cs k) x1.ino) ((chnA x3).take 1++[AV.sl 7 false (((Qb3 x3.l (s.stamp+1))++[(Qak x1 (s.stamp+1))]).map verA)]++(chnA x3).drop (1+[AV.sl 7 false (((Qb3 x3.l (s.stamp+1))++[(Qak x1 (s.stamp+1))]).map verA)].length))))) (Qjv (chnA x3) (map_some hx3) (Nat.le_of_ble_eq_true rfl)) fun _=>
 .run 2 [rng .i64 ((k:Int)+1)] ⟨Qai (by omega) (by omega),trivial⟩<|
 .bk L1 (k,V) ((k+1),V) (show (k+1)≤cs.length from (by show _≤_;omega)) (show cs.length-(k+1)<cs.length-k from (by omega)) [(28,aI ((k:Int)+1))] [(8,.box b5 25 [.rw 100 V ((Qas s.l (s.stamp+1) cs k).length),.sl 2 false (s.nexts.map cntA),aI (s.stamp+1)]),(100,.row V 98 2 (((Qas s.l (s.stamp+1) cs k).map chnA).set (Qao (Qas s.l (s.stamp+1) cs k) x1.ino) ((chnA x3).take 1++[AV.sl 7 false (((Qb3 x3.l (s.stamp+1))++[(Qak x1 (s.stamp+1))]).map verA)]++(chnA x3).drop (1+[AV.sl 7 false (((Qb3 x3.l (s.stamp+1))++[(Qak x1 (s.stamp+1))]).map verA)].length))))] ⟨sR,sR,sR,sR,sR,sR,sR,sO,trivial⟩ ⟨sB,sB,⟨_,rfl,SubB.boxs ⟨Sub.of_eq (congrArg (AV.rw 100 V) (by rw [Qcq hx1,Qnm q2])),sR,sR,trivial⟩⟩,⟨_,rfl,SubB.of_eq (congrArg (Bx.row V 98 2) (by rw [Qcq hx1];exact Qll q2 hx3 _ rfl))⟩,trivial⟩)
 <| fun q4=>have p4:=decF q4;.r 8<|.st (rowR 100) (V,98,2,(Qas s.l (s.stamp+1) cs k).map chnA) (fun _ σ=>σ) (Qb5 100 (by first | exact Qa2 (by assumption) | exact Qbc _ _ _ | (rw [List.length_map];first | exact Qa2 (by assumption) | exact Qbc _ _ _ | exact Nat.lt_of_le_of_lt (Nat.zero_le _) (Qa2 (by assumption)) | exact Nat.lt_of_le_of_lt (Nat.zero_le _) (Qbc _ _ _)))) fun a12r=>
 .ord [0,1,2,3,4,5,6,7,8,9,10,11,12]<|.u 6 [b5]<|
 .lm 78 x3.l verA<|.u 2 [b6]<|
 .call (Qfg x1 (s.stamp+1))<|
 .cs (args0:=[.sl 7 false (x3.l.map verA),aI (x3.l.length:Int),.agg [aI ((Qak x1 (s.stamp+1)).stamp),aB ((Qak x1 (s.stamp+1)).gone),aI ((Qak x1 (s.stamp+1)).n.ino),aI ((Qak x1 (s.stamp+1)).n.kind),aI ((Qak x1 (s.stamp+1)).n.links),aS ((Qak x1 (s.stamp+1)).n.text),.sl 2 false ((Qak x1 (s.stamp+1)).n.l.map entA)]]) (Qjm (Qb3 x3.l (s.stamp+1)) (Qak x1 (s.stamp+1)) (by have:=Qob x3.l (s.stamp+1);have:=Qdt (st:=s.stamp+1) (cs:=cs) hv k (by omega) x3 (List.mem_of_getElem? hx3);omega)) ⟨Sub.of_eq (by rw [show Qb3 x3.l (s.stamp+1)=x3.l from by rw [show x3.l=[] from List.eq_nil_of_length_eq_zero (by omega)];rfl]),Sub.of_eq (congrArg aI (by rw [show Qb3 x3.l (s.stamp+1)=x3.l from by rw [show x3.l=[] from List.eq_nil_of_length_eq_zero (by omega)];rfl])),sR,trivial⟩<|
 .op (ixR prog) (100,V,(Qas s.l (s.stamp+1) cs k).length,2,(Qao (Qas s.l (s.stamp+1) cs k) x1.ino:Int),some 83) (fun (_:Unit) σ=>σ.put (some 83) (.ep 100 V 2 (Qao (Qas s.l (s.stamp+1) cs k) x1.ino) 0)) (Qfj (Qao (Qas s.l (s.stamp+1) cs k) x1.ino) a12r.2.1 (by omega) (by first | exact Qa2 (by assumption) | exact Qbc _ _ _ | (rw [List.length_map];first | exact Qa2 (by assumption) | exact Qbc _ _ _ | exact Nat.lt_of_le_of_lt (Nat.zero_le _) (Qa2 (by assumption)) | exact Nat.lt_of_le_of_lt (Nat.zero_le _) (Qbc _ _ _)))) fun _=>
 .op (fdR prog) (100,V,2,Qao (Qas s.l (s.stamp+1) cs k) x1.ino,0,1,some 84) (fun (_:Unit) σ=>σ.put (some 84) (.ep 100 V 2 (Qao (Qas s.l (s.stamp+1) cs k) x1.ino) 1)) (Qif) fun _=>
 .op (stR prog) (100,V,2,Qao (Qas s.l (s.stamp+1) cs k) x1.ino,1,V,98,2,(Qas s.l (s.stamp+1) cs k).map chnA,[AV.sl 7 false (((Qb3 x3.l (s.stamp+1))++[(Qak x1 (s.stamp+1))]).map verA)],none) (fun (_:Unit) σ=>(σ.put (none) .any).setB 100 (.row V 98 2 (((Qas s.l (s.stamp+1) cs k).map chnA).set (Qao (Qas s.l (s.stamp+1) cs k) x1.ino) ((chnA x3).take 1++[AV.sl 7 false (((Qb3 x3.l (s.stamp+1))++[(Qak x1 (s.stamp+1))]).map verA)]++(chnA x3).drop (1+[AV.sl 7 false (((Qb3 x3.l (s.stamp+1))++[(Qak x1 (s.stamp+1))]).map verA)].length))))) (Qjv (chnA x3) (map_some hx3) (Nat.le_of_ble_eq_true rfl)) fun _=>
 .run 2 [rng .i64 ((k:Int)+1)] ⟨Qai (by omega) (by omega),trivial⟩<|
 .bk L1 (k,V) ((k+1),V) (show (k+1)≤cs.length from (by show _≤_;omega)) (show cs.length-(k+1)<cs.length-k from (by omega)) [(28,aI ((k:Int)+1))] [(8,.box b5 25 [.rw 100 V ((Qas s.l (s.stamp+1) cs k).length),.sl 2 false (s.nexts.map cntA),aI (s.stamp+1)]),(100,.row V 98 2 (((Qas s.l (s.stamp+1) cs k).map chnA).set (Qao (Qas s.l (s.stamp+1) cs k) x1.ino) ((chnA x3).take 1++[AV.sl 7 false (((Qb3 x3.l (s.stamp+1))++[(Qak x1 (s.stamp+1))]).map verA)]++(chnA x3).drop (1+[AV.sl 7 false (((Qb3 x3.l (s.stamp+1))++[(Qak x1 (s.stamp+1))]).map verA)].length))))] ⟨sR,sR,sR,sR,sR,sR,sR,sO,trivial⟩ ⟨sB,sB,⟨_,rfl,SubB.boxs ⟨Sub.of_eq (congrArg (AV.rw 100 V) (by rw [Qcq hx1,Qnm q2])),sR,sR,trivial⟩⟩,⟨_,rfl,SubB.of_eq (congrArg (Bx.row V 98 2) (by rw [Qcq hx1];exact Qll q2 hx3 _ rfl))⟩,trivial⟩)
 <| fun q1=>have p1:=decF q1;.u 3 [b1]<|
 .lm 88 s.nexts cntA<|.run 2 [rng .i64 ((s.nexts.length:Int)-1)] ⟨Qai (by omega) (by omega),trivial⟩<|
 .r 3<|.br 92 (decide (((s.nexts.length:Int)-1)<0)) (fun q6=>have p6:=decT q6;.r 9<|.u 5 [b1,b1]<|
 .lm 106 s.nexts cntA<|.r 3<|.call (Qr7 s.nexts (⟨s.stamp+1,next⟩:Cnt) (by omega))<|
 .u 2 [b5]<|
 .u 2 [b5,b2]<|
 .frz 100 [6] [6] [V=V,(Qas s.l (s.stamp+1) cs k).length=((Qas s.l (s.stamp+1) cs k).map chnA).length] ⟨rfl,(by first | rfl | (simp;done) | (simp;omega)),trivial⟩<|
 .f (.agg (stoA (Qdd s cs next))) [b2] (.agg [.sl 2 false ((Qas s.l (s.stamp+1) cs k).map chnA),.sl 2 false ((s.nexts++[(⟨s.stamp+1,next⟩:Cnt)]).map cntA),aI (s.stamp+1)]) (by
  obtain rfl:k=cs.length:=by omega
  refine Sub.of_eq ?_;rw [show stoA (Qdd s cs next)=stoA ⟨Qas s.l (s.stamp+1) cs cs.length,Qc6 s next,s.stamp+1⟩ from rfl,Zac (by omega)];rfl))
 <| fun q6=>have p6:=decF q6;.u 4 [b1]<|
 .idxM s.nexts cntA (s.nexts.length-1) (m:=(s.nexts.length:Int)-1) (by omega) (by omega) fun x5 hx5=>
 .r 4<|.br 101 (decide (next>x5.next)) (fun q7=>have p7:=decT q7;.u 5 [b1,b1]<|
 .lm 106 s.nexts cntA<|.r 3<|.call (Qr7 s.nexts (⟨s.stamp+1,next⟩:Cnt) (by omega))<|
 .u 2 [b5]<|
 .u 2 [b5,b2]<|
 .frz 100 [6] [6] [V=V,(Qas s.l (s.stamp+1) cs k).length=((Qas s.l (s.stamp+1) cs k).map chnA).length] ⟨rfl,(by first | rfl | (simp;done) | (simp;omega)),trivial⟩<|
 .f (.agg (stoA (Qdd s cs next))) [b2] (.agg [.sl 2 false ((Qas s.l (s.stamp+1) cs k).map chnA),.sl 2 false ((s.nexts++[(⟨s.stamp+1,next⟩:Cnt)]).map cntA),aI (s.stamp+1)]) (by
  obtain rfl:k=cs.length:=by omega
  refine Sub.of_eq ?_;rw [show stoA (Qdd s cs next)=stoA ⟨Qas s.l (s.stamp+1) cs cs.length,Qc6 s next,s.stamp+1⟩ from rfl,Qnf hx5 (by assumption)];rfl))
 <| fun q7=>have p7:=decF q7;.u 2 [b5,b2]<|
 .frz 100 [6] [6] [V=V,(Qas s.l (s.stamp+1) cs k).length=((Qas s.l (s.stamp+1) cs k).map chnA).length] ⟨rfl,(by first | rfl | (simp;done) | (simp;omega)),trivial⟩<|
 .f (.agg (stoA (Qdd s cs next))) [b2] (.agg [.sl 2 false ((Qas s.l (s.stamp+1) cs k).map chnA),.sl 2 false (s.nexts.map cntA),aI (s.stamp+1)]) (by
  obtain rfl:k=cs.length:=by omega
  refine Sub.of_eq ?_;rw [show stoA (Qdd s cs next)=stoA ⟨Qas s.l (s.stamp+1) cs cs.length,Qc6 s next,s.stamp+1⟩ from rfl,Qxr hx5 (by assumption)];rfl)) a1.1 a1.2 ha1) j1.1 j1.2)
def nodG (c:Chg):Nod:=⟨c.ino,c.n.kind,c.n.links,c.n.text,c.n.l⟩
def OkCh (c:Chg):Prop:=I64 c.ino∧OkN c.n
theorem Zkf {r:List Ver} {st:Int}:∀ v∈Qb3 r st,v∈r:=by
 intro v hv;unfold Qb3 at hv
 split at hv
 ·split at hv
  ·exact List.mem_of_mem_take hv
  ·exact hv
 ·exact hv
theorem Zmk {P:Chn→Prop} {l:List Chn} {st n:Int} {v:Ver} (hl:∀ c∈l,P c) (h1:P ⟨n,[v]⟩) (h2:∀ d∈l,P ⟨d.ino,Qb3 d.l st++[v]⟩):∀ c∈putC l st n v,P c:=by
 intro c hc;unfold putC at hc
 split at hc
 ·split at hc
  ·rename_i d hd;rcases List.mem_or_eq_of_mem_set hc with hc | rfl
   ·exact hl c hc
   ·exact h2 d (List.mem_of_getElem? hd)
  ·exact hl c hc
 ·rcases List.mem_append.1 hc with hc | hc
  ·exact hl c (List.mem_of_mem_take hc)
  ·rcases List.mem_cons.1 hc with rfl | hc
   ·exact h1
   ·exact hl c (List.mem_of_mem_drop hc)
def Qoo (l:List Chn) (st:Int) (cs:List Chg):List Chn:=cs.foldl (fun l c=>putC l st c.ino (Qak c st)) l
theorem Qqx (l:List Chn) (st:Int) (cs:List Chg):Qas l st cs cs.length=Qoo l st cs:=by unfold Qas Qoo;rw [List.take_length]
theorem Qnt {P:Chn→Prop} {st:Int}:∀ {cs:List Chg} {l:List Chn},(∀ c∈l,P c)→(∀ c∈cs,P ⟨c.ino,[Qak c st]⟩)→(∀ c∈cs,∀ d,P d→P ⟨d.ino,Qb3 d.l st++[Qak c st]⟩)→∀ c∈Qoo l st cs,P c
 | [],l,hl,_,_=>hl
 | x :: r,l,hl,h1,h2=>Qnt (cs:=r) (l:=putC l st x.ino (Qak x st)) (Zmk hl (h1 x (List.mem_cons_self ..)) (fun d hd=>h2 x (List.mem_cons_self ..) d (hl d hd))) (fun c hc=>h1 c (List.mem_cons_of_mem _ hc)) (fun c hc=>h2 c (List.mem_cons_of_mem _ hc))
theorem Qcc (c:Chg) (st:Int):(Qak c st).stamp=st:=by unfold Qak;split<;>rfl
theorem Qmm {c:Chg} {st:Int} (h:OkCh c) (hs:I64 st):OkV (Qak c st):=by
 unfold Qak
 split
 ·exact ⟨hs,Qk6⟩
 ·exact ⟨hs,h.1,h.2.2⟩
def OkD (c:Chn):Prop:=I64 c.ino∧∀ v∈c.l,OkV v
theorem Zi6 {l:List Chn} {st:Int} {cs:List Chg} (hs:I64 st) (hl:∀ c∈l,OkD c) (hc:∀ c∈cs,OkCh c):∀ c∈Qoo l st cs,OkD c:=
 Qnt hl (fun c h=>⟨(hc c h).1,fun v hv=>by obtain rfl:=List.mem_singleton.1 hv;exact Qmm (hc c h) hs⟩)
  (fun c h d hd=>⟨hd.1,fun v hv=>by
   rcases List.mem_append.1 hv with hv | hv
   ·exact hd.2 v (Zkf v hv)
   ·obtain rfl:=List.mem_singleton.1 hv;exact Qmm (hc c h) hs⟩)
theorem Zdw {s:Sto} {next:Int} (oks:OkS s) (hn:I64 next) (hs:I64 (s.stamp+1)):∀ c∈Qc6 s next,OkK c:=by
 have key:∀ c∈s.nexts++[(⟨s.stamp+1,next⟩:Cnt)],OkK c:=fun c hc=>by
  rcases List.mem_append.1 hc with hc | hc
  ·exact oks.2.2.2.2 c hc
  ·obtain rfl:=List.mem_singleton.1 hc;exact ⟨hs,hn⟩
 intro c hc;unfold Qc6 at hc
 split at hc
 ·split at hc
  ·exact key c hc
  ·exact oks.2.2.2.2 c hc
 ·exact key c hc
theorem Zad (s:Sto) (next:Int):(Qc6 s next).length≤s.nexts.length+1:=by
 unfold Qc6
 split
 ·split
  ·simp
  ·omega
 ·simp
structure Fit (s:Sto) (B:Nat):Prop where
 ok:OkS s
 l:s.l.length≤B
 n:s.nexts.length≤B
 r:∀ c∈s.l,c.l.length≤B
theorem Fit.inst {s:Sto} {B:Nat} {cs:List Chg} {next:Int} (h:Fit s B) (hc:∀ c∈cs,OkCh c) (hn:I64 next) (hs:s.stamp<9223372036854775807) (hB:B+1+cs.length≤100000):Fit (Qdd s cs next) (B+1+cs.length):=by
 have hst:I64 (s.stamp+1):=⟨by have:=h.ok.1.1;omega,by omega⟩
 have h1:=Qgk s.l (s.stamp+1) cs cs.length;have h2:=Qdt (st:=s.stamp+1) (cs:=cs) h.r cs.length (Nat.le_refl _);have h3:=Zad s next
 have h4:∀ c∈Qas s.l (s.stamp+1) cs cs.length,OkD c:=by
  rw [Qqx];exact Zi6 hst (fun c hc=>⟨(h.ok.2.2.2.1 c hc).1,(h.ok.2.2.2.1 c hc).2.2⟩) hc
 have hl:=h.l;have hn2:=h.n;refine ⟨⟨hst,?_,?_,fun c hc=>⟨(h4 c hc).1,?_,(h4 c hc).2⟩,Zdw h.ok hn hst⟩,?_,?_,fun c hc=>?_⟩
 ·show (Qas s.l (s.stamp+1) cs cs.length).length≤_;omega
 ·show (Qc6 s next).length≤_;omega
 ·have:=h2 c hc;omega
 ·show (Qas s.l (s.stamp+1) cs cs.length).length≤_;omega
 ·show (Qc6 s next).length≤_;omega
 ·have:=h2 c hc;omega
theorem Zfn {s:Sto} (oks:OkS s) (h:few s):Fit s 200:=by
 obtain ⟨h1,h2,h3⟩:=Qyh h;refine ⟨oks,h1,h2,fun c hc=>?_⟩;have:c.l.length≤(s.l.map (fun c=>c.l.length)).sum:=by
  clear h h1 h2 h3
  revert hc
  generalize s.l=l;intro hc
  induction l with
  | nil=>cases hc
  | cons d r ih=>
   simp only [List.map_cons,List.sum_cons];rcases List.mem_cons.1 hc with rfl | hc
   ·omega
   ·have:=ih hc;omega
 unfold Zmy at h3;omega
structure Abs where
 ino:Int
 last:Option (Bool × Nod)
 later:Bool
theorem Zdx {s:Sto} {b:Int} (h:∀ c∈s.nexts,c.stamp≤b):Qj4 s b=match s.nexts[s.nexts.length-1]? with | some c=>c.next | none=>1:=by
 unfold Qj4 atD;rw [Qrl (f:=Cnt.stamp) h (Int.le_refl b)];by_cases h0:s.nexts.length=0
 ·rw [if_pos h0,List.eq_nil_of_length_eq_zero h0];rfl
 ·rw [if_neg h0];cases s.nexts[s.nexts.length-1]?<;>rfl
theorem Qsk {s:Sto} (hp:Qch s):∀ c∈s.l,∀ v∈c.l,v.stamp≤s.stamp:=fun c hc v hv=>by
 obtain ⟨k,hk⟩:=List.getElem?_of_mem hc;obtain ⟨j,hj⟩:=List.getElem?_of_mem hv;exact ((hp.2.2.2.at hk).1.2.1.2.at hj).2.1
theorem Qs6 {s:Sto} (hp:Qch s):∀ c∈s.nexts,1≤c.next:=fun c hc=>by
 obtain ⟨k,hk⟩:=List.getElem?_of_mem hc;exact hp.2.2.1.at hk
end Go.Proofs.YtahlldgocpabjaaGreat
