import Derived.Test.YtahlldgocpabjaaGreatMrgAI
import Derived.Test.YtahlldgocpabjaaGreatMrgAB
import Derived.Test.YtahlldgocpabjaaGreatMrgAH
import Derived.Test.YtahlldgocpabjaaGreatMrgAD
set_option maxRecDepth 100000
set_option maxHeartbeats 8000000
set_option linter.unusedVariables false
set_option linter.unusedSimpArgs false
namespace Go.Proofs.YtahlldgocpabjaaGreat
open Go Go.RowKit Copyhold
noncomputable def Qa6:Txn→List Cal→Txn
 | t,[]=>t
 | t,c :: r=>Qa6 (Qa7 t c) r
theorem Qm3:∀ (a b:List Cal) (t:Txn),Qa6 t (a++b)=Qa6 (Qa6 t a) b
 | [],_,_=>rfl
 | c :: r,b,t=>Qm3 r b (Qa7 t c)
theorem Qvx {t:Txn} {l:List Cal} {k:Nat} {x:Cal} (h:l[k]?=some x):Qa6 t (l.take (k+1))=Qa7 (Qa6 t (l.take k)) x:=by
 rw [Qap h,Qm3];rfl
theorem Qh2:∀ (l:List Cal) (t:Txn),(Qa6 t l).now=plF t.now l
 | [],_=>rfl
 | c :: r,t=>Qh2 r (Qa7 t c)
theorem Qk3:∀ (l:List Cal) (t:Txn),(Qa6 t l).was=t.was
 | [],_=>rfl
 | c :: r,t=>Qk3 r (Qa7 t c)
theorem Qk4:∀ (l:List Cal) (t:Txn),(Qa6 t l).stamp=t.stamp
 | [],_=>rfl
 | c :: r,t=>Qk4 r (Qa7 t c)
theorem Qpy:∀ (l:List Cal) (t:Txn),(Qa6 t l).looks.length≤t.looks.length+7*l.length
 | [],_=>by show _≤_;simp [Qa6]
 | c :: r,t=>by
  have h1:=Qpy r (Qa7 t c)
  have h2:=Qh3 t c
  show (Qa6 (Qa7 t c) r).looks.length≤_
  rw [List.length_cons]
  omega
theorem Qx0 {t:Txn} {l:List Cal} {k:Nat} {x:Cal} (h:l[k]?=some x):plR t.now (l.take (k+1))=plR t.now (l.take k)++[(doF (Qa6 t (l.take k)).now x).2]:=by
 rw [Zd2 h,Qh2]
structure KeptT (t u:Txn) (k:Nat):Prop where
 now:KeptN t.now u.now k
 ok:OkT u
 was:u.was=t.was
 len:u.looks.length≤t.looks.length+7*k
theorem Qw0 {t:Txn} (okt:OkT t) (T:TreeP t.now) {l:List Cal} (hl:l.length≤1000) (ok:∀ c∈l,OkCal c) (hx:t.now.next<1152921504606847976) (hk0:t.looks.length≤1000) {k:Nat} (hk:k≤l.length):KeptT t (Qa6 t (l.take k)) k:=by
 have h1:=Zan okt.now T hl ok hx k hk
 have h2:=Qpy (l.take k) t
 rw [List.length_take,Nat.min_eq_left hk] at h2
 exact ⟨by rw [Qh2];exact h1,⟨by rw [Qk4];exact okt.stamp,by rw [Qk3];exact okt.was,by rw [Qh2];exact h1.ok,by omega⟩,Qk3 _ _,h2⟩
theorem Zfz {s:Sto} (oks:OkS s):OkT (Qae s):=⟨oks.1,Qxu oks _,Qxu oks _,by show ([]:List Int).length≤_;simp⟩
noncomputable def runD (s:Sto) (l:List Cal):Sto:=(Qcm s (Qa6 (Qae s) l)).1
theorem Zdo (s:Sto) (l:List Cal) (ms:MidS s) (T:TreeP (Qae s).now) (hl:l.length≤1000) (ok:∀ c∈l,OkCal c) (hx:(Qae s).now.next<1152921504606847976):Qaj Tryz.prog 32 [.agg [.sl 2 false (s.l.map chnA),.sl 2 false (s.nexts.map cntA),aI s.stamp],.sl 8 false (l.map calA)] (.tup [.agg (stoA (runD s l)),.sl 6 false ((plR (Qae s).now l).map repA)]):=by
 exact Qac (F:=Tryz.f32) 400 (
 .new fun b1=>.new fun b2=>.r 1<|.run 1 [b1=b1] rt1<|
 .call (Qej s ms.ok (by have:=ms.l;omega))<|
 .new fun b3=>.run 1 [b3=b3] rt1<|
 .r 2<|.val 13 (show (aI ((l.map calA).length:Int):AV)=aI (l.length:Int) from by rw [List.length_map])<|.op (mkN Tryz.prog) (59,(l.length:Int),(l.length:Int),45,[aI 0,aI 0,aI 0,aI 0,aS ([]),aN],14) (fun (V:Value) σ=>(σ.put (some 14) (.rw 14 V l.length)).setB 14 (.row V 45 6 (List.replicate l.length [aI 0,aI 0,aI 0,aI 0,aS ([]),aN]))) (Zdr l.length 72 (by kernel_rfl) (by omega) (by omega) (by omega)) fun V1=>
 .r 1<|.r 2<|.val 16 (show (aI ((l.map calA).length:Int):AV)=aI (l.length:Int) from by rw [List.length_map])<|.r 1<|let L1:Lp (Nat):=⟨fun a1=>⟨[(2,.ptr 2 b1 0),(4,.ptr 4 b2 0),(6,.ptr 6 b3 0),(7,.rw 14 V1 l.length),(15,.sl 8 false (l.map calA)),(16,aI (l.length:Int)),(17,aI (a1:Int))],[(2,.box b1 25 [.sl 2 false (s.l.map chnA),.sl 2 false (s.nexts.map cntA),aI s.stamp]),(4,.box b2 25 [aN,aN,aI 0]),(6,.box b3 31 [aI ((Qa6 (Qae s) (l.take a1)).stamp),.sl 5 false ((Qa6 (Qae s) (l.take a1)).was.l.map nodA),aI ((Qa6 (Qae s) (l.take a1)).was.next),.sl 5 false ((Qa6 (Qae s) (l.take a1)).now.l.map nodA),aI ((Qa6 (Qae s) (l.take a1)).now.next),.sl 1 false ((Qa6 (Qae s) (l.take a1)).looks.map intA)]),(14,.row V1 45 6 (prow (plR (Qae s).now (l.take a1)) l.length))]⟩,fun a1=>l.length-a1,fun a1=>a1≤l.length⟩
 .loop L1 0 (show 0≤l.length from Nat.zero_le _) ⟨[(2,.ptr 2 b1 0),(4,.ptr 4 b2 0),(6,.ptr 6 b3 0),(7,.rw 14 V1 l.length),(15,.sl 8 false (l.map calA)),(16,aI (l.length:Int)),(17,aI 0)],[(2,.box b1 25 [.sl 2 false (s.l.map chnA),.sl 2 false (s.nexts.map cntA),aI s.stamp]),(4,.box b2 25 [aN,aN,aI 0]),(6,.box b3 31 [aI ((Qae s).stamp),.sl 5 false ((Qae s).was.l.map nodA),aI ((Qae s).was.next),.sl 5 false ((Qae s).now.l.map nodA),aI ((Qae s).now.next),.sl 1 false ((Qae s).looks.map intA)]),(14,.row V1 45 6 (List.replicate l.length [aI 0,aI 0,aI 0,aI 0,aS ([]),aN]))]⟩ ⟨sR,sR,sR,sR,sR,sR,Sub.of_eq (congrArg aI (by first | omega | rfl)),trivial⟩ ⟨⟨_,rfl,SubB.refl _⟩,⟨_,rfl,SubB.refl _⟩,⟨_,rfl,SubB.of_eq rfl⟩,⟨_,rfl,SubB.of_eq rfl⟩,trivial⟩ fun a1 ha1=>
 (fun (k:Nat) (hH1:k≤l.length)=>have kt:=Qw0 (Zfz ms.ok) T hl ok hx (Nat.zero_le _) (k:=k) (by omega);have kp:=kt.now;have kp2:=kp.next;have kl:=kt.len;have kl0:(Qae s).looks.length=0:=rfl;.r 1<|.br 18 (decide ((k:Int)<(l.length:Int))) (fun q1=>have p1:=decT q1;.r 1<|.idxM l calA k (m:=(k:Int)) rfl (by omega) fun x1 hx1=>
 have okx1:=ok x1 (List.mem_of_getElem? hx1);.r 1<|.new fun b4=>.run 2 [b4=b4] rt1<|
 .st (rowR 14) (V1,45,6,prow (plR (Qae s).now (l.take k)) l.length) (fun _ σ=>σ) (Qbz 14 (by first | omega | (rw [Qoj (by rw [Qhm,List.length_take];omega)];omega))) fun a5r=>
 .run 4 [b3=b3,b4=b4] rt2<|
 .call (Qk5 (Qa6 (Qae s) (l.take k)) x1 kp.ok okx1 kp.tree.rows (by omega) (by omega))<|
 .run 4 [b3=b3] rt1<|
 .op (ixR Tryz.prog) (14,V1,l.length,6,(k:Int),some 30) (fun (_:Unit) σ=>σ.put (some 30) (.ep 14 V1 6 k 0)) (Qer k a5r.2.1 (by omega) (by first | omega | (rw [Qoj (by rw [Qhm,List.length_take];omega)];omega))) fun _=>
 .op (stR Tryz.prog) (14,V1,6,k,0,V1,45,6,prow (plR (Qae s).now (l.take k)) l.length,[aI ((doF (Qa6 (Qae s) (l.take k)).now x1).2.e),aI ((doF (Qa6 (Qae s) (l.take k)).now x1).2.a),aI ((doF (Qa6 (Qae s) (l.take k)).now x1).2.b),aI ((doF (Qa6 (Qae s) (l.take k)).now x1).2.n),aS ((doF (Qa6 (Qae s) (l.take k)).now x1).2.text),AV.sl 1 false ((doF (Qa6 (Qae s) (l.take k)).now x1).2.names.map txA)],none) (fun (_:Unit) σ=>(σ.put (none) .any).setB 14 (.row V1 45 6 ((prow (plR (Qae s).now (l.take k)) l.length).set k ((zRA ()).take 0++[aI ((doF (Qa6 (Qae s) (l.take k)).now x1).2.e),aI ((doF (Qa6 (Qae s) (l.take k)).now x1).2.a),aI ((doF (Qa6 (Qae s) (l.take k)).now x1).2.b),aI ((doF (Qa6 (Qae s) (l.take k)).now x1).2.n),aS ((doF (Qa6 (Qae s) (l.take k)).now x1).2.text),AV.sl 1 false ((doF (Qa6 (Qae s) (l.take k)).now x1).2.names.map txA)]++(zRA ()).drop (0+[aI ((doF (Qa6 (Qae s) (l.take k)).now x1).2.e),aI ((doF (Qa6 (Qae s) (l.take k)).now x1).2.a),aI ((doF (Qa6 (Qae s) (l.take k)).now x1).2.b),aI ((doF (Qa6 (Qae s) (l.take k)).now x1).2.n),aS ((doF (Qa6 (Qae s) (l.take k)).now x1).2.text),AV.sl 1 false ((doF (Qa6 (Qae s) (l.take k)).now x1).2.names.map txA)].length))))) (Qh7 (zRA ()) (Zd0 (by rw [Qhm,List.length_take];omega) (by omega)) (Nat.le_of_ble_eq_true rfl)) fun _=>
 .run 2 [rng .i64 ((k:Int)+1)] ⟨Qas (by omega) (by omega),trivial⟩<|
 .back L1 k (k+1) (show (k+1)≤l.length from (by show _≤_;omega)) (show l.length-(k+1)<l.length-k from (by omega)) ⟨[(2,.ptr 2 b1 0),(4,.ptr 4 b2 0),(6,.ptr 6 b3 0),(7,.rw 14 V1 l.length),(15,.sl 8 false (l.map calA)),(16,aI (l.length:Int)),(17,aI ((k:Int)+1))],[(2,.box b1 25 [.sl 2 false (s.l.map chnA),.sl 2 false (s.nexts.map cntA),aI s.stamp]),(4,.box b2 25 [aN,aN,aI 0]),(6,.box b3 31 [aI ((Qa7 (Qa6 (Qae s) (l.take k)) x1).stamp),.sl 5 false ((Qa7 (Qa6 (Qae s) (l.take k)) x1).was.l.map nodA),aI ((Qa7 (Qa6 (Qae s) (l.take k)) x1).was.next),.sl 5 false ((Qa7 (Qa6 (Qae s) (l.take k)) x1).now.l.map nodA),aI ((Qa7 (Qa6 (Qae s) (l.take k)) x1).now.next),.sl 1 false ((Qa7 (Qa6 (Qae s) (l.take k)) x1).looks.map intA)]),(14,.row V1 45 6 ((prow (plR (Qae s).now (l.take k)) l.length).set k ((zRA ()).take 0++[aI ((doF (Qa6 (Qae s) (l.take k)).now x1).2.e),aI ((doF (Qa6 (Qae s) (l.take k)).now x1).2.a),aI ((doF (Qa6 (Qae s) (l.take k)).now x1).2.b),aI ((doF (Qa6 (Qae s) (l.take k)).now x1).2.n),aS ((doF (Qa6 (Qae s) (l.take k)).now x1).2.text),AV.sl 1 false ((doF (Qa6 (Qae s) (l.take k)).now x1).2.names.map txA)]++(zRA ()).drop (0+[aI ((doF (Qa6 (Qae s) (l.take k)).now x1).2.e),aI ((doF (Qa6 (Qae s) (l.take k)).now x1).2.a),aI ((doF (Qa6 (Qae s) (l.take k)).now x1).2.b),aI ((doF (Qa6 (Qae s) (l.take k)).now x1).2.n),aS ((doF (Qa6 (Qae s) (l.take k)).now x1).2.text),AV.sl 1 false ((doF (Qa6 (Qae s) (l.take k)).now x1).2.names.map txA)].length))))]⟩ ⟨sR,sR,sR,sR,sR,sR,Sub.of_eq (congrArg aI (by first | omega | rfl)),trivial⟩ ⟨⟨_,rfl,SubB.refl _⟩,⟨_,rfl,SubB.refl _⟩,⟨_,rfl,SubB.of_eq (by rw [Qvx hx1])⟩,⟨_,rfl,SubB.of_eq (by rw [Qx0 hx1];exact congrArg _ (Zdz (v:=(doF (Qa6 (Qae s) (l.take k)).now x1).2) (by rw [Qhm,List.length_take];omega) (by omega)))⟩,trivial⟩)
 <| fun q1=>have p1:=decF q1;.run 2 [b1=b1,b3=b3] rt2<|
 .call (Qmf s (Qa6 (Qae s) (l.take k)) ms kt.ok (by rw [kt.was];exact T.rows) kp.tree.rows)<|
 .run 4 [b1=b1] rt1<|
 .run 4 [b1=b1,b2=b2] rt2<|
 .frz 14 [4,5] [4] [V1=V1,l.length=(prow (plR (Qae s).now (l.take k)) l.length).length] ⟨rfl,(Qoj (by rw [Qhm,List.length_take];omega)).symm,trivial⟩<|
 .fin (x:=.tup [.agg [.sl 2 false ((Qcm s (Qa6 (Qae s) (l.take k))).1.l.map chnA),.sl 2 false ((Qcm s (Qa6 (Qae s) (l.take k))).1.nexts.map cntA),aI ((Qcm s (Qa6 (Qae s) (l.take k))).1.stamp)],.sl 6 false (prow (plR (Qae s).now (l.take k)) l.length)]) (r:=.tup [.agg (stoA (runD s l)),.sl 6 false ((plR (Qae s).now l).map repA)]) [b2=b2] rt1 (by
  unfold runD
  rw [show l.take k=l from Qay (by omega),Qzh (Qhm _ _)]
  first | exact sR | exact Sub.tups ⟨sR,Sub.loose _ _ _,trivial⟩)) a1 ha1) Tryz.func32 rfl (by kernel_rfl) (by kernel_rfl)
theorem Qxe {f g:Fsy} (okf:OkF f) (okg:OkF g):∀ c∈Qcd f g,OkCh c:=fun c hc=>by
 obtain ⟨i,hi,h⟩:=List.mem_filterMap.1 hc
 have hI:I64 i:=by
  rcases Qrr.1 hi with h | h
  ·obtain ⟨n,hn,rfl⟩:=List.mem_map.1 h
   exact (okf.2.2 n hn).1
  ·obtain ⟨n,hn,rfl⟩:=List.mem_map.1 h
   exact (okg.2.2 n hn).1
 unfold chgD at h
 split at h
 ·obtain rfl:=Option.some.inj h
  exact ⟨hI,Qor⟩
 ·rename_i hb
  split at h
  ·obtain rfl:=Option.some.inj h
   exact ⟨hI,okg.2.2 _ (Qdg (Qe8 (by simpa using hb)))⟩
  ·cases h
theorem Zgm {s:Sto} {B:Nat} (h:Fit s B) (hB:B≤1000) (hs:s.stamp<1152921504606846977):MidS s:=⟨h.ok,by have:=h.l;omega,by have:=h.n;omega,fun c hc=>by have:=h.r c hc;omega,hs⟩
theorem Quj:Fit newS 1:=⟨Qjg,by decide,by decide,fun c h=>by obtain rfl:=List.mem_singleton.1 h;decide⟩
theorem Zec:MidS newS:=Zgm Quj (by decide) (by decide)
theorem Qz0:Qkv newS 1=newF:=by rfl
theorem Qdc:Qae newS=⟨1,newF,newF,[]⟩:=by unfold Qae;rw [show newS.stamp=1 from rfl,Qz0]
noncomputable def tA:Txn:=Qa7 (Qae newS) cA
theorem Qpx:tA=⟨1,newF,fA,Qck ([]++Qb5 newF cA)⟩:=by unfold tA;rw [Qdc];unfold Qa7;rw [doA1]
theorem Zhg:(0:Int)∈tA.looks:=by
 rw [Qpx]
 show (0:Int)∈Qck _
 rw [Qgc]
 unfold Qb5
 rw [if_pos (.inl rfl)]
 simp
theorem Qx4:¬ tA.was=tA.now:=by
 rw [Qpx]
 intro h
 have:=congrArg Fsy.next h
 rw [show (⟨1,newF,fA,Qck ([]++Qb5 newF cA)⟩:Txn).now=fA from rfl,Qg7.2.2.1] at this
 exact absurd this (by decide)
theorem tA_len:tA.looks.length≤7:=Qh3 (Qae newS) cA
theorem Zhh:OkT tA:=by
 have h:=tA_len
 refine ⟨?_,?_,?_,by omega⟩<;>rw [Qpx]
 ·exact Quw (by decide) (by decide)
 ·exact Qos
 ·exact Qg7.2.1
noncomputable def kA:Sto:=Qhn newS (Qcd newF fA) 3
theorem kA_run:runD newS [cA]=kA:=by
 unfold runD
 rw [show Qa6 (Qae newS) [cA]=tA from rfl,Qmg (Qag.2 Qx4) (Qag.2 ?_)]
 ·rw [Qpx]
  show Qhn newS (Qcd newF fA) fA.next=kA
  rw [Qg7.2.2.1]
  rfl
 ·rintro ⟨x,hx,_⟩
  rw [Qpx] at hx
  rw [show (⟨1,newF,fA,Qck ([]++Qb5 newF cA)⟩:Txn).stamp=newS.stamp from rfl,Qv3 Qwu] at hx
  cases hx
theorem Zen:kA.stamp=2:=rfl
theorem Zeo:kA.nexts=[⟨1,2⟩,⟨2,3⟩]:=by
 show Qd1 newS 3=_
 rw [Qqh (s:=newS) (next:=3) (c:=⟨1,2⟩) rfl (by decide)]
 rfl
theorem Quv:Qka kA tA:=by
 refine ⟨0,?_,Zhg⟩
 rw [show tA.stamp=1 from by rw [Qpx]]
 unfold Qc9
 rw [if_pos (.inr (by unfold Zef;rw [Zeo];rfl))]
 simp
theorem Zar:Fit kA 513:=by
 have hl:(Qcd newF fA).length≤257:=by
  have:=Qmi newF fA
  have:=Qg7.1.1
  have:=Zed
  omega
 have h:=Quj.inst (Qxe Qos Qg7.2.1) (next:=3) (Quw (by decide) (by decide)) (by decide) (by omega)
 have h2:kA.stamp=2:=rfl
 exact ⟨h.ok,by have:=h.l;show kA.l.length≤_;unfold kA;omega,by have:=h.n;unfold kA;omega,fun c hc=>by have:=h.r c hc;omega⟩
theorem kA_mid:MidS kA:=Zgm Zar (by decide) (by decide)
def rA:Rep:=⟨0,2,0,0,[],[]⟩
theorem rA_eq:plR (Qae newS).now [cA]=[rA]:=by
 rw [Qdc]
 show [(doF newF cA).2]=_
 rw [doA1]
 rfl
theorem fA_was:tA.was=newF:=by rw [Qpx]
theorem fA_now:tA.now=fA:=by rw [Qpx]
theorem Qcf:Qaj Tryz.prog 18 [.agg (txnA (Qae newS)),.agg (calA cA)] (.tup [.agg (txnA tA),.agg (repA rA)]):=by
 have h:=Qk5 (Qae newS) cA (by rw [Qdc];exact Qos) cA_ok (by rw [Qdc];exact Qen) (by rw [Qdc];decide) (by show ([]:List Int).length≤_;simp)
 rw [show (doF (Qae newS).now cA).2=rA from by rw [Qdc,doA1];rfl] at h
 exact h
theorem Qz1:TreeP (Qae newS).now:=by
 rw [Qdc]
 exact Qnc.1 ⟨Qen,⟨Qhh,rfl,rfl,rfl,rfl⟩,fun p hp=>(by cases hp),fun i x hx=>(by cases i<;>cases hx)⟩
theorem Qyk:Qaj Tryz.prog 32 [.agg (stoA newS),.sl 8 false ([cA].map calA)] (.tup [.agg (stoA kA),.sl 6 false ([rA].map repA)]):=by
 have h:=Zdo newS [cA] Zec Qz1 (by decide) (fun c h=>by obtain rfl:=List.mem_singleton.1 h;exact cA_ok) (by rw [Qdc];decide)
 rw [kA_run,rA_eq] at h
 exact h
theorem Zi3:Qcm kA tA=(kA,15):=Qj9 (Qag.2 Qx4) (Qbb.2 Quv)
theorem Qre:Qaj Tryz.prog 30 [.agg (stoA kA),.agg (txnA tA)] (.tup [.agg (stoA kA),aI 15]):=by
 have h:=Qmf kA tA kA_mid Zhh (by rw [fA_was];exact Qen) (by rw [fA_now];exact Qg7.1)
 rw [Zi3] at h
 exact h
theorem Qwb :Qaj Tryz.prog 43 [] (.agg (stoA newS)):=by
 exact Qac (F:=Tryz.f43) 400 (
 .new fun b1=>.call (Qyv)<|
 .new fun b2=>.run 1 [b2=b2] rt1<|
 .run 2 [b2=b2] rt1<|
 .idxM newF.l nodA 0 (m:=0) (show (0:Int)=((0:Nat):Int) from rfl) (by decide) fun x1 hx1=>
 have ex1:=Zib hx1;.run 9 [b1=b1] rt1<|
 .fin (x:=.agg [.sl 2 true ([[aI 1,.sl 7 true ([[aI 1,aB false,aI x1.ino,aI x1.kind,aI x1.links,aS x1.text,.sl 2 false (x1.l.map entA)]])]]),.sl 2 true ([[aI 1,aI 2]]),aI 1]) (r:=.agg (stoA newS)) [b1=b1] rt1 (by
  obtain rfl:=ex1
  first | exact sR | exact Sub.aggs ⟨Qt2 ⟨sR,Qt2 sr7,trivial⟩,Qt2 sr2,sR,trivial⟩)) Tryz.func43 rfl (by kernel_rfl) (by kernel_rfl)
theorem Zhp :Qaj Tryz.prog 11 [] (aB true):=by
 exact Qac (F:=Tryz.f11) 400 (
 .r 1<|.call (Qwb)<|
 .new fun b1=>.run 1 [b1=b1] rt1<|
 .r 1<|.new fun b2=>.run 1 [b2=b2] rt1<|
 .run 3 [b1=b1,b2=b2] rt2<|
 .callS (args0:=[.agg [.sl 2 false (newS.l.map chnA),.sl 2 false (newS.nexts.map cntA),aI newS.stamp],.sl 8 true ([[aI 6,aI 1,aI 0,aI 0,aI 0,aS ([97]),aS ([]),aS ([])]])]) (args:=[.agg [.sl 2 false (newS.l.map chnA),.sl 2 false (newS.nexts.map cntA),aI newS.stamp],.sl 8 false ([cA].map calA)]) ⟨sR,Sub.loose _ _ _,trivial⟩ (Qyk)<|
 .r 3<|.new fun b3=>.run 2 [b3=b3] rt1<|
 let J1:Jn (Nat):=⟨fun j1=>⟨[(0,aB false),(3,.ptr 3 b3 0),(4,.sl 6 false ([rA].map repA)),(5,.ptr 5 j1 0)],[(3,.box b3 25 [.sl 2 false (kA.l.map chnA),.sl 2 false (kA.nexts.map cntA),aI kA.stamp]),(5,.box j1 31 [aI tA.stamp,.sl 5 false (tA.was.l.map nodA),aI tA.was.next,.sl 5 false (tA.now.l.map nodA),aI tA.now.next,.sl 1 false (tA.looks.map intA)])]⟩,fun _=>True⟩
 .cut J1 (.pick [0,2]<|.run 2 [b1=b1,b2=b2] rt2<|
 .fork<|.alt (.call (Qej newS Qjg (by decide))<|
 .fork<|.alt (.callS (args0:=[.agg [aI ((Qae newS).stamp),.sl 5 false ((Qae newS).was.l.map nodA),aI ((Qae newS).was.next),.sl 5 false ((Qae newS).now.l.map nodA),aI ((Qae newS).now.next),.sl 1 false ((Qae newS).looks.map intA)],.agg [aI 6,aI 1,aI 0,aI 0,aI 0,aS ([97]),aS ([]),aS ([])]]) (args:=[.agg [aI ((Qae newS).stamp),.sl 5 false ((Qae newS).was.l.map nodA),aI ((Qae newS).was.next),.sl 5 false ((Qae newS).now.l.map nodA),aI ((Qae newS).now.next),.sl 1 false ((Qae newS).looks.map intA)],.agg (calA cA)]) sr2 (Qcf)<|
 .pick [4,5,6]<|.r 3<|.fork<|.alt (.new fun b4=>.pick [8,9,10]<|.new fun b5=>.run 2 [b4=b4,b5=b5] rt2<|
 .join J1 b4 trivial ⟨[(0,aB false),(3,.ptr 3 b3 0),(4,.sl 6 false ([rA].map repA)),(5,.ptr 5 b4 0)],[(3,.box b3 25 [.sl 2 false (kA.l.map chnA),.sl 2 false (kA.nexts.map cntA),aI kA.stamp]),(5,.box b4 31 [aI tA.stamp,.sl 5 false (tA.was.l.map nodA),aI tA.was.next,.sl 5 false (tA.now.l.map nodA),aI tA.now.next,.sl 1 false (tA.looks.map intA)])]⟩ sr4 ⟨⟨_,rfl,SubB.refl _⟩,⟨_,rfl,SubB.refl _⟩,trivial⟩)
 <| .new fun b6=>.pick [7,9,10]<|.new fun b7=>.run 2 [b7=b7,b6=b6] rt2<|
 .join J1 b7 trivial ⟨[(0,aB false),(3,.ptr 3 b3 0),(4,.sl 6 false ([rA].map repA)),(5,.ptr 5 b7 0)],[(3,.box b3 25 [.sl 2 false (kA.l.map chnA),.sl 2 false (kA.nexts.map cntA),aI kA.stamp]),(5,.box b7 31 [aI tA.stamp,.sl 5 false (tA.was.l.map nodA),aI tA.was.next,.sl 5 false (tA.now.l.map nodA),aI tA.now.next,.sl 1 false (tA.looks.map intA)])]⟩ sr4 ⟨⟨_,rfl,SubB.refl _⟩,⟨_,rfl,SubB.refl _⟩,trivial⟩)
 <| .alt (.new fun b8=>.fork<|.alt (.callS (args0:=[.agg [aI ((Qae newS).stamp),.sl 5 false ((Qae newS).was.l.map nodA),aI ((Qae newS).was.next),.sl 5 false ((Qae newS).now.l.map nodA),aI ((Qae newS).now.next),.sl 1 false ((Qae newS).looks.map intA)],.agg [aI 6,aI 1,aI 0,aI 0,aI 0,aS ([97]),aS ([]),aS ([])]]) (args:=[.agg [aI ((Qae newS).stamp),.sl 5 false ((Qae newS).was.l.map nodA),aI ((Qae newS).was.next),.sl 5 false ((Qae newS).now.l.map nodA),aI ((Qae newS).now.next),.sl 1 false ((Qae newS).looks.map intA)],.agg (calA cA)]) sr2 (Qcf)<|
 .pick [4,5,6,8,9,10]<|.r 3<|.new fun b9=>.run 2 [b8=b8,b9=b9] rt2<|
 .join J1 b8 trivial ⟨[(0,aB false),(3,.ptr 3 b3 0),(4,.sl 6 false ([rA].map repA)),(5,.ptr 5 b8 0)],[(3,.box b3 25 [.sl 2 false (kA.l.map chnA),.sl 2 false (kA.nexts.map cntA),aI kA.stamp]),(5,.box b8 31 [aI tA.stamp,.sl 5 false (tA.was.l.map nodA),aI tA.was.next,.sl 5 false (tA.now.l.map nodA),aI tA.now.next,.sl 1 false (tA.looks.map intA)])]⟩ sr4 ⟨⟨_,rfl,SubB.refl _⟩,⟨_,rfl,SubB.refl _⟩,trivial⟩)
 <| .new fun b10=>.pick [3,4,5,6,9,10]<|.callS (args0:=[.agg [aI ((Qae newS).stamp),.sl 5 false ((Qae newS).was.l.map nodA),aI ((Qae newS).was.next),.sl 5 false ((Qae newS).now.l.map nodA),aI ((Qae newS).now.next),.sl 1 false ((Qae newS).looks.map intA)],.agg [aI 6,aI 1,aI 0,aI 0,aI 0,aS ([97]),aS ([]),aS ([])]]) (args:=[.agg [aI ((Qae newS).stamp),.sl 5 false ((Qae newS).was.l.map nodA),aI ((Qae newS).was.next),.sl 5 false ((Qae newS).now.l.map nodA),aI ((Qae newS).now.next),.sl 1 false ((Qae newS).looks.map intA)],.agg (calA cA)]) sr2 (Qcf)<|
 .run 5 [b8=b8,b10=b10] rt2<|
 .join J1 b8 trivial ⟨[(0,aB false),(3,.ptr 3 b3 0),(4,.sl 6 false ([rA].map repA)),(5,.ptr 5 b8 0)],[(3,.box b3 25 [.sl 2 false (kA.l.map chnA),.sl 2 false (kA.nexts.map cntA),aI kA.stamp]),(5,.box b8 31 [aI tA.stamp,.sl 5 false (tA.was.l.map nodA),aI tA.was.next,.sl 5 false (tA.now.l.map nodA),aI tA.now.next,.sl 1 false (tA.looks.map intA)])]⟩ sr4 ⟨⟨_,rfl,SubB.refl _⟩,⟨_,rfl,SubB.refl _⟩,trivial⟩)
 <| .new fun b11=>.fork<|.alt (.callS (args0:=[.agg [aI ((Qae newS).stamp),.sl 5 false ((Qae newS).was.l.map nodA),aI ((Qae newS).was.next),.sl 5 false ((Qae newS).now.l.map nodA),aI ((Qae newS).now.next),.sl 1 false ((Qae newS).looks.map intA)],.agg [aI 6,aI 1,aI 0,aI 0,aI 0,aS ([97]),aS ([]),aS ([])]]) (args:=[.agg [aI ((Qae newS).stamp),.sl 5 false ((Qae newS).was.l.map nodA),aI ((Qae newS).was.next),.sl 5 false ((Qae newS).now.l.map nodA),aI ((Qae newS).now.next),.sl 1 false ((Qae newS).looks.map intA)],.agg (calA cA)]) sr2 (Qcf)<|
 .pick [4,5,6,7,9,10]<|.r 3<|.new fun b12=>.run 2 [b12=b12,b11=b11] rt2<|
 .join J1 b12 trivial ⟨[(0,aB false),(3,.ptr 3 b3 0),(4,.sl 6 false ([rA].map repA)),(5,.ptr 5 b12 0)],[(3,.box b3 25 [.sl 2 false (kA.l.map chnA),.sl 2 false (kA.nexts.map cntA),aI kA.stamp]),(5,.box b12 31 [aI tA.stamp,.sl 5 false (tA.was.l.map nodA),aI tA.was.next,.sl 5 false (tA.now.l.map nodA),aI tA.now.next,.sl 1 false (tA.looks.map intA)])]⟩ sr4 ⟨⟨_,rfl,SubB.refl _⟩,⟨_,rfl,SubB.refl _⟩,trivial⟩)
 <| .new fun b13=>.pick [3,4,5,6,9,10]<|.callS (args0:=[.agg [aI ((Qae newS).stamp),.sl 5 false ((Qae newS).was.l.map nodA),aI ((Qae newS).was.next),.sl 5 false ((Qae newS).now.l.map nodA),aI ((Qae newS).now.next),.sl 1 false ((Qae newS).looks.map intA)],.agg [aI 6,aI 1,aI 0,aI 0,aI 0,aS ([97]),aS ([]),aS ([])]]) (args:=[.agg [aI ((Qae newS).stamp),.sl 5 false ((Qae newS).was.l.map nodA),aI ((Qae newS).was.next),.sl 5 false ((Qae newS).now.l.map nodA),aI ((Qae newS).now.next),.sl 1 false ((Qae newS).looks.map intA)],.agg (calA cA)]) sr2 (Qcf)<|
 .run 5 [b13=b13,b11=b11] rt2<|
 .join J1 b13 trivial ⟨[(0,aB false),(3,.ptr 3 b3 0),(4,.sl 6 false ([rA].map repA)),(5,.ptr 5 b13 0)],[(3,.box b3 25 [.sl 2 false (kA.l.map chnA),.sl 2 false (kA.nexts.map cntA),aI kA.stamp]),(5,.box b13 31 [aI tA.stamp,.sl 5 false (tA.was.l.map nodA),aI tA.was.next,.sl 5 false (tA.now.l.map nodA),aI tA.now.next,.sl 1 false (tA.looks.map intA)])]⟩ sr4 ⟨⟨_,rfl,SubB.refl _⟩,⟨_,rfl,SubB.refl _⟩,trivial⟩)
 <| .alt (.new fun b14=>.fork<|.alt (.call (Qej newS Qjg (by decide))<|
 .fork<|.alt (.callS (args0:=[.agg [aI ((Qae newS).stamp),.sl 5 false ((Qae newS).was.l.map nodA),aI ((Qae newS).was.next),.sl 5 false ((Qae newS).now.l.map nodA),aI ((Qae newS).now.next),.sl 1 false ((Qae newS).looks.map intA)],.agg [aI 6,aI 1,aI 0,aI 0,aI 0,aS ([97]),aS ([]),aS ([])]]) (args:=[.agg [aI ((Qae newS).stamp),.sl 5 false ((Qae newS).was.l.map nodA),aI ((Qae newS).was.next),.sl 5 false ((Qae newS).now.l.map nodA),aI ((Qae newS).now.next),.sl 1 false ((Qae newS).looks.map intA)],.agg (calA cA)]) sr2 (Qcf)<|
 .pick [4,5,6,8,9,10]<|.r 3<|.new fun b15=>.run 2 [b14=b14,b15=b15] rt2<|
 .join J1 b14 trivial ⟨[(0,aB false),(3,.ptr 3 b3 0),(4,.sl 6 false ([rA].map repA)),(5,.ptr 5 b14 0)],[(3,.box b3 25 [.sl 2 false (kA.l.map chnA),.sl 2 false (kA.nexts.map cntA),aI kA.stamp]),(5,.box b14 31 [aI tA.stamp,.sl 5 false (tA.was.l.map nodA),aI tA.was.next,.sl 5 false (tA.now.l.map nodA),aI tA.now.next,.sl 1 false (tA.looks.map intA)])]⟩ sr4 ⟨⟨_,rfl,SubB.refl _⟩,⟨_,rfl,SubB.refl _⟩,trivial⟩)
 <| .new fun b16=>.pick [3,4,5,6,9,10]<|.callS (args0:=[.agg [aI ((Qae newS).stamp),.sl 5 false ((Qae newS).was.l.map nodA),aI ((Qae newS).was.next),.sl 5 false ((Qae newS).now.l.map nodA),aI ((Qae newS).now.next),.sl 1 false ((Qae newS).looks.map intA)],.agg [aI 6,aI 1,aI 0,aI 0,aI 0,aS ([97]),aS ([]),aS ([])]]) (args:=[.agg [aI ((Qae newS).stamp),.sl 5 false ((Qae newS).was.l.map nodA),aI ((Qae newS).was.next),.sl 5 false ((Qae newS).now.l.map nodA),aI ((Qae newS).now.next),.sl 1 false ((Qae newS).looks.map intA)],.agg (calA cA)]) sr2 (Qcf)<|
 .run 5 [b14=b14,b16=b16] rt2<|
 .join J1 b14 trivial ⟨[(0,aB false),(3,.ptr 3 b3 0),(4,.sl 6 false ([rA].map repA)),(5,.ptr 5 b14 0)],[(3,.box b3 25 [.sl 2 false (kA.l.map chnA),.sl 2 false (kA.nexts.map cntA),aI kA.stamp]),(5,.box b14 31 [aI tA.stamp,.sl 5 false (tA.was.l.map nodA),aI tA.was.next,.sl 5 false (tA.now.l.map nodA),aI tA.now.next,.sl 1 false (tA.looks.map intA)])]⟩ sr4 ⟨⟨_,rfl,SubB.refl _⟩,⟨_,rfl,SubB.refl _⟩,trivial⟩)
 <| .new fun b17=>.pick [1,3,4,5,6,9,10]<|.call (Qej newS Qjg (by decide))<|
 .callS (args0:=[.agg [aI ((Qae newS).stamp),.sl 5 false ((Qae newS).was.l.map nodA),aI ((Qae newS).was.next),.sl 5 false ((Qae newS).now.l.map nodA),aI ((Qae newS).now.next),.sl 1 false ((Qae newS).looks.map intA)],.agg [aI 6,aI 1,aI 0,aI 0,aI 0,aS ([97]),aS ([]),aS ([])]]) (args:=[.agg [aI ((Qae newS).stamp),.sl 5 false ((Qae newS).was.l.map nodA),aI ((Qae newS).was.next),.sl 5 false ((Qae newS).now.l.map nodA),aI ((Qae newS).now.next),.sl 1 false ((Qae newS).looks.map intA)],.agg (calA cA)]) sr2 (Qcf)<|
 .run 5 [b14=b14,b17=b17] rt2<|
 .join J1 b14 trivial ⟨[(0,aB false),(3,.ptr 3 b3 0),(4,.sl 6 false ([rA].map repA)),(5,.ptr 5 b14 0)],[(3,.box b3 25 [.sl 2 false (kA.l.map chnA),.sl 2 false (kA.nexts.map cntA),aI kA.stamp]),(5,.box b14 31 [aI tA.stamp,.sl 5 false (tA.was.l.map nodA),aI tA.was.next,.sl 5 false (tA.now.l.map nodA),aI tA.now.next,.sl 1 false (tA.looks.map intA)])]⟩ sr4 ⟨⟨_,rfl,SubB.refl _⟩,⟨_,rfl,SubB.refl _⟩,trivial⟩)
 <| .new fun b18=>.fork<|.alt (.call (Qej newS Qjg (by decide))<|
 .fork<|.alt (.callS (args0:=[.agg [aI ((Qae newS).stamp),.sl 5 false ((Qae newS).was.l.map nodA),aI ((Qae newS).was.next),.sl 5 false ((Qae newS).now.l.map nodA),aI ((Qae newS).now.next),.sl 1 false ((Qae newS).looks.map intA)],.agg [aI 6,aI 1,aI 0,aI 0,aI 0,aS ([97]),aS ([]),aS ([])]]) (args:=[.agg [aI ((Qae newS).stamp),.sl 5 false ((Qae newS).was.l.map nodA),aI ((Qae newS).was.next),.sl 5 false ((Qae newS).now.l.map nodA),aI ((Qae newS).now.next),.sl 1 false ((Qae newS).looks.map intA)],.agg (calA cA)]) sr2 (Qcf)<|
 .pick [4,5,6,7,9,10]<|.r 3<|.new fun b19=>.run 2 [b19=b19,b18=b18] rt2<|
 .join J1 b19 trivial ⟨[(0,aB false),(3,.ptr 3 b3 0),(4,.sl 6 false ([rA].map repA)),(5,.ptr 5 b19 0)],[(3,.box b3 25 [.sl 2 false (kA.l.map chnA),.sl 2 false (kA.nexts.map cntA),aI kA.stamp]),(5,.box b19 31 [aI tA.stamp,.sl 5 false (tA.was.l.map nodA),aI tA.was.next,.sl 5 false (tA.now.l.map nodA),aI tA.now.next,.sl 1 false (tA.looks.map intA)])]⟩ sr4 ⟨⟨_,rfl,SubB.refl _⟩,⟨_,rfl,SubB.refl _⟩,trivial⟩)
 <| .new fun b20=>.pick [3,4,5,6,9,10]<|.callS (args0:=[.agg [aI ((Qae newS).stamp),.sl 5 false ((Qae newS).was.l.map nodA),aI ((Qae newS).was.next),.sl 5 false ((Qae newS).now.l.map nodA),aI ((Qae newS).now.next),.sl 1 false ((Qae newS).looks.map intA)],.agg [aI 6,aI 1,aI 0,aI 0,aI 0,aS ([97]),aS ([]),aS ([])]]) (args:=[.agg [aI ((Qae newS).stamp),.sl 5 false ((Qae newS).was.l.map nodA),aI ((Qae newS).was.next),.sl 5 false ((Qae newS).now.l.map nodA),aI ((Qae newS).now.next),.sl 1 false ((Qae newS).looks.map intA)],.agg (calA cA)]) sr2 (Qcf)<|
 .run 5 [b20=b20,b18=b18] rt2<|
 .join J1 b20 trivial ⟨[(0,aB false),(3,.ptr 3 b3 0),(4,.sl 6 false ([rA].map repA)),(5,.ptr 5 b20 0)],[(3,.box b3 25 [.sl 2 false (kA.l.map chnA),.sl 2 false (kA.nexts.map cntA),aI kA.stamp]),(5,.box b20 31 [aI tA.stamp,.sl 5 false (tA.was.l.map nodA),aI tA.was.next,.sl 5 false (tA.now.l.map nodA),aI tA.now.next,.sl 1 false (tA.looks.map intA)])]⟩ sr4 ⟨⟨_,rfl,SubB.refl _⟩,⟨_,rfl,SubB.refl _⟩,trivial⟩)
 <| .new fun b21=>.pick [1,3,4,5,6,9,10]<|.call (Qej newS Qjg (by decide))<|
 .callS (args0:=[.agg [aI ((Qae newS).stamp),.sl 5 false ((Qae newS).was.l.map nodA),aI ((Qae newS).was.next),.sl 5 false ((Qae newS).now.l.map nodA),aI ((Qae newS).now.next),.sl 1 false ((Qae newS).looks.map intA)],.agg [aI 6,aI 1,aI 0,aI 0,aI 0,aS ([97]),aS ([]),aS ([])]]) (args:=[.agg [aI ((Qae newS).stamp),.sl 5 false ((Qae newS).was.l.map nodA),aI ((Qae newS).was.next),.sl 5 false ((Qae newS).now.l.map nodA),aI ((Qae newS).now.next),.sl 1 false ((Qae newS).looks.map intA)],.agg (calA cA)]) sr2 (Qcf)<|
 .run 5 [b21=b21,b18=b18] rt2<|
 .join J1 b21 trivial ⟨[(0,aB false),(3,.ptr 3 b3 0),(4,.sl 6 false ([rA].map repA)),(5,.ptr 5 b21 0)],[(3,.box b3 25 [.sl 2 false (kA.l.map chnA),.sl 2 false (kA.nexts.map cntA),aI kA.stamp]),(5,.box b21 31 [aI tA.stamp,.sl 5 false (tA.was.l.map nodA),aI tA.was.next,.sl 5 false (tA.now.l.map nodA),aI tA.now.next,.sl 1 false (tA.looks.map intA)])]⟩ sr4 ⟨⟨_,rfl,SubB.refl _⟩,⟨_,rfl,SubB.refl _⟩,trivial⟩)
 <| fun j1 _=>(fun (b22:Nat)=>.run 2 [b3=b3,b22=b22] rt2<|
 .call (Qre)<|
 .r 3<|.new fun b23=>.run 2 [b23=b23] rt1<|
 .run 4 [b3=b3] rt1<|
 .is 34 (show (kA.stamp==2)=true from (by rw [Zen];rfl))<|.r 2<|.val 36 (show (aI (([rA].map repA).length:Int):AV)=aI (([rA]).length:Int) from by rw [List.length_map])<|.r 3<|.is 39 (show ((([rA]).length:Int)==1)=true from rfl)<|.r 1<|.idxM ([rA]) repA 0 (m:=0) (show (0:Int)=((0:Nat):Int) from rfl) (by decide) fun x1 hx1=>
 have ex1:=(Option.some.inj (show some rA=some x1 from hx1));.r 5<|.is 46 (show (x1.a==2)=true from (by rw [← ex1];rfl))<|.r 4<|.is 50 (show (15==15)=true from rfl)<|.run 2 [b3=b3,b22=b22] rt2<|
 .call (Qnz kA tA Zar.ok (by have:=Zar.l;omega) Zhh)<|
 .r 2<|.is 55 (show (dP (Qka kA tA))=true from (Qbb.2 Quv))<|.run 1 [b22=b22] rt1<|
 .call (Qqx tA Zhh)<|
 .r 3<|.fin (x:=aB (!(dP (tA.was=tA.now)))) (r:=aB true) [] trivial (by exact Sub.of_eq (congrArg aB (by first | rfl | (rw [Qag.2 Qx4];rfl))))) j1) Tryz.func11 rfl (by kernel_rfl) (by kernel_rfl)
end Go.Proofs.YtahlldgocpabjaaGreat
