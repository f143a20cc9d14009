import Derived.Test.YtahlldgocpabjaaGreatMrgAQ
import Derived.Test.YtahlldgocpabjaaGreatMrgAE
import Derived.Test.YtahlldgocpabjaaGreatMrgAM
import Derived.Test.YtahlldgocpabjaaGreatMrgAH
import Derived.Test.YtahlldgocpabjaaGreatMrgAL
import Derived.Test.YtahlldgocpabjaaGreatMrgAA
import Derived.Test.YtahlldgocpabjaaGreatMrgJ
set_option maxRecDepth 100000
set_option maxHeartbeats 8000000
set_option linter.unusedVariables false
set_option linter.unusedSimpArgs false
namespace Go.Proofs.YtahlldgocpabjaaGreat
open Go Go.RowKit Copyhold Go.Proofs.Tryz
structure MidS (s:Sto):Prop where
 ok:OkS s
 l:s.l.length≤1000
 nexts:s.nexts.length≤1000
 rows:∀ c∈s.l,c.l.length≤1000
 stamp:s.stamp<1152921504606846977
noncomputable def Qbd (s:Sto) (t:Txn):Sto × Int:=
 if dP (t.was=t.now)=true then (s,0) else if dP (Qes s t)=true then (s,15) else (Qdd s (Qbj t.was t.now) t.now.next,0)
theorem Qg6 {s:Sto} {t:Txn} (h:dP (t.was=t.now)=true):Qbd s t=(s,0):=by unfold Qbd;rw [if_pos h]
theorem Qfr {s:Sto} {t:Txn} (h:dP (t.was=t.now)=false) (h2:dP (Qes s t)=true):Qbd s t=(s,15):=by unfold Qbd;rw [if_neg (by rw [h];decide),if_pos h2]
theorem Qfc {s:Sto} {t:Txn} (h:dP (t.was=t.now)=false) (h2:dP (Qes s t)=false):Qbd s t=(Qdd s (Qbj t.was t.now) t.now.next,0):=by unfold Qbd;rw [if_neg (by rw [h];decide),if_neg (by rw [h2];decide)]
theorem Qjh (s:Sto) (t:Txn) (ms:MidS s) (okt:OkT t) (hw:Qar t.was) (hn:Qar t.now):Qah prog 30 [.agg (stoA s),.agg (txnA t)] (.tup [.agg (stoA (Qbd s t).1),aI (Qbd s t).2]):=by
 exact Qac func30 (
 .new fun b1=>.new fun b2=>.new fun b3=>.r 1<|.u 1 [b2]<|
 .call (Qtk t okt)<|
 .br 7 (dP (t.was=t.now)) (fun q1=>have p1:=booT q1;.u 3 [b1,b3]<|
 .f (.tup [.agg (stoA (Qbd s t).1),aI (Qbd s t).2]) [b3] (.tup [.agg (stoA s),aI 0]) (by
  rw [Qg6 q1];exact sR))
 <| fun q1=>have p1:=booF q1;.u 2 [b1,b2]<|
 .call (Qlh s t ms.ok (by have:=ms.l;omega) okt)<|
 .br 11 (dP (Qes s t)) (fun q2=>have p2:=booT q2;.u 3 [b1,b3]<|
 .f (.tup [.agg (stoA (Qbd s t).1),aI (Qbd s t).2]) [b3] (.tup [.agg (stoA s),aI 15]) (by
  rw [Qfr q1 q2];exact sR))
 <| fun q2=>have p2:=booF q2;.ord [0,1,2,3,4,6,7,8,5,9,10,11]<|.u 8 [b1,b2,b2,b2]<|
 .call (Qqp t.was t.now okt.was okt.now (by have:=hw.1;omega) (by have:=hn.1;omega) (Qaf hw) (Qaf hn))<|
 .call (Qth s (Qbj t.was t.now) t.now.next ms.ok ms.l (by have:=Qfd t.was t.now;have:=hw.1;have:=hn.1;omega) ms.nexts ms.rows ms.stamp)<|
 .u 2 [b3]<|
 .f (.tup [.agg (stoA (Qbd s t).1),aI (Qbd s t).2]) [b3] (.tup [.agg [.sl 2 false ((Qdd s (Qbj t.was t.now) t.now.next).l.map chnA),.sl 2 false ((Qdd s (Qbj t.was t.now) t.now.next).nexts.map cntA),aI ((Qdd s (Qbj t.was t.now) t.now.next).stamp)],aI 0]) (by
  rw [Qfc q1 q2];exact sR))
noncomputable def Qad:Txn→List Cal→Txn
 | t,[]=>t
 | t,c :: r=>Qad (Qb0 t c) r
theorem Qow:∀ (a b:List Cal) (t:Txn),Qad t (a++b)=Qad (Qad t a) b
 | [],_,_=>rfl
 | c :: r,b,t=>Qow r b (Qb0 t c)
theorem Qd9 {t:Txn} {l:List Cal} {k:Nat} {x:Cal} (h:l[k]?=some x):Qad t (l.take (k+1))=Qb0 (Qad t (l.take k)) x:=by
 rw [Qam h,Qow];rfl
theorem Qjp:∀ (l:List Cal) (t:Txn),(Qad t l).now=plF t.now l
 | [],_=>rfl
 | c :: r,t=>Qjp r (Qb0 t c)
theorem Qms:∀ (l:List Cal) (t:Txn),(Qad t l).was=t.was
 | [],_=>rfl
 | c :: r,t=>Qms r (Qb0 t c)
theorem Qi9:∀ (l:List Cal) (t:Txn),(Qad t l).stamp=t.stamp
 | [],_=>rfl
 | c :: r,t=>Qi9 r (Qb0 t c)
theorem Qsh:∀ (l:List Cal) (t:Txn),(Qad t l).looks.length≤t.looks.length+7*l.length
 | [],_=>by show _≤_;simp [Qad]
 | c :: r,t=>by
  have h1:=Qsh r (Qb0 t c);have h2:=Qsj t c;show (Qad (Qb0 t c) r).looks.length≤_;rw [List.length_cons];omega
theorem Qcm {t:Txn} {l:List Cal} {k:Nat} {x:Cal} (h:l[k]?=some x):plR t.now (l.take (k+1))=plR t.now (l.take k)++[(doF (Qad t (l.take k)).now x).2]:=by
 rw [Zig h,Qjp]
structure KeptT (t u:Txn) (k:Nat):Prop where
 now:KeptN t.now u.now k
 ok:OkT u
 was:u.was=t.was
 len:u.looks.length≤t.looks.length+7*k
theorem Qiq {t:Txn} (okt:OkT t) (T:TreeP t.now) {l:List Cal} (hl:l.length≤1000) (ok:∀ c∈l,OkCal c) (hx:t.now.next<1152921504606847976) (hk0:t.looks.length≤1000) {k:Nat} (hk:k≤l.length):KeptT t (Qad t (l.take k)) k:=by
 have h1:=Zer okt.now T hl ok hx k hk;have h2:=Qsh (l.take k) t;rw [List.length_take,Nat.min_eq_left hk] at h2;exact ⟨by rw [Qjp];exact h1,⟨by rw [Qi9];exact okt.stamp,by rw [Qms];exact okt.was,by rw [Qjp];exact h1.ok,by omega⟩,Qms _ _,h2⟩
theorem Qkt {s:Sto} (oks:OkS s):OkT (Qag s):=⟨oks.1,Qp2 oks _,Qp2 oks _,by show ([]:List Int).length≤_;simp⟩
noncomputable def runD (s:Sto) (l:List Cal):Sto:=(Qbd s (Qad (Qag s) l)).1
theorem Qxa (s:Sto) (l:List Cal) (ms:MidS s) (T:TreeP (Qag s).now) (hl:l.length≤1000) (ok:∀ c∈l,OkCal c) (hx:(Qag s).now.next<1152921504606847976):Qah prog 32 [.agg (stoA s),.sl 8 false (l.map calA)] (.tup [.agg (stoA (runD s l)),.sl 6 false ((plR (Qag s).now l).map repA)]):=by
 exact Qac func32 (
 .new fun b1=>.new fun b2=>.r 1<|.u 1 [b1]<|
 .call (Qe4 s ms.ok (by have:=ms.l;omega))<|
 .new fun b3=>.u 1 [b3]<|
 .r 2<|.lm 13 l calA<|.op (mkN prog) (59,(l.length:Int),(l.length:Int),45,[aI 0,aI 0,aI 0,aI 0,aS ([]),aN],14) (fun (V:Value) σ=>(σ.put (some 14) (.rw 14 V l.length)).setB 14 (.row V 45 6 (List.replicate l.length [aI 0,aI 0,aI 0,aI 0,aS ([]),aN]))) (Zh3 l.length 72 (by kernel_rfl) (by omega) (by omega) (by omega)) fun V1=>
 .r 1<|.r 2<|.lm 16 l calA<|.r 1<|let L1:Lp (Nat):=⟨fun a1=>⟨[(2,.ptr 2 b1 0),(4,.ptr 4 b2 0),(6,.ptr 6 b3 0),(7,.rw 14 V1 l.length),(15,.sl 8 false (l.map calA)),(16,aI (l.length:Int)),(17,aI (a1:Int))],[(2,.box b1 25 (stoA s)),(4,.box b2 25 [aN,aN,aI 0]),(6,.box b3 31 [aI ((Qad (Qag s) (l.take a1)).stamp),.sl 5 false ((Qad (Qag s) (l.take a1)).was.l.map nodA),aI ((Qad (Qag s) (l.take a1)).was.next),.sl 5 false ((Qad (Qag s) (l.take a1)).now.l.map nodA),aI ((Qad (Qag s) (l.take a1)).now.next),.sl 1 false ((Qad (Qag s) (l.take a1)).looks.map intA)]),(14,.row V1 45 6 (prow (plR (Qag s).now (l.take a1)) l.length))]⟩,fun a1=>l.length-a1,fun a1=>a1≤l.length⟩
 .lp L1 0 (show 0≤l.length from Nat.zero_le _) [(17,aI 0)] [(6,.box b3 31 [aI ((Qag s).stamp),.sl 5 false ((Qag s).was.l.map nodA),aI ((Qag s).was.next),.sl 5 false ((Qag s).now.l.map nodA),aI ((Qag s).now.next),.sl 1 false ((Qag s).looks.map intA)]),(14,.row V1 45 6 (List.replicate l.length [aI 0,aI 0,aI 0,aI 0,aS ([]),aN]))] ⟨sR,sR,sR,sR,sR,sR,sO,trivial⟩ ⟨sB,sB,⟨_,rfl,SubB.of_eq rfl⟩,⟨_,rfl,SubB.of_eq rfl⟩,trivial⟩ fun a1 ha1=>
 (fun (k:Nat) (hH1:k≤l.length)=>have kt:=Qiq (Qkt ms.ok) T hl ok hx (Nat.zero_le _) (k:=k) (by omega);have kp:=kt.now;have kp2:=kp.next;have kl:=kt.len;have kl0:(Qag s).looks.length=0:=rfl;.r 1<|.bd 18 ((k:Int)<(l.length:Int)) (fun p1=>.r 1<|.idxM l calA k (m:=(k:Int)) rfl (by omega) fun x1 hx1=>
 have okx1:=ok x1 (List.mem_of_getElem? hx1);.r 1<|.new fun b4=>.u 2 [b4]<|
 .st (rowR 14) (V1,45,6,prow (plR (Qag s).now (l.take k)) l.length) (fun _ σ=>σ) (Qb5 14 (by first | omega | (rw [Qqj (by rw [Qfv,List.length_take];omega)];omega))) fun a5r=>
 .u 4 [b3,b4]<|
 .call (Qsi (Qad (Qag s) (l.take k)) x1 kp.ok okx1 kp.tree.rows (by omega) (by omega))<|
 .u 4 [b3]<|
 .op (ixR prog) (14,V1,l.length,6,(k:Int),some 30) (fun (_:Unit) σ=>σ.put (some 30) (.ep 14 V1 6 k 0)) (Qfj k a5r.2.1 (by omega) (by first | omega | (rw [Qqj (by rw [Qfv,List.length_take];omega)];omega))) fun _=>
 .op (stR prog) (14,V1,6,k,0,V1,45,6,prow (plR (Qag s).now (l.take k)) l.length,[aI ((doF (Qad (Qag s) (l.take k)).now x1).2.e),aI ((doF (Qad (Qag s) (l.take k)).now x1).2.a),aI ((doF (Qad (Qag s) (l.take k)).now x1).2.b),aI ((doF (Qad (Qag s) (l.take k)).now x1).2.n),aS ((doF (Qad (Qag s) (l.take k)).now x1).2.text),AV.sl 1 false ((doF (Qad (Qag s) (l.take k)).now x1).2.names.map txA)],none) (fun (_:Unit) σ=>(σ.put (none) .any).setB 14 (.row V1 45 6 ((prow (plR (Qag s).now (l.take k)) l.length).set k ((zRA ()).take 0++[aI ((doF (Qad (Qag s) (l.take k)).now x1).2.e),aI ((doF (Qad (Qag s) (l.take k)).now x1).2.a),aI ((doF (Qad (Qag s) (l.take k)).now x1).2.b),aI ((doF (Qad (Qag s) (l.take k)).now x1).2.n),aS ((doF (Qad (Qag s) (l.take k)).now x1).2.text),AV.sl 1 false ((doF (Qad (Qag s) (l.take k)).now x1).2.names.map txA)]++(zRA ()).drop (0+[aI ((doF (Qad (Qag s) (l.take k)).now x1).2.e),aI ((doF (Qad (Qag s) (l.take k)).now x1).2.a),aI ((doF (Qad (Qag s) (l.take k)).now x1).2.b),aI ((doF (Qad (Qag s) (l.take k)).now x1).2.n),aS ((doF (Qad (Qag s) (l.take k)).now x1).2.text),AV.sl 1 false ((doF (Qad (Qag s) (l.take k)).now x1).2.names.map txA)].length))))) (Qjv (zRA ()) (Zie (by rw [Qfv,List.length_take];omega) (by omega)) (Nat.le_of_ble_eq_true rfl)) fun _=>
 .run 2 [rng .i64 ((k:Int)+1)] ⟨Qai (by omega) (by omega),trivial⟩<|
 .bk L1 k (k+1) (show (k+1)≤l.length from (by show _≤_;omega)) (show l.length-(k+1)<l.length-k from (by omega)) [(17,aI ((k:Int)+1))] [(6,.box b3 31 [aI ((Qb0 (Qad (Qag s) (l.take k)) x1).stamp),.sl 5 false ((Qb0 (Qad (Qag s) (l.take k)) x1).was.l.map nodA),aI ((Qb0 (Qad (Qag s) (l.take k)) x1).was.next),.sl 5 false ((Qb0 (Qad (Qag s) (l.take k)) x1).now.l.map nodA),aI ((Qb0 (Qad (Qag s) (l.take k)) x1).now.next),.sl 1 false ((Qb0 (Qad (Qag s) (l.take k)) x1).looks.map intA)]),(14,.row V1 45 6 ((prow (plR (Qag s).now (l.take k)) l.length).set k ((zRA ()).take 0++[aI ((doF (Qad (Qag s) (l.take k)).now x1).2.e),aI ((doF (Qad (Qag s) (l.take k)).now x1).2.a),aI ((doF (Qad (Qag s) (l.take k)).now x1).2.b),aI ((doF (Qad (Qag s) (l.take k)).now x1).2.n),aS ((doF (Qad (Qag s) (l.take k)).now x1).2.text),AV.sl 1 false ((doF (Qad (Qag s) (l.take k)).now x1).2.names.map txA)]++(zRA ()).drop (0+[aI ((doF (Qad (Qag s) (l.take k)).now x1).2.e),aI ((doF (Qad (Qag s) (l.take k)).now x1).2.a),aI ((doF (Qad (Qag s) (l.take k)).now x1).2.b),aI ((doF (Qad (Qag s) (l.take k)).now x1).2.n),aS ((doF (Qad (Qag s) (l.take k)).now x1).2.text),AV.sl 1 false ((doF (Qad (Qag s) (l.take k)).now x1).2.names.map txA)].length))))] ⟨sR,sR,sR,sR,sR,sR,sO,trivial⟩ ⟨sB,sB,⟨_,rfl,SubB.of_eq (by rw [Qd9 hx1])⟩,⟨_,rfl,SubB.of_eq (by rw [Qcm hx1];exact congrArg _ (Zid (v:=(doF (Qad (Qag s) (l.take k)).now x1).2) (by rw [Qfv,List.length_take];omega) (by omega)))⟩,trivial⟩)
 <| fun p1=>.u 2 [b1,b3]<|
 .call (Qjh s (Qad (Qag s) (l.take k)) ms kt.ok (by rw [kt.was];exact T.rows) kp.tree.rows)<|
 .u 4 [b1]<|
 .u 4 [b1,b2]<|
 .frz 14 [4,5] [4] [V1=V1,l.length=(prow (plR (Qag s).now (l.take k)) l.length).length] ⟨rfl,(Qqj (by rw [Qfv,List.length_take];omega)).symm,trivial⟩<|
 .f (.tup [.agg (stoA (runD s l)),.sl 6 false ((plR (Qag s).now l).map repA)]) [b2] (.tup [.agg [.sl 2 false ((Qbd s (Qad (Qag s) (l.take k))).1.l.map chnA),.sl 2 false ((Qbd s (Qad (Qag s) (l.take k))).1.nexts.map cntA),aI ((Qbd s (Qad (Qag s) (l.take k))).1.stamp)],.sl 6 false (prow (plR (Qag s).now (l.take k)) l.length)]) (by
  unfold runD;rw [show l.take k=l from Qat (by omega),Zde (Qfv _ _)]
  first | exact sR | exact Sub.tups ⟨sR,Sub.loose _ _ _,trivial⟩)) a1 ha1)
theorem Qlk {f g:Fsy} (okf:OkF f) (okg:OkF g):∀ c∈Qbj f g,OkCh c:=fun c hc=>by
 obtain ⟨i,hi,h⟩:=List.mem_filterMap.1 hc;have hI:I64 i:=by
  rcases Qh6.1 hi with h | h
  ·obtain ⟨n,hn,rfl⟩:=List.mem_map.1 h;exact (okf.2.2 n hn).1
  ·obtain ⟨n,hn,rfl⟩:=List.mem_map.1 h;exact (okg.2.2 n hn).1
 unfold chgD at h
 split at h
 ·obtain rfl:=Option.some.inj h;exact ⟨hI,Qk6⟩
 ·rename_i hb
  split at h
  ·obtain rfl:=Option.some.inj h;exact ⟨hI,okg.2.2 _ (Qdm (Qf0 (by simpa using hb)))⟩
  ·cases h
theorem Zd7 {s:Sto} {B:Nat} (h:Fit s B) (hB:B≤1000) (hs:s.stamp<1152921504606846977):MidS s:=⟨h.ok,by have:=h.l;omega,by have:=h.n;omega,fun c hc=>by have:=h.r c hc;omega,hs⟩
theorem Qxu:Fit newS 1:=⟨Qk7,by decide,by decide,fun c h=>by obtain rfl:=List.mem_singleton.1 h;decide⟩
theorem Zit:MidS newS:=Zd7 Qxu (by decide) (by decide)
theorem Zdz:Qck newS 1=newF:=by rfl
theorem Qds:Qag newS=⟨1,newF,newF,[]⟩:=by unfold Qag;rw [show newS.stamp=1 from rfl,Zdz]
noncomputable def tA:Txn:=Qb0 (Qag newS) cA
theorem Qsg:tA=⟨1,newF,fA,Qdg ([]++Qbh newF cA)⟩:=by unfold tA;rw [Qds];unfold Qb0;rw [doA1]
theorem Zlu:(0:Int)∈tA.looks:=by
 rw [Qsg];show (0:Int)∈Qdg _;rw [Qhi];unfold Qbh;rw [if_pos (.inl rfl)];simp
theorem Zbw:¬ tA.was=tA.now:=by
 rw [Qsg];intro h;have:=congrArg Fsy.next h;rw [show (⟨1,newF,fA,Qdg ([]++Qbh newF cA)⟩:Txn).now=fA from rfl,Qiu.2.2.1] at this;exact absurd this (by decide)
theorem tA_len:tA.looks.length≤7:=Qsj (Qag newS) cA
theorem Zlv:OkT tA:=by
 have h:=tA_len;refine ⟨?_,?_,?_,by omega⟩<;>rw [Qsg]
 ·exact Qx7 (by decide) (by decide)
 ·exact Qqr
 ·exact Qiu.2.1
noncomputable def kA:Sto:=Qdd newS (Qbj newF fA) 3
theorem kA_run:runD newS [cA]=kA:=by
 unfold runD;rw [show Qad (Qag newS) [cA]=tA from rfl,Qfc (Qab.2 Zbw) (Qab.2 ?_)]
 ·rw [Qsg];show Qdd newS (Qbj newF fA) fA.next=kA;rw [Qiu.2.2.1];rfl
 ·rintro ⟨x,hx,_⟩;rw [Qsg] at hx;rw [show (⟨1,newF,fA,Qdg ([]++Qbh newF cA)⟩:Txn).stamp=newS.stamp from rfl,Qo1 Zae] at hx;cases hx
theorem Zi4:kA.stamp=2:=rfl
theorem Zi5:kA.nexts=[⟨1,2⟩,⟨2,3⟩]:=by
 show Qc6 newS 3=_;rw [Qnf (s:=newS) (next:=3) (c:=⟨1,2⟩) rfl (by decide)];rfl
theorem Qx6:Qes kA tA:=by
 refine ⟨0,?_,Zlu⟩;rw [show tA.stamp=1 from by rw [Qsg]];unfold Qby;rw [if_pos (.inr (by unfold Zah;rw [Zi5];rfl))];simp
theorem Zev:Fit kA 513:=by
 have hl:(Qbj newF fA).length≤257:=by
  have:=Qfd newF fA;have:=Qiu.1.1;have:=Ziu;omega
 have h:=Qxu.inst (Qlk Qqr Qiu.2.1) (next:=3) (Qx7 (by decide) (by decide)) (by decide) (by omega);have h2:kA.stamp=2:=rfl;exact ⟨h.ok,by have:=h.l;show kA.l.length≤_;unfold kA;omega,by have:=h.n;unfold kA;omega,fun c hc=>by have:=h.r c hc;omega⟩
theorem kA_mid:MidS kA:=Zd7 Zev (by decide) (by decide)
def rA:Rep:=⟨0,2,0,0,[],[]⟩
theorem rA_eq:plR (Qag newS).now [cA]=[rA]:=by
 rw [Qds];show [(doF newF cA).2]=_;rw [doA1];rfl
theorem fA_was:tA.was=newF:=by rw [Qsg]
theorem fA_now:tA.now=fA:=by rw [Qsg]
theorem Qcn:Qah prog 18 [.agg (txnA (Qag newS)),.agg (calA cA)] (.tup [.agg (txnA tA),.agg (repA rA)]):=by
 have h:=Qsi (Qag newS) cA (by rw [Qds];exact Qqr) cA_ok (by rw [Qds];exact Qe8) (by rw [Qds];decide) (by show ([]:List Int).length≤_;simp);rw [show (doF (Qag newS).now cA).2=rA from by rw [Qds,doA1];rfl] at h;exact h
theorem Zd0:TreeP (Qag newS).now:=by
 rw [Qds];exact Qzv.1 ⟨Qe8,⟨Qi3,rfl,rfl,rfl,rfl⟩,fun p hp=>(by cases hp),fun i x hx=>(by cases i<;>cases hx)⟩
theorem Zcd:Qah prog 32 [.agg (stoA newS),.sl 8 false ([cA].map calA)] (.tup [.agg (stoA kA),.sl 6 false ([rA].map repA)]):=by
 have h:=Qxa newS [cA] Zit Zd0 (by decide) (fun c h=>by obtain rfl:=List.mem_singleton.1 h;exact cA_ok) (by rw [Qds];decide);rw [kA_run,rA_eq] at h;exact h
theorem Znp:Qbd kA tA=(kA,15):=Qfr (Qab.2 Zbw) (Qaw.2 Qx6)
theorem Qt6:Qah prog 30 [.agg (stoA kA),.agg (txnA tA)] (.tup [.agg (stoA kA),aI 15]):=by
 have h:=Qjh kA tA kA_mid Zlv (by rw [fA_was];exact Qe8) (by rw [fA_now];exact Qiu.1);rw [Znp] at h;exact h
theorem Qzt :Qah prog 43 [] (.agg (stoA newS)):=by
 exact Qac func43 (
 .new fun b1=>.call (Zcp)<|
 .new fun b2=>.u 1 [b2]<|
 .u 2 [b2]<|
 .idxM newF.l nodA 0 (m:=0) (show (0:Int)=((0:Nat):Int) from rfl) (by decide) fun x1 hx1=>
 have ex1:=Zmw hx1;.u 9 [b1]<|
 .f (.agg (stoA newS)) [b1] (.agg [.sl 2 true ([[aI 1,.sl 7 true ([[aI 1,aB false,aI x1.ino,aI x1.kind,aI x1.links,aS x1.text,.sl 2 false (x1.l.map entA)]])]]),.sl 2 true ([[aI 1,aI 2]]),aI 1]) (by
  obtain rfl:=ex1
  first | exact sR | exact Sub.aggs ⟨Qw8 ⟨sR,Qw8 sr7,trivial⟩,Qw8 sr2,sR,trivial⟩))
theorem Zl3 :Qah prog 11 [] (aB true):=by
 exact Qac func11 (
 .r 1<|.call (Qzt)<|
 .new fun b1=>.u 1 [b1]<|
 .r 1<|.new fun b2=>.u 1 [b2]<|
 .u 3 [b1,b2]<|
 .cs (args0:=[.agg (stoA newS),.sl 8 true ([[aI 6,aI 1,aI 0,aI 0,aI 0,aS ([97]),aS ([]),aS ([])]])]) (Zcd) ⟨sR,Sub.loose _ _ _,trivial⟩<|
 .r 3<|.new fun b3=>.u 2 [b3]<|
 let J1:Jn (Nat):=⟨fun j1=>⟨[(0,aB false),(3,.ptr 3 b3 0),(4,.sl 6 false ([rA].map repA)),(5,.ptr 5 j1 0)],[(3,.box b3 25 (stoA kA)),(5,.box j1 31 (txnA tA))]⟩,fun _=>True⟩
 .cut J1 (.pick [0,2]<|.u 2 [b1,b2]<|
 .fork<|.alt (.call (Qe4 newS Qk7 (by decide))<|
 .fork<|.alt (.cs (args0:=[.agg [aI ((Qag newS).stamp),.sl 5 false ((Qag newS).was.l.map nodA),aI ((Qag newS).was.next),.sl 5 false ((Qag newS).now.l.map nodA),aI ((Qag newS).now.next),.sl 1 false ((Qag newS).looks.map intA)],.agg [aI 6,aI 1,aI 0,aI 0,aI 0,aS ([97]),aS ([]),aS ([])]]) (Qcn) sr2<|
 .pick [4,5,6]<|.r 3<|.fork<|.alt (.new fun b4=>.pick [8,9,10]<|.new fun b5=>.u 2 [b4,b5]<|
 .jo J1 b4 [] [] sr4 bb2)
 <| .new fun b6=>.pick [7,9,10]<|.new fun b7=>.u 2 [b7,b6]<|
 .jo J1 b7 [] [] sr4 bb2)
 <| .alt (.new fun b8=>.fork<|.alt (.cs (args0:=[.agg [aI ((Qag newS).stamp),.sl 5 false ((Qag newS).was.l.map nodA),aI ((Qag newS).was.next),.sl 5 false ((Qag newS).now.l.map nodA),aI ((Qag newS).now.next),.sl 1 false ((Qag newS).looks.map intA)],.agg [aI 6,aI 1,aI 0,aI 0,aI 0,aS ([97]),aS ([]),aS ([])]]) (Qcn) sr2<|
 .pick [4,5,6,8,9,10]<|.r 3<|.new fun b9=>.u 2 [b8,b9]<|
 .jo J1 b8 [] [] sr4 bb2)
 <| .new fun b10=>.pick [3,4,5,6,9,10]<|.cs (args0:=[.agg [aI ((Qag newS).stamp),.sl 5 false ((Qag newS).was.l.map nodA),aI ((Qag newS).was.next),.sl 5 false ((Qag newS).now.l.map nodA),aI ((Qag newS).now.next),.sl 1 false ((Qag newS).looks.map intA)],.agg [aI 6,aI 1,aI 0,aI 0,aI 0,aS ([97]),aS ([]),aS ([])]]) (Qcn) sr2<|
 .u 5 [b8,b10]<|
 .jo J1 b8 [] [] sr4 bb2)
 <| .new fun b11=>.fork<|.alt (.cs (args0:=[.agg [aI ((Qag newS).stamp),.sl 5 false ((Qag newS).was.l.map nodA),aI ((Qag newS).was.next),.sl 5 false ((Qag newS).now.l.map nodA),aI ((Qag newS).now.next),.sl 1 false ((Qag newS).looks.map intA)],.agg [aI 6,aI 1,aI 0,aI 0,aI 0,aS ([97]),aS ([]),aS ([])]]) (Qcn) sr2<|
 .pick [4,5,6,7,9,10]<|.r 3<|.new fun b12=>.u 2 [b12,b11]<|
 .jo J1 b12 [] [] sr4 bb2)
 <| .new fun b13=>.pick [3,4,5,6,9,10]<|.cs (args0:=[.agg [aI ((Qag newS).stamp),.sl 5 false ((Qag newS).was.l.map nodA),aI ((Qag newS).was.next),.sl 5 false ((Qag newS).now.l.map nodA),aI ((Qag newS).now.next),.sl 1 false ((Qag newS).looks.map intA)],.agg [aI 6,aI 1,aI 0,aI 0,aI 0,aS ([97]),aS ([]),aS ([])]]) (Qcn) sr2<|
 .u 5 [b13,b11]<|
 .jo J1 b13 [] [] sr4 bb2)
 <| .alt (.new fun b14=>.fork<|.alt (.call (Qe4 newS Qk7 (by decide))<|
 .fork<|.alt (.cs (args0:=[.agg [aI ((Qag newS).stamp),.sl 5 false ((Qag newS).was.l.map nodA),aI ((Qag newS).was.next),.sl 5 false ((Qag newS).now.l.map nodA),aI ((Qag newS).now.next),.sl 1 false ((Qag newS).looks.map intA)],.agg [aI 6,aI 1,aI 0,aI 0,aI 0,aS ([97]),aS ([]),aS ([])]]) (Qcn) sr2<|
 .pick [4,5,6,8,9,10]<|.r 3<|.new fun b15=>.u 2 [b14,b15]<|
 .jo J1 b14 [] [] sr4 bb2)
 <| .new fun b16=>.pick [3,4,5,6,9,10]<|.cs (args0:=[.agg [aI ((Qag newS).stamp),.sl 5 false ((Qag newS).was.l.map nodA),aI ((Qag newS).was.next),.sl 5 false ((Qag newS).now.l.map nodA),aI ((Qag newS).now.next),.sl 1 false ((Qag newS).looks.map intA)],.agg [aI 6,aI 1,aI 0,aI 0,aI 0,aS ([97]),aS ([]),aS ([])]]) (Qcn) sr2<|
 .u 5 [b14,b16]<|
 .jo J1 b14 [] [] sr4 bb2)
 <| .new fun b17=>.pick [1,3,4,5,6,9,10]<|.call (Qe4 newS Qk7 (by decide))<|
 .cs (args0:=[.agg [aI ((Qag newS).stamp),.sl 5 false ((Qag newS).was.l.map nodA),aI ((Qag newS).was.next),.sl 5 false ((Qag newS).now.l.map nodA),aI ((Qag newS).now.next),.sl 1 false ((Qag newS).looks.map intA)],.agg [aI 6,aI 1,aI 0,aI 0,aI 0,aS ([97]),aS ([]),aS ([])]]) (Qcn) sr2<|
 .u 5 [b14,b17]<|
 .jo J1 b14 [] [] sr4 bb2)
 <| .new fun b18=>.fork<|.alt (.call (Qe4 newS Qk7 (by decide))<|
 .fork<|.alt (.cs (args0:=[.agg [aI ((Qag newS).stamp),.sl 5 false ((Qag newS).was.l.map nodA),aI ((Qag newS).was.next),.sl 5 false ((Qag newS).now.l.map nodA),aI ((Qag newS).now.next),.sl 1 false ((Qag newS).looks.map intA)],.agg [aI 6,aI 1,aI 0,aI 0,aI 0,aS ([97]),aS ([]),aS ([])]]) (Qcn) sr2<|
 .pick [4,5,6,7,9,10]<|.r 3<|.new fun b19=>.u 2 [b19,b18]<|
 .jo J1 b19 [] [] sr4 bb2)
 <| .new fun b20=>.pick [3,4,5,6,9,10]<|.cs (args0:=[.agg [aI ((Qag newS).stamp),.sl 5 false ((Qag newS).was.l.map nodA),aI ((Qag newS).was.next),.sl 5 false ((Qag newS).now.l.map nodA),aI ((Qag newS).now.next),.sl 1 false ((Qag newS).looks.map intA)],.agg [aI 6,aI 1,aI 0,aI 0,aI 0,aS ([97]),aS ([]),aS ([])]]) (Qcn) sr2<|
 .u 5 [b20,b18]<|
 .jo J1 b20 [] [] sr4 bb2)
 <| .new fun b21=>.pick [1,3,4,5,6,9,10]<|.call (Qe4 newS Qk7 (by decide))<|
 .cs (args0:=[.agg [aI ((Qag newS).stamp),.sl 5 false ((Qag newS).was.l.map nodA),aI ((Qag newS).was.next),.sl 5 false ((Qag newS).now.l.map nodA),aI ((Qag newS).now.next),.sl 1 false ((Qag newS).looks.map intA)],.agg [aI 6,aI 1,aI 0,aI 0,aI 0,aS ([97]),aS ([]),aS ([])]]) (Qcn) sr2<|
 .u 5 [b21,b18]<|
 .jo J1 b21 [] [] sr4 bb2)
 <| fun j1 _=>(fun (b22:Nat)=>.u 2 [b3,b22]<|
 .call (Qt6)<|
 .r 3<|.new fun b23=>.u 2 [b23]<|
 .u 4 [b3]<|
 .is 34 (show (kA.stamp==2)=true from (by rw [Zi4];rfl))<|.r 2<|.lm 36 ([rA]) repA<|.r 3<|.is 39 (show ((([rA]).length:Int)==1)=true from rfl)<|.r 1<|.idxM ([rA]) repA 0 (m:=0) (show (0:Int)=((0:Nat):Int) from rfl) (by decide) fun x1 hx1=>
 have ex1:=(Option.some.inj (show some rA=some x1 from hx1));.r 5<|.is 46 (show (x1.a==2)=true from (by rw [← ex1];rfl))<|.r 4<|.is 50 (show (15==15)=true from rfl)<|.u 2 [b3,b22]<|
 .call (Qlh kA tA Zev.ok (by have:=Zev.l;omega) Zlv)<|
 .r 2<|.is 55 (show (dP (Qes kA tA))=true from (Qaw.2 Qx6))<|.u 1 [b22]<|
 .call (Qtk tA Zlv)<|
 .r 3<|.f (aB true) [] (aB (!(dP (tA.was=tA.now)))) (by exact Sub.of_eq (congrArg aB (by first | rfl | (rw [Qab.2 Zbw];rfl))))) j1)
theorem Qka {f g:Fsy} {k:Nat} (hf:fewF f) (hk:k≤30) (K:KeptN f g k):midF g:=by
 have h:=K.few;rw [wF_eq,wF_eq] at h;have:=hf.1;unfold midF;omega
theorem Qb7 {f:Fsy} {l:List Cal} {k:Nat} (h:k≤l.length):(plR f (l.take k)).length=k:=by rw [Qfv,List.length_take];omega
structure Pls where
 f:Fsy
 l:List Cal
 g:Fsy
 next:Int
structure OkPls (a:Pls):Prop where
 f:OkF a.f
 len:a.l.length≤8796093022207
 l:∀ c∈a.l,OkC0 c
 g:OkF a.g
 next:I64 a.next
end Go.Proofs.YtahlldgocpabjaaGreat
