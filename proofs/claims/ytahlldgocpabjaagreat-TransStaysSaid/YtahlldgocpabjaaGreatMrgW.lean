import Derived.Test.YtahlldgocpabjaaGreatMrgU
import Derived.Test.YtahlldgocpabjaaGreatOpsD13
import Derived.Test.YtahlldgocpabjaaGreatMrgS
set_option maxRecDepth 100000
set_option maxHeartbeats 8000000
set_option linter.unusedVariables false
set_option linter.unusedSimpArgs false
namespace Go.Proofs.YtahlldgocpabjaaGreat
open Go Go.RowKit Copyhold
theorem of_at {f:Fsy} {i k:Int} (h:ofE f i k=0):atF f i=some (Qaa f i)∧(Qaa f i).kind=k:=by
 unfold ofE at h
 split at h
 ·rename_i hb
  split at h
  ·rename_i hk;exact ⟨Qe8 hb,hk⟩
  ·cases h
 ·cases h
theorem Qqr {f:Fsy} {i:Int} {t:Txt} (okf:OkF f) (T:TreeP f) (h:ofE f i 1=0) (ht:t.length≤4096):Kept f (putF f (Qbg (Qaa f i) t)):=by
 obtain ⟨hn,hk⟩:=of_at h
 obtain ⟨n1,n2,n3⟩:=Qbn T.rows hn
 have okn:=okf.2.2 _ (Qdg hn)
 exact Zek okf T hn n3 rfl rfl rfl ⟨n1.1,n1.2.1,n1.2.2.1,.inr ⟨.inl hk,ht,(show (Qaa f i).l=[] from Qfn n1 (by rw [hk];decide))⟩⟩ ⟨okn.1,okn.2.1,okn.2.2.1,by show t.length≤_;omega,okn.2.2.2.2⟩
theorem Ql0 {f:Fsy} {c:Cal} {n:Nod} (okf:OkF f) (okc:OkCal c) (T:TreeP f) (hx:f.next<4611686018427387904) (okn:OkN n):Kept f (addO f c n).1:=by
 unfold addO
 show Kept f (if Qak f c.ino c.name n=0 then _ else f)
 split
 ·rename_i h;exact Zem okf T okn okc.name hx h
 ·exact Kept.self okf T
theorem Zaq {f:Fsy} {c:Cal} (okf:OkF f) (okc:OkCal c) (T:TreeP f) (hx:f.next<4611686018427387904) (he:(Qbw f c).2.e=0):Kept f (Qbw f c).1:=by
 have S:=Kept.self okf T
 rcases (show c.kind=1∨c.kind=2∨c.kind=3∨c.kind=4∨c.kind=5∨c.kind=6∨c.kind=7∨c.kind=8∨c.kind=9∨c.kind=10∨c.kind=11∨c.kind=12∨c.kind=13∨c.kind=14∨c.kind=15∨(c.kind<1∨c.kind>15) from by omega) with h | h | h | h | h | h | h | h | h | h | h | h | h | h | h | h
 ·rw [Qmb h] at he ⊢
  exact S
 ·rw [Qj8 h] at he ⊢
  unfold Qcz;split<;>exact S
 ·rw [Qj7 h] at he ⊢
  unfold Qc0;split<;>exact S
 ·rw [Qj6 h] at he ⊢
  unfold Qb2 at he ⊢
  split
  ·rename_i hof
   rw [if_pos hof] at he
   refine Qqr okf T hof ?_
   have he2:(Qat (Qaa f c.ino).text c.at_ c.text).2=0:=he
   unfold Qat at he2 ⊢
   split
   ·rename_i hw
    have hz:=Qfv hw
    have htl:=Qe1 T.rows c.ino
    show (if c.text=[] then (Qaa f c.ino).text else putD (Qaa f c.ino).text c.at_.toNat c.text).length≤4096
    split
    ·exact htl
    ·rw [Qlg];omega
   ·exact Qe1 T.rows c.ino
  ·exact S
 ·rw [Qj5 h] at he ⊢
  unfold cutO
  split
  ·rename_i hof
   refine Qqr okf T hof ?_
   unfold cutD
   split
   ·rename_i hw
    have hz:=Qfv hw
    show (Qe7 (Qaa f c.ino).text c.many.toNat).length≤4096
    rw [Qdd];omega
   ·exact Qe1 T.rows c.ino
  ·exact S
 ·rw [Qiy h] at he ⊢
  exact Ql0 okf okc T hx Qoy
 ·rw [Qj4 h] at he ⊢
  exact Ql0 okf okc T hx Qs1
 ·rw [Qj3 h] at he ⊢
  unfold symO
  split
  ·exact S
  ·exact Ql0 okf okc T hx (Qow okc.text)
 ·rw [Qix h] at he ⊢
  unfold Qa9 at he ⊢
  split
  ·rename_i h0
   split
   ·exact S
   ·rename_i h1
    rw [if_pos h0,if_neg h1] at he
    exact Qqs okf T he
  ·exact S
 ·rw [Qf3 h] at he ⊢
  unfold Qa9 at he ⊢
  split
  ·rename_i h0
   split
   ·exact S
   ·rename_i h1
    rw [if_pos h0,if_neg h1] at he
    exact Qqs okf T he
  ·exact S
 ·rw [Qhv h] at he ⊢
  unfold Qd3 at he ⊢
  exact Zao okf T okc.name he
 ·rw [Qhu h] at he ⊢
  unfold renO at he ⊢
  exact Zel okf T okc.name2 he
 ·rw [Qgo h] at he ⊢
  exact S
 ·rw [Qht h] at he ⊢
  exact S
 ·rw [Qhs h] at he ⊢
  exact S
 ·rw [Qpf h];exact S
theorem Zap {f:Fsy} {c:Cal} (okf:OkF f) (okc:OkCal c) (T:TreeP f) (hx:f.next<4611686018427387904):Kept f (doF f c).1:=by
 unfold doF
 split
 ·rename_i h;exact Zaq okf okc T hx h
 ·exact Kept.self okf T
end Go.Proofs.YtahlldgocpabjaaGreat

namespace Go.Proofs.YtahlldgocpabjaaGreat
open Go Go.RowKit Copyhold
open Copyhold.Name (Srt insE delE getE isAt)
theorem Qqm {s:Txt}:∀ {l:List NEnt},Srt l→∀ (k:Nat) (x:NEnt),l[k]?=some x→(x.1<s↔k<Name.pos l s)
 | a :: r,h,k,x,hx=>by
  by_cases ha:a.1<s
  ·rw [Name.pos_lt ha]
   cases k with
   | zero=>
    simp at hx
    subst hx
    exact ⟨fun _=>by omega,fun _=>ha⟩
   | succ k=>
    have:=Qqm (s:=s) (Name.Srt.tail h) k x (by simpa using hx)
    rw [this]
    omega
  ·have h0:=Name.pos_ge h ha
   rw [h0]
   refine ⟨fun hlt=>?_,fun h=>absurd h (Nat.not_lt_zero _)⟩
   have hc:(a :: r).countP (fun y=>decide (y.1<s))=0:=h0
   have:=List.countP_eq_zero.1 hc x (List.mem_of_getElem? hx)
   simp [hlt] at this
theorem Qqn {l:List Ent} {s:Txt} {k:Nat} {x:Ent} (h:Srt (lI l)) (hx:l[k]?=some x):Op.bytesLess x.name s=true↔k<posI l s:=by
 rw [Qls,decide_eq_true_iff]
 exact Qqm h k (x.name,x.ino) (by unfold lI;rw [List.getElem?_map,hx];rfl)
theorem Zce {s:Txt} (h:¬ Qah s=0):Qah s=10:=by
 unfold Qah at h ⊢
 split
 ·rename_i h1;rw [if_pos h1] at h;exact absurd rfl h
 ·rfl
def lvK (l:List Ent) (s:Txt) (k:Nat):List Ent:=(l.take k).filter fun e=>!(e.name==s)
theorem Qz9 {l:List Ent} {s:Txt} {k:Nat} {x:Ent} (h:l[k]?=some x) (q:(!(x.name==s))=true):lvK l s (k+1)=lvK l s k++[x]:=by
 unfold lvK;rw [Qap h,List.filter_append];simp [List.filter_cons,q]
theorem Zgn {l:List Ent} {s:Txt} {k:Nat} {x:Ent} (h:l[k]?=some x) (q:(!(x.name==s))=false):lvK l s (k+1)=lvK l s k:=by
 unfold lvK;rw [Qap h,List.filter_append];simp [List.filter_cons,q]
theorem Zgo (l:List Ent) (s:Txt) (k:Nat):(lvK l s k).length≤l.length:=Nat.le_trans (List.length_filter_le _ _) (by rw [List.length_take];omega)
theorem Zaa {l:List Ent} {s:Txt} {k:Nat} (h:Srt (lI l)) (hk:l.length≤k):lvK l s k=delL l s:=by
 apply Zal
 rw [Qut h]
 unfold lvK delE lI
 rw [Qay hk,List.filter_map]
 rfl
theorem Zai {l:List Ent} {s:Txt} (h:isB l s=true):Qf8 l s=0:=if_pos h
theorem Qur {l:List Ent} {s:Txt} (h:isB l s=false):delL l s=l∧Qf8 l s=6:=⟨if_neg (by rw [h];decide),if_neg (by rw [h];decide)⟩
theorem Qsh (l:List Ent) (s:Txt) (n:Int) (hl:l.length≤256) (hr:Name.Srt (lI l)) (hs:s.length≤1000000):Qaj Tryz.prog 166 [.sl 2 false (l.map entA),aS s,aI n] (.tup [.sl 2 false ((entL l s n).map entA),aI (entE l s n)]):=by
 exact Qac (F:=Tryz.f166) 400 (
 .r 2<|.r 1<|.call (Qdr s (by omega))<|
 .r 1<|.r 2<|.call (Qem l s (by omega))<|
 .r 5<|.r 2<|.br 22 ((Qah s) != 0) (fun q1=>have p1:=bneT q1;.r 4<|.fin (x:=.tup [.sl 2 false (l.map entA),aI (Qah s)]) (r:=.tup [.sl 2 false ((entL l s n).map entA),aI (entE l s n)]) [] trivial (by
  have e:entE l s n=Qah s:=by
   unfold entE
   rw [if_pos q1]
   exact (Zce (bneT q1)).symm
  have e2:entL l s n=l:=if_neg (by rw [e];exact bneT q1)
  rw [e2,e]
  exact Sub.tups ⟨by first | exact sR | exact Sub.loose _ _ _,sR,trivial⟩))
 <| fun q1=>have p1:=bneF q1;.r 2<|.br 26 (decide (n<1)) (fun q2=>have p2:=decT q2;.r 3<|.fin (x:=.tup [.sl 2 false (l.map entA),aI 1]) (r:=.tup [.sl 2 false ((entL l s n).map entA),aI (entE l s n)]) [] trivial (by
  have e:entE l s n=1:=by
   unfold entE
   rw [if_neg (by rw [q1];decide)]
   rw [if_pos (by omega)]
  have e2:entL l s n=l:=if_neg (by rw [e];decide)
  rw [e2,e]
  exact Sub.tups ⟨by first | exact sR | exact Sub.loose _ _ _,sR,trivial⟩))
 <| fun q2=>have p2:=decF q2;.r 1<|.br 28 (isB l s) (fun q3=>have p3:=booT q3;.r 3<|.fin (x:=.tup [.sl 2 false (l.map entA),aI 7]) (r:=.tup [.sl 2 false ((entL l s n).map entA),aI (entE l s n)]) [] trivial (by
  have e:entE l s n=7:=by
   unfold entE
   rw [if_neg (by rw [q1];decide)]
   rw [if_neg (by omega)]
   rw [if_pos q3]
  have e2:entL l s n=l:=if_neg (by rw [e];decide)
  rw [e2,e]
  exact Sub.tups ⟨by first | exact sR | exact Sub.loose _ _ _,sR,trivial⟩))
 <| fun q3=>have p3:=booF q3;.r 2<|.val 31 (show (aI ((l.map entA).length:Int):AV)=aI (l.length:Int) from by rw [List.length_map])<|.r 1<|.br 32 (decide ((l.length:Int)≥256)) (fun q4=>have p4:=decT q4;.r 3<|.fin (x:=.tup [.sl 2 false (l.map entA),aI 12]) (r:=.tup [.sl 2 false ((entL l s n).map entA),aI (entE l s n)]) [] trivial (by
  have e:entE l s n=12:=by
   unfold entE
   rw [if_neg (by rw [q1];decide)]
   rw [if_neg (by omega)]
   rw [if_neg (by rw [q3];decide)]
   rw [if_pos (by omega)]
  have e2:entL l s n=l:=if_neg (by rw [e];decide)
  rw [e2,e]
  exact Sub.tups ⟨by first | exact sR | exact Sub.loose _ _ _,sR,trivial⟩))
 <| fun q4=>have p4:=decF q4;.r 1<|.rowNil 11 11 128 2<|.r 1<|let L1:Lp (Nat × Value):=⟨fun a1=>⟨[(0,.sl 2 false (l.map entA)),(1,aS s),(2,aI n),(12,aI (a1.1:Int)),(11,.rw 11 a1.2 ((l.take a1.1).length))],[(11,.row a1.2 128 2 ((l.take a1.1).map entA))]⟩,fun a1=>l.length-a1.1,fun a1=>a1.1≤l.length∧a1.1≤posI l s⟩
 .loop L1 (0,.slice none 0 0) (show 0≤l.length∧0≤posI l s from ⟨Nat.zero_le _,Nat.zero_le _⟩) ⟨[(0,.sl 2 false (l.map entA)),(1,aS s),(2,aI n),(12,aI 0),(11,.rw 11 (.slice none 0 0) 0)],[(11,.row (.slice none 0 0) 128 2 ([]))]⟩ ⟨sR,sR,sR,Sub.of_eq (congrArg aI (by first | omega | rfl)),Sub.of_eq (congrArg (AV.rw 11 (.slice none 0 0)) (by simp)),trivial⟩ ⟨⟨_,rfl,SubB.of_eq (by simp)⟩,trivial⟩ fun a1 ha1=>
 (fun (k:Nat) (V:Value) (hH1:k≤l.length∧k≤posI l s)=>.r 3<|.val 36 (show (aI ((l.map entA).length:Int):AV)=aI (l.length:Int) from by rw [List.length_map])<|.r 2<|.br 38 (decide ((k:Int)<(l.length:Int))) (fun q5=>have p5:=decT q5;.r 2<|.idxM l entA k (m:=(k:Int)) rfl (by omega) fun x1 hx1=>
 .r 5<|.br 46 (Op.bytesLess x1.name s) (fun q6=>have p6:=booT q6;.r 3<|.idx k (m:=(k:Int)) (xs:=l.map entA) (e:=entA x1) rfl (map_some hx1)<|
 .r 2<|.app 24 V ((l.take k).map entA) ([[aS x1.name,aI x1.ino]]) (by have hq:=Qbk l s;simp only [List.length_map,List.length_cons,List.length_nil,List.length_take,List.length_drop,List.length_append];omega) (by have hq:=Qbk l s;simp only [List.length_map,List.length_cons,List.length_nil,List.length_take,List.length_drop,List.length_append];omega) fun V1=>
 .r 1<|.run 3 [rng .i64 ((k:Int)+1)] ⟨Qas (by omega) (by omega),trivial⟩<|
 .back L1 (k,V) ((k+1),V1) (show (k+1)≤l.length∧(k+1)≤posI l s from (by refine ⟨by omega,?_⟩;have:=(Qqn hr hx1).1 q6;omega)) (show l.length-(k+1)<l.length-k from (by omega)) ⟨[(0,.sl 2 false (l.map entA)),(1,aS s),(2,aI n),(12,aI ((k:Int)+1)),(11,.rw 11 V1 (((l.take k).map entA).length+([[aS x1.name,aI x1.ino]]:List (List AV)).length))],[(11,.row V1 128 2 (((l.take k).map entA)++([[aS x1.name,aI x1.ino]])))]⟩ ⟨sR,sR,sR,Sub.of_eq (congrArg aI (by first | omega | rfl)),Sub.of_eq (congrArg (AV.rw 11 V1) (by rw [Qap hx1];simp)),trivial⟩ ⟨⟨_,rfl,SubB.of_eq (by rw [Qap hx1];simp [entA])⟩,trivial⟩)
 <| fun q6=>have p6:=booF q6;.r 5<|.app 24 V ((l.take k).map entA) ([[aS s,aI n]]) (by have hq:=Qbk l s;simp only [List.length_map,List.length_cons,List.length_nil,List.length_take,List.length_drop,List.length_append];omega) (by have hq:=Qbk l s;simp only [List.length_map,List.length_cons,List.length_nil,List.length_take,List.length_drop,List.length_append];omega) fun V2=>
 .r 1<|.r 3<|.slc 2 false (l.map entA) (some (k:Int)) none none k ((l.map entA).length) false (.inr rfl) (.inl ⟨rfl,rfl⟩) (.inl ⟨rfl,fun h=>by cases h⟩) (by first | omega | (rw [List.length_map];omega)) (by first | omega | (rw [List.length_map];omega))<|
 .app 24 V2 (((l.take k).map entA)++([[aS s,aI n]])) (((l.map entA).take ((l.map entA).length)).drop k) (by have hq:=Qbk l s;simp only [List.length_map,List.length_cons,List.length_nil,List.length_take,List.length_drop,List.length_append];omega) (by have hq:=Qbk l s;simp only [List.length_map,List.length_cons,List.length_nil,List.length_take,List.length_drop,List.length_append];omega) fun V3=>
 .r 2<|.frz 11 [6,7] [] [V3=V3,(((l.take k).map entA)++([[aS s,aI n]])).length+(((l.map entA).take ((l.map entA).length)).drop k).length=((((l.take k).map entA)++([[aS s,aI n]]))++(((l.map entA).take ((l.map entA).length)).drop k)).length] ⟨rfl,(by first | rfl | (simp;done) | (simp;omega)),trivial⟩<|
 .fin (x:=.tup [.sl 2 false ((((l.take k).map entA)++([[aS s,aI n]]))++(((l.map entA).take ((l.map entA).length)).drop k)),aI 0]) (r:=.tup [.sl 2 false ((entL l s n).map entA),aI (entE l s n)]) [] trivial (by
  have e:entE l s n=0:=by
   unfold entE
   rw [if_neg (by rw [q1];decide)]
   rw [if_neg (by omega)]
   rw [if_neg (by rw [q3];decide)]
   rw [if_neg (by omega)]
  have e2:entL l s n=l.take (posI l s)++⟨s,n⟩ :: l.drop (posI l s):=if_pos e
  have hk:k=posI l s:=by
   have hq:=Qbk l s
   by_cases h:k<posI l s
   ·have:=(Qqn hr hx1).2 h;simp_all
   ·omega
  rw [e,e2,← hk]
  first | exact Sub.tups ⟨Sub.of_eq (congrArg (AV.sl 2 false) (by simp [entA,List.map_take,List.map_drop,Qay])),sR,trivial⟩ | exact Sub.tups ⟨(Sub.of_eq (congrArg (AV.sl 2 true) (by simp [entA,List.map_take,List.map_drop,Qay]))).trans (Sub.loose _ _ _),sR,trivial⟩))
 <| fun q5=>have p5:=decF q5;.r 8<|.r 5<|.app 24 V ((l.take k).map entA) ([[aS s,aI n]]) (by have hq:=Qbk l s;simp only [List.length_map,List.length_cons,List.length_nil,List.length_take,List.length_drop,List.length_append];omega) (by have hq:=Qbk l s;simp only [List.length_map,List.length_cons,List.length_nil,List.length_take,List.length_drop,List.length_append];omega) fun V4=>
 .r 1<|.r 3<|.slc 2 false (l.map entA) (some (k:Int)) none none k ((l.map entA).length) false (.inr rfl) (.inl ⟨rfl,rfl⟩) (.inl ⟨rfl,fun h=>by cases h⟩) (by first | omega | (rw [List.length_map];omega)) (by first | omega | (rw [List.length_map];omega))<|
 .app 24 V4 (((l.take k).map entA)++([[aS s,aI n]])) (((l.map entA).take ((l.map entA).length)).drop k) (by have hq:=Qbk l s;simp only [List.length_map,List.length_cons,List.length_nil,List.length_take,List.length_drop,List.length_append];omega) (by have hq:=Qbk l s;simp only [List.length_map,List.length_cons,List.length_nil,List.length_take,List.length_drop,List.length_append];omega) fun V5=>
 .r 2<|.frz 11 [6,7] [] [V5=V5,(((l.take k).map entA)++([[aS s,aI n]])).length+(((l.map entA).take ((l.map entA).length)).drop k).length=((((l.take k).map entA)++([[aS s,aI n]]))++(((l.map entA).take ((l.map entA).length)).drop k)).length] ⟨rfl,(by first | rfl | (simp;done) | (simp;omega)),trivial⟩<|
 .fin (x:=.tup [.sl 2 false ((((l.take k).map entA)++([[aS s,aI n]]))++(((l.map entA).take ((l.map entA).length)).drop k)),aI 0]) (r:=.tup [.sl 2 false ((entL l s n).map entA),aI (entE l s n)]) [] trivial (by
  have e:entE l s n=0:=by
   unfold entE
   rw [if_neg (by rw [q1];decide)]
   rw [if_neg (by omega)]
   rw [if_neg (by rw [q3];decide)]
   rw [if_neg (by omega)]
  have e2:entL l s n=l.take (posI l s)++⟨s,n⟩ :: l.drop (posI l s):=if_pos e
  have hk:k=posI l s:=by
   have hq:=Qbk l s
   omega
  rw [e,e2,← hk]
  first | exact Sub.tups ⟨Sub.of_eq (congrArg (AV.sl 2 false) (by simp [entA,List.map_take,List.map_drop,Qay])),sR,trivial⟩ | exact Sub.tups ⟨(Sub.of_eq (congrArg (AV.sl 2 true) (by simp [entA,List.map_take,List.map_drop,Qay]))).trans (Sub.loose _ _ _),sR,trivial⟩)) a1.1 a1.2 ha1) Tryz.func166 rfl (by kernel_rfl) (by kernel_rfl)
theorem Qsf (l:List Ent) (s:Txt) (hl:l.length≤1000000) (hr:Name.Srt (lI l)) (hs:s.length≤1000000):Qaj Tryz.prog 168 [.sl 2 false (l.map entA),aS s] (.tup [.sl 2 false ((delL l s).map entA),aI (getI l s),aI (Qf8 l s)]):=by
 exact Qac (F:=Tryz.f168) 400 (
 .r 3<|.r 2<|.call (Qem l s (by omega))<|
 .r 5<|.r 2<|.br 18 (!(isB l s)) (fun q1=>have q1:=notT q1;have p1:=booF q1;.r 4<|.fin (x:=.tup [.sl 2 false (l.map entA),aI 0,aI 6]) (r:=.tup [.sl 2 false ((delL l s).map entA),aI (getI l s),aI (Qf8 l s)]) [] trivial (by
  rw [(Qur q1).1,(Qur q1).2,Qo5 q1]
  exact Sub.tups ⟨by first | exact sR | exact Sub.loose _ _ _,sR,sR,trivial⟩))
 <| fun q1=>have q1:=notF q1;have p1:=booT q1;.r 1<|.rowNil 9 9 128 2<|.r 1<|let L1:Lp (Nat × Value):=⟨fun a1=>⟨[(0,.sl 2 false (l.map entA)),(1,aS s),(7,aI (getI l s)),(10,aI (a1.1:Int)),(9,.rw 9 a1.2 ((lvK l s a1.1).length))],[(9,.row a1.2 128 2 ((lvK l s a1.1).map entA))]⟩,fun a1=>l.length-a1.1,fun a1=>a1.1≤l.length⟩
 .loop L1 (0,.slice none 0 0) (show 0≤l.length from Nat.zero_le _) ⟨[(0,.sl 2 false (l.map entA)),(1,aS s),(7,aI (getI l s)),(10,aI 0),(9,.rw 9 (.slice none 0 0) 0)],[(9,.row (.slice none 0 0) 128 2 ([]))]⟩ ⟨sR,sR,sR,Sub.of_eq (congrArg aI (by first | omega | rfl)),Sub.of_eq (congrArg (AV.rw 9 (.slice none 0 0)) (by simp [lvK])),trivial⟩ ⟨⟨_,rfl,SubB.of_eq (by simp [lvK])⟩,trivial⟩ fun a1 ha1=>
 (fun (k:Nat) (V:Value) (hH1:k≤l.length)=>.r 3<|.val 22 (show (aI ((l.map entA).length:Int):AV)=aI (l.length:Int) from by rw [List.length_map])<|.r 1<|.br 23 (decide ((k:Int)<(l.length:Int))) (fun q2=>have p2:=decT q2;.r 2<|.idxM l entA k (m:=(k:Int)) rfl (by omega) fun x1 hx1=>
 .r 4<|.br 32 (!(x1.name==s)) (fun q3=>have q3:=notT q3;have p3:=beqF q3;.r 3<|.idx k (m:=(k:Int)) (xs:=l.map entA) (e:=entA x1) rfl (map_some hx1)<|
 .r 2<|.app 24 V ((lvK l s k).map entA) ([[aS x1.name,aI x1.ino]]) (by have:=Zgo l s k;simp only [List.length_map,List.length_cons,List.length_nil,List.length_append];omega) (by have:=Zgo l s k;simp only [List.length_map,List.length_cons,List.length_nil,List.length_append];omega) fun V1=>
 .r 1<|.run 3 [rng .i64 ((k:Int)+1)] ⟨Qas (by omega) (by omega),trivial⟩<|
 .back L1 (k,V) ((k+1),V1) (show (k+1)≤l.length from (by show _≤_;omega)) (show l.length-(k+1)<l.length-k from (by omega)) ⟨[(0,.sl 2 false (l.map entA)),(1,aS s),(7,aI (getI l s)),(10,aI ((k:Int)+1)),(9,.rw 9 V1 (((lvK l s k).map entA).length+([[aS x1.name,aI x1.ino]]:List (List AV)).length))],[(9,.row V1 128 2 (((lvK l s k).map entA)++([[aS x1.name,aI x1.ino]])))]⟩ ⟨sR,sR,sR,Sub.of_eq (congrArg aI (by first | omega | rfl)),Sub.of_eq (congrArg (AV.rw 9 V1) (by rw [Qz9 hx1 (by simpa using q3)];simp)),trivial⟩ ⟨⟨_,rfl,SubB.of_eq (by rw [Qz9 hx1 (by simpa using q3)];simp [entA])⟩,trivial⟩)
 <| fun q3=>have q3:=notF q3;have p3:=beqT q3;.run 3 [rng .i64 ((k:Int)+1)] ⟨Qas (by omega) (by omega),trivial⟩<|
 .back L1 (k,V) ((k+1),V) (show (k+1)≤l.length from (by show _≤_;omega)) (show l.length-(k+1)<l.length-k from (by omega)) ⟨[(0,.sl 2 false (l.map entA)),(1,aS s),(7,aI (getI l s)),(10,aI ((k:Int)+1)),(9,.rw 9 V ((lvK l s k).length))],[(9,.row V 128 2 ((lvK l s k).map entA))]⟩ ⟨sR,sR,sR,Sub.of_eq (congrArg aI (by first | omega | rfl)),Sub.of_eq (congrArg (AV.rw 9 V) (by rw [Zgn hx1 (by simpa using q3)])),trivial⟩ ⟨⟨_,rfl,SubB.of_eq (by rw [Zgn hx1 (by simpa using q3)])⟩,trivial⟩)
 <| fun q2=>have p2:=decF q2;.r 5<|.frz 9 [4,5,6] [] [V=V,(lvK l s k).length=((lvK l s k).map entA).length] ⟨rfl,(by first | rfl | (simp;done) | (simp;omega)),trivial⟩<|
 .fin (x:=.tup [.sl 2 false ((lvK l s k).map entA),aI (getI l s),aI 0]) (r:=.tup [.sl 2 false ((delL l s).map entA),aI (getI l s),aI (Qf8 l s)]) [] trivial (by
  rw [Zai q1]
  first | exact Sub.tups ⟨Sub.of_eq (by rw [Zaa hr (by omega)]),sR,sR,trivial⟩ | exact Sub.tups ⟨(Sub.of_eq (by rw [Zaa hr (by omega)])).trans (Sub.loose _ _ _),sR,sR,trivial⟩)) a1.1 a1.2 ha1) Tryz.func168 rfl (by kernel_rfl) (by kernel_rfl)
theorem Qsb (l:List Ent) (hl:l.length≤1000000):Qaj Tryz.prog 76 [.sl 2 false (l.map entA)] (.sl 1 false ((l.map Ent.name).map txA)):=by
 exact Qac (F:=Tryz.f76) 400 (
 .r 1<|.r 1<|.rowNil 3 3 9 1<|.r 1<|let L1:Lp (Nat × Value):=⟨fun a1=>⟨[(0,.sl 2 false (l.map entA)),(4,aI (a1.1:Int)),(3,.rw 3 a1.2 (((l.take a1.1).map Ent.name).length))],[(3,.row a1.2 9 1 (((l.take a1.1).map Ent.name).map txA))]⟩,fun a1=>l.length-a1.1,fun a1=>a1.1≤l.length⟩
 .loop L1 (0,.slice none 0 0) (show 0≤l.length from Nat.zero_le _) ⟨[(0,.sl 2 false (l.map entA)),(4,aI 0),(3,.rw 3 (.slice none 0 0) 0)],[(3,.row (.slice none 0 0) 9 1 ([]))]⟩ ⟨sR,Sub.of_eq (congrArg aI (by first | omega | rfl)),Sub.of_eq (congrArg (AV.rw 3 (.slice none 0 0)) (by simp)),trivial⟩ ⟨⟨_,rfl,SubB.of_eq (by simp)⟩,trivial⟩ fun a1 ha1=>
 (fun (k:Nat) (V:Value) (hH1:k≤l.length)=>.r 3<|.val 7 (show (aI ((l.map entA).length:Int):AV)=aI (l.length:Int) from by rw [List.length_map])<|.r 1<|.br 8 (decide ((k:Int)<(l.length:Int))) (fun q1=>have p1:=decT q1;.r 3<|.idxM l entA k (m:=(k:Int)) rfl (by omega) fun x1 hx1=>
 .r 3<|.app 16 V (((l.take k).map Ent.name).map txA) ([[aS x1.name]]) (by simp only [List.length_map,List.length_cons,List.length_nil,List.length_take,List.length_append];omega) (by simp only [List.length_map,List.length_cons,List.length_nil,List.length_take,List.length_append];omega) fun V1=>
 .r 1<|.run 3 [rng .i64 ((k:Int)+1)] ⟨Qas (by omega) (by omega),trivial⟩<|
 .back L1 (k,V) ((k+1),V1) (show (k+1)≤l.length from (by show _≤_;omega)) (show l.length-(k+1)<l.length-k from (by omega)) ⟨[(0,.sl 2 false (l.map entA)),(4,aI ((k:Int)+1)),(3,.rw 3 V1 ((((l.take k).map Ent.name).map txA).length+([[aS x1.name]]:List (List AV)).length))],[(3,.row V1 9 1 ((((l.take k).map Ent.name).map txA)++([[aS x1.name]])))]⟩ ⟨sR,Sub.of_eq (congrArg aI (by first | omega | rfl)),Sub.of_eq (congrArg (AV.rw 3 V1) (by rw [Qap hx1];simp)),trivial⟩ ⟨⟨_,rfl,SubB.of_eq (by rw [Qap hx1];simp [txA])⟩,trivial⟩)
 <| fun q1=>have p1:=decF q1;.r 2<|.frz 3 [2] [] [V=V,((l.take k).map Ent.name).length=(((l.take k).map Ent.name).map txA).length] ⟨rfl,(by first | rfl | (simp;done) | (simp;omega)),trivial⟩<|
 .fin (x:=.sl 1 false (((l.take k).map Ent.name).map txA)) (r:=.sl 1 false ((l.map Ent.name).map txA)) [] trivial (by first | exact Sub.of_eq (by rw [Qay (by omega)]) | exact (Sub.of_eq (by rw [Qay (by omega)])).trans (Sub.loose _ _ _))) a1.1 a1.2 ha1) Tryz.func76 rfl (by kernel_rfl) (by kernel_rfl)
end Go.Proofs.YtahlldgocpabjaaGreat

namespace Go.Proofs.YtahlldgocpabjaaGreat
open Go Go.RowKit Copyhold
open Copyhold.Name (Srt insE delE getE isAt)
noncomputable def Qlt (f:Fsy) (i:Int):Fsy:=if (Qaa f i).links≤1 then outF f i else putF f (Qdv (Qaa f i))
theorem Qby (f:Fsy) (d:Int) (s:Txt) (i:Int) (okf:OkF f) (hp:Qal f) (hs:s.length≤1000000):Qaj Tryz.prog 122 [.agg (fsyA f),aI d,aS s,aI i] (.agg (fsyA (enterF f d s i))):=by
 have hl:=hp.1
 have hr:=Qad hp
 exact Qac (F:=Tryz.f122) 400 (
 .new fun b1=>.new fun b2=>.run 2 [b1=b1] rt1<|
 .call (Qbd f d (by omega))<|
 .r 3<|.new fun b3=>.run 2 [b3=b3] rt1<|
 .run 4 [b3=b3] rt1<|
 .call (Qsh (Qaa f d).l s i (Qex hp d).2 (Qex hp d).1 hs)<|
 .r 5<|.run 3 [b3=b3] rt1<|
 .run 2 [b1=b1,b3=b3] rt2<|
 .callS (args0:=[.agg (fsyA f),.agg [aI ((Qaa f d).ino),aI ((Qaa f d).kind),aI ((Qaa f d).links),aS ((Qaa f d).text),.sl 2 false ((entL (Qaa f d).l s i).map entA)]]) (args:=[.agg (fsyA f),.agg [aI ((Qa0 (Qaa f d) (entL (Qaa f d).l s i)).ino),aI ((Qa0 (Qaa f d) (entL (Qaa f d).l s i)).kind),aI ((Qa0 (Qaa f d) (entL (Qaa f d).l s i)).links),aS ((Qa0 (Qaa f d) (entL (Qaa f d).l s i)).text),.sl 2 false ((Qa0 (Qaa f d) (entL (Qaa f d).l s i)).l.map entA)]]) sr2 (Qdi f (Qa0 (Qaa f d) (entL (Qaa f d).l s i)) (Qb4 okf hp d) (by omega) hr)<|
 .run 1 [b2=b2] rt1<|
 .fin (x:=.agg [.sl 5 false ((putF f (Qa0 (Qaa f d) (entL (Qaa f d).l s i))).l.map nodA),aI ((putF f (Qa0 (Qaa f d) (entL (Qaa f d).l s i))).next)]) (r:=.agg (fsyA (enterF f d s i))) [b2=b2] rt1 (by exact sR)) Tryz.func122 rfl (by kernel_rfl) (by kernel_rfl)
theorem Qcg (f:Fsy) (d:Int) (s:Txt) (okf:OkF f) (hp:Qal f) (hs:s.length≤1000000):Qaj Tryz.prog 125 [.agg (fsyA f),aI d,aS s] (.agg (fsyA (leaveF f d s))):=by
 have hl:=hp.1
 have hr:=Qad hp
 exact Qac (F:=Tryz.f125) 400 (
 .new fun b1=>.new fun b2=>.run 2 [b1=b1] rt1<|
 .call (Qbd f d (by omega))<|
 .r 3<|.new fun b3=>.run 2 [b3=b3] rt1<|
 .run 3 [b3=b3] rt1<|
 .call (Qsf (Qaa f d).l s (by have:=(Qex hp d).2;omega) (Qex hp d).1 hs)<|
 .r 7<|.run 3 [b3=b3] rt1<|
 .run 2 [b1=b1,b3=b3] rt2<|
 .callS (args0:=[.agg (fsyA f),.agg [aI ((Qaa f d).ino),aI ((Qaa f d).kind),aI ((Qaa f d).links),aS ((Qaa f d).text),.sl 2 false ((delL (Qaa f d).l s).map entA)]]) (args:=[.agg (fsyA f),.agg [aI ((Qa0 (Qaa f d) (delL (Qaa f d).l s)).ino),aI ((Qa0 (Qaa f d) (delL (Qaa f d).l s)).kind),aI ((Qa0 (Qaa f d) (delL (Qaa f d).l s)).links),aS ((Qa0 (Qaa f d) (delL (Qaa f d).l s)).text),.sl 2 false ((Qa0 (Qaa f d) (delL (Qaa f d).l s)).l.map entA)]]) sr2 (Qdi f (Qa0 (Qaa f d) (delL (Qaa f d).l s)) (Qb4 okf hp d) (by omega) hr)<|
 .run 1 [b2=b2] rt1<|
 .fin (x:=.agg [.sl 5 false ((putF f (Qa0 (Qaa f d) (delL (Qaa f d).l s))).l.map nodA),aI ((putF f (Qa0 (Qaa f d) (delL (Qaa f d).l s))).next)]) (r:=.agg (fsyA (leaveF f d s))) [b2=b2] rt1 (by exact sR)) Tryz.func125 rfl (by kernel_rfl) (by kernel_rfl)
theorem Qjf (f:Fsy) (i:Int) (okf:OkF f) (hp:Qal f):Qaj Tryz.prog 124 [.agg (fsyA f),aI i] (.agg (fsyA (Qlt f i))):=by
 have hl:=hp.1
 have hr:=Qad hp
 have hlk:=Qdt hp i
 exact Qac (F:=Tryz.f124) 400 (
 .new fun b1=>.new fun b2=>.run 2 [b1=b1] rt1<|
 .call (Qbd f i (by omega))<|
 .r 3<|.new fun b3=>.run 2 [b3=b3] rt1<|
 .run 3 [b3=b3] rt1<|
 .br 15 (decide (((Qaa f i).links)≤1)) (fun q1=>have p1:=decT q1;.run 2 [b1=b1] rt1<|
 .call (Qyu f i (by omega) hr)<|
 .run 1 [b2=b2] rt1<|
 .fin (x:=.agg [.sl 5 false ((outF f i).l.map nodA),aI ((outF f i).next)]) (r:=.agg (fsyA (Qlt f i))) [b2=b2] rt1 (by
  rw [show Qlt f i=_ from if_pos (by omega)]
  exact sR))
 <| fun q1=>have p1:=decF q1;.run 5 [b3=b3,rng .i64 (((Qaa f i).links)-1),b3=b3] ⟨rfl,Qas (by omega) (by omega),rfl,trivial⟩<|
 .run 2 [b1=b1,b3=b3] rt2<|
 .callS (args0:=[.agg (fsyA f),.agg [aI ((Qaa f i).ino),aI ((Qaa f i).kind),aI (((Qaa f i).links)-1),aS ((Qaa f i).text),.sl 2 false ((Qaa f i).l.map entA)]]) (args:=[.agg (fsyA f),.agg [aI ((Qdv (Qaa f i)).ino),aI ((Qdv (Qaa f i)).kind),aI ((Qdv (Qaa f i)).links),aS ((Qdv (Qaa f i)).text),.sl 2 false ((Qdv (Qaa f i)).l.map entA)]]) sr2 (Qdi f (Qdv (Qaa f i)) (Qb4 okf hp i) (by omega) hr)<|
 .run 1 [b2=b2] rt1<|
 .fin (x:=.agg [.sl 5 false ((putF f (Qdv (Qaa f i))).l.map nodA),aI ((putF f (Qdv (Qaa f i))).next)]) (r:=.agg (fsyA (Qlt f i))) [b2=b2] rt1 (by
  rw [show Qlt f i=_ from if_neg (by omega)]
  exact sR)) Tryz.func124 rfl (by kernel_rfl) (by kernel_rfl)
end Go.Proofs.YtahlldgocpabjaaGreat
