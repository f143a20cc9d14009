import Derived.Test.YtahlldgocpabjaaGreatMrgW
import Derived.Test.YtahlldgocpabjaaGreatMrgY
import Derived.Test.YtahlldgocpabjaaGreatMrgV
set_option maxRecDepth 100000
set_option maxHeartbeats 8000000
set_option linter.unusedVariables false
set_option linter.unusedSimpArgs false
namespace Go.Proofs.YtahlldgocpabjaaGreat
open Go Go.RowKit Copyhold Go.Proofs.Tryz
theorem of_at {f:Fsy} {i k:Int} (h:ofE f i k=0):atF f i=some (Qaa f i)∧(Qaa f i).kind=k:=by
 unfold ofE at h
 split at h
 ·rename_i hb
  split at h
  ·rename_i hk;exact ⟨Qf1 hb,hk⟩
  ·cases h
 ·cases h
theorem Qs4 {f:Fsy} {i:Int} {t:Txt} (okf:OkF f) (T:TreeP f) (h:ofE f i 1=0) (ht:t.length≤4096):Kept f (putF f (Qep (Qaa f i) t)):=by
 obtain ⟨hn,hk⟩:=of_at h;obtain ⟨n1,n2,n3⟩:=Qbk T.rows hn;have okn:=okf.2.2 _ (Qdk hn);exact Zip okf T hn n3 rfl rfl rfl ⟨n1.1,n1.2.1,n1.2.2.1,.inr ⟨.inl hk,ht,(show (Qaa f i).l=[] from Qgm n1 (by rw [hk];decide))⟩⟩ ⟨okn.1,okn.2.1,okn.2.2.1,by show t.length≤_;omega,okn.2.2.2.2⟩
theorem Qnr {f:Fsy} {c:Cal} {n:Nod} (okf:OkF f) (okc:OkCal c) (T:TreeP f) (hx:f.next<4611686018427387904) (okn:OkN n):Kept f (addO f c n).1:=by
 unfold addO;show Kept f (if Qat f c.ino c.name n=0 then _ else f)
 split
 ·rename_i h;exact Zir okf T okn okc.name hx h
 ·exact Kept.self okf T
theorem Zep {f:Fsy} {c:Cal} (okf:OkF f) (okc:OkCal c) (T:TreeP f) (hx:f.next<4611686018427387904) (he:(Qb1 f c).2.e=0):Kept f (Qb1 f c).1:=by
 have S:=Kept.self okf T;rcases (show c.kind=1∨c.kind=2∨c.kind=3∨c.kind=4∨c.kind=5∨c.kind=6∨c.kind=7∨c.kind=8∨c.kind=9∨c.kind=10∨c.kind=11∨c.kind=12∨c.kind=13∨c.kind=14∨c.kind=15∨(c.kind<1∨c.kind>15) from by omega) with h | h | h | h | h | h | h | h | h | h | h | h | h | h | h | h
 ·rw [Qyn h] at he ⊢;exact S
 ·rw [Qtp h] at he ⊢;unfold Qjq;split<;>exact S
 ·rw [Qto h] at he ⊢;unfold Qjy;split<;>exact S
 ·rw [Qym h] at he ⊢;unfold Qf3 at he ⊢
  split
  ·rename_i hof;rw [if_pos hof] at he;refine Qs4 okf T hof ?_;have he2:(Qbe (Qaa f c.ino).text c.at_ c.text).2=0:=he;unfold Qbe at he2 ⊢
   split
   ·rename_i hw;have hz:=Qgx hw;have htl:=Qfv T.rows c.ino;show (if c.text=[] then (Qaa f c.ino).text else putD (Qaa f c.ino).text c.at_.toNat c.text).length≤4096
    split
    ·exact htl
    ·rw [Qm5];omega
   ·exact Qfv T.rows c.ino
  ·exact S
 ·rw [Qyl h] at he ⊢;unfold cutO
  split
  ·rename_i hof;refine Qs4 okf T hof ?_;unfold cutD
   split
   ·rename_i hw;have hz:=Qgx hw;show (Qf0 (Qaa f c.ino).text c.many.toNat).length≤4096;rw [Qdt];omega
   ·exact Qfv T.rows c.ino
  ·exact S
 ·rw [Qtn h] at he ⊢;exact Qnr okf okc T hx Qqt
 ·rw [Qyk h] at he ⊢;exact Qnr okf okc T hx Qvx
 ·rw [Qyj h] at he ⊢;unfold symO
  split
  ·exact S
  ·exact Qnr okf okc T hx (Qqr okc.text)
 ·rw [Qtm h] at he ⊢;unfold Qde at he ⊢
  split
  ·rename_i h0
   split
   ·exact S
   ·rename_i h1;rw [if_pos h0,if_neg h1] at he;exact Qs5 okf T he
  ·exact S
 ·rw [Qn5 h] at he ⊢;unfold Qde at he ⊢
  split
  ·rename_i h0
   split
   ·exact S
   ·rename_i h1;rw [if_pos h0,if_neg h1] at he;exact Qs5 okf T he
  ·exact S
 ·rw [Qwd h] at he ⊢;unfold Qvu at he ⊢;exact Zeo okf T okc.name he
 ·rw [Qwc h] at he ⊢;unfold renO at he ⊢;exact Ziq okf T okc.name2 he
 ·rw [Qn4 h] at he ⊢;exact S
 ·rw [Qrd h] at he ⊢;exact S
 ·rw [Qrc h] at he ⊢;exact S
 ·rw [Qrb h];exact S
theorem Zmw {f:Fsy} {c:Cal} (okf:OkF f) (okc:OkCal c) (T:TreeP f) (hx:f.next<4611686018427387904):Kept f (doF f c).1:=by
 unfold doF
 split
 ·rename_i h;exact Zep okf okc T hx h
 ·exact Kept.self okf T
theorem Zjf {f:Fsy} {c:Cal} (h:c.kind≤3∨c.kind≥13):(doF f c).1=f:=by
 have key:(Qb1 f c).1=f:=by
  rcases (show c.kind=1∨c.kind=2∨c.kind=3∨c.kind=13∨c.kind=14∨c.kind=15∨(c.kind<1∨c.kind>15) from by omega) with h | h | h | h | h | h | h
  ·rw [Qyn h];rfl
  ·rw [Qtp h];unfold Qjq;split<;>rfl
  ·rw [Qto h];unfold Qjy;split<;>rfl
  ·rw [Qn4 h];rfl
  ·rw [Qrd h];rfl
  ·rw [Qrc h];rfl
  ·rw [Qrb h]
 unfold doF
 split
 ·exact key
 ·rfl
end Go.Proofs.YtahlldgocpabjaaGreat

namespace Go.Proofs.YtahlldgocpabjaaGreat
open Go Go.RowKit Copyhold Go.Proofs.Tryz
open Copyhold.Name (Srt insE delE getE isAt)
theorem Qs0 {s:Txt}:∀ {l:List NEnt},Srt l→∀ (k:Nat) (x:NEnt),l[k]?=some x→(x.1<s↔k<Name.pos l s)
 | a :: r,h,k,x,hx=>by
  by_cases ha:a.1<s
  ·rw [Name.pos_lt ha];cases k with
   | zero=>
    simp at hx;subst hx;exact ⟨fun _=>by omega,fun _=>ha⟩
   | succ k=>
    have:=Qs0 (s:=s) (Name.Srt.tail h) k x (by simpa using hx);rw [this];omega
  ·have h0:=Name.pos_ge h ha;rw [h0];refine ⟨fun hlt=>?_,fun h=>absurd h (Nat.not_lt_zero _)⟩;have hc:(a :: r).countP (fun y=>decide (y.1<s))=0:=h0;have:=List.countP_eq_zero.1 hc x (List.mem_of_getElem? hx);simp [hlt] at this
theorem Qs1 {l:List Ent} {s:Txt} {k:Nat} {x:Ent} (h:Srt (lI l)) (hx:l[k]?=some x):Op.bytesLess x.name s=true↔k<posI l s:=by
 rw [Qnj,decide_eq_true_iff];exact Qs0 h k (x.name,x.ino) (by unfold lI;rw [List.getElem?_map,hx];rfl)
theorem Zgg {s:Txt} (h:¬ Qai s=0):Qai s=10:=by
 unfold Qai at h ⊢
 split
 ·rename_i h1;rw [if_pos h1] at h;exact absurd rfl h
 ·rfl
def lvK (l:List Ent) (s:Txt) (k:Nat):List Ent:=(l.take k).filter fun e=>!(e.name==s)
theorem Zd5 {l:List Ent} {s:Txt} {k:Nat} {x:Ent} (h:l[k]?=some x) (q:(!(x.name==s))=true):lvK l s (k+1)=lvK l s k++[x]:=by
 unfold lvK;rw [Qam h,List.filter_append];simp [List.filter_cons,q]
theorem Zkn {l:List Ent} {s:Txt} {k:Nat} {x:Ent} (h:l[k]?=some x) (q:(!(x.name==s))=false):lvK l s (k+1)=lvK l s k:=by
 unfold lvK;rw [Qam h,List.filter_append];simp [List.filter_cons,q]
theorem Zko (l:List Ent) (s:Txt) (k:Nat):(lvK l s k).length≤l.length:=Nat.le_trans (List.length_filter_le _ _) (by rw [List.length_take];omega)
theorem Zd6 {l:List Ent} {s:Txt} {k:Nat} (h:Srt (lI l)) (hk:l.length≤k):lvK l s k=delL l s:=by
 apply Zek;rw [Qxy h];unfold lvK delE lI;rw [Qav hk,List.filter_map];rfl
theorem Zeh {l:List Ent} {s:Txt} (h:isB l s=true):Qhc l s=0:=if_pos h
theorem Qxw {l:List Ent} {s:Txt} (h:isB l s=false):delL l s=l∧Qhc l s=6:=⟨if_neg (by rw [h];decide),if_neg (by rw [h];decide)⟩
theorem Qu9 (l:List Ent) (s:Txt) (n:Int) (hl:l.length≤256) (hr:Name.Srt (lI l)) (hs:s.length≤1000000):Qah prog 166 [.sl 2 false (l.map entA),aS s,aI n] (.tup [.sl 2 false ((entL l s n).map entA),aI (entE l s n)]):=by
 exact Qac func166 (
 .r 2<|.r 1<|.call (Qed s (by omega))<|
 .r 1<|.r 2<|.call (Qeb l s (by omega))<|
 .r 5<|.r 2<|.br 22 ((Qai s) != 0) (fun q1=>have p1:=bneT q1;.r 4<|.f (.tup [.sl 2 false ((entL l s n).map entA),aI (entE l s n)]) [] (.tup [.sl 2 false (l.map entA),aI (Qai s)]) (by
  have e:entE l s n=Qai s:=by
   unfold entE;rw [if_pos q1];exact (Zgg (bneT q1)).symm
  have e2:entL l s n=l:=if_neg (by rw [e];exact bneT q1);rw [e2,e];exact Sub.tups ⟨by first | exact sR | exact Sub.loose _ _ _,sR,trivial⟩))
 <| fun q1=>have p1:=bneF q1;.r 2<|.bd 26 (n<1) (fun p2=>.r 3<|.f (.tup [.sl 2 false ((entL l s n).map entA),aI (entE l s n)]) [] (.tup [.sl 2 false (l.map entA),aI 1]) (by
  have e:entE l s n=1:=by
   unfold entE;rw [if_neg (by rw [q1];decide)];rw [if_pos (by omega)]
  have e2:entL l s n=l:=if_neg (by rw [e];decide);rw [e2,e];exact Sub.tups ⟨by first | exact sR | exact Sub.loose _ _ _,sR,trivial⟩))
 <| fun p2=>.r 1<|.br 28 (isB l s) (fun q3=>have p3:=booT q3;.r 3<|.f (.tup [.sl 2 false ((entL l s n).map entA),aI (entE l s n)]) [] (.tup [.sl 2 false (l.map entA),aI 7]) (by
  have e:entE l s n=7:=by
   unfold entE;rw [if_neg (by rw [q1];decide)];rw [if_neg (by omega)];rw [if_pos q3]
  have e2:entL l s n=l:=if_neg (by rw [e];decide);rw [e2,e];exact Sub.tups ⟨by first | exact sR | exact Sub.loose _ _ _,sR,trivial⟩))
 <| fun q3=>have p3:=booF q3;.r 2<|.lm 31 l entA<|.r 1<|.bd 32 ((l.length:Int)≥256) (fun p4=>.r 3<|.f (.tup [.sl 2 false ((entL l s n).map entA),aI (entE l s n)]) [] (.tup [.sl 2 false (l.map entA),aI 12]) (by
  have e:entE l s n=12:=by
   unfold entE;rw [if_neg (by rw [q1];decide)];rw [if_neg (by omega)];rw [if_neg (by rw [q3];decide)];rw [if_pos (by omega)]
  have e2:entL l s n=l:=if_neg (by rw [e];decide);rw [e2,e];exact Sub.tups ⟨by first | exact sR | exact Sub.loose _ _ _,sR,trivial⟩))
 <| fun p4=>.r 1<|.rowNil 11 11 128 2<|.r 1<|let L1:Lp (Nat × Value):=⟨fun a1=>⟨[(0,.sl 2 false (l.map entA)),(1,aS s),(2,aI n),(12,aI (a1.1:Int)),(11,.rw 11 a1.2 ((l.take a1.1).length))],[(11,.row a1.2 128 2 ((l.take a1.1).map entA))]⟩,fun a1=>l.length-a1.1,fun a1=>a1.1≤l.length∧a1.1≤posI l s⟩
 .lp L1 (0,.slice none 0 0) ⟨Nat.zero_le _,Nat.zero_le _⟩ [(12,aI 0),(11,.rw 11 (.slice none 0 0) 0)] [(11,.row (.slice none 0 0) 128 2 ([]))] ⟨sR,sR,sR,sO,Sub.of_eq (congrArg (AV.rw 11 (.slice none 0 0)) (by simp)),trivial⟩ ⟨⟨_,rfl,SubB.of_eq (by simp)⟩,trivial⟩ fun a1 ha1=>
 (fun (k:Nat) (V:Value) (hH1:k≤l.length∧k≤posI l s)=>.r 3<|.lm 36 l entA<|.r 2<|.bd 38 ((k:Int)<(l.length:Int)) (fun p5=>.r 2<|.idxM l entA k (m:=(k:Int)) rfl (by omega) fun x1 hx1=>
 .r 5<|.br 46 (Op.bytesLess x1.name s) (fun q6=>have p6:=booT q6;.r 3<|.idx k (m:=(k:Int)) (xs:=l.map entA) (e:=entA x1) rfl (map_some hx1)<|
 .r 2<|.app 24 V ((l.take k).map entA) ([[aS x1.name,aI x1.ino]]) (by have hq:=Qbp l s;simp only [List.length_map,List.length_cons,List.length_nil,List.length_take,List.length_drop,List.length_append];omega) (by have hq:=Qbp l s;simp only [List.length_map,List.length_cons,List.length_nil,List.length_take,List.length_drop,List.length_append];omega) fun V1=>
 .r 1<|.run 3 [rng .i64 ((k:Int)+1)] ⟨Qak (by omega) (by omega),trivial⟩<|
 .bk L1 (k,V) ((k+1),V1) (show (k+1)≤l.length∧(k+1)≤posI l s from (by refine ⟨by omega,?_⟩;have:=(Qs1 hr hx1).1 q6;omega)) (show l.length-(k+1)<l.length-k from (by omega)) [(12,aI ((k:Int)+1)),(11,.rw 11 V1 (((l.take k).map entA).length+([[aS x1.name,aI x1.ino]]:List (List AV)).length))] [(11,.row V1 128 2 (((l.take k).map entA)++([[aS x1.name,aI x1.ino]])))] ⟨sR,sR,sR,sO,Sub.of_eq (congrArg (AV.rw 11 V1) (by rw [Qam hx1];simp)),trivial⟩ ⟨⟨_,rfl,SubB.of_eq (by rw [Qam hx1];simp [entA])⟩,trivial⟩)
 <| fun q6=>have p6:=booF q6;.r 5<|.app 24 V ((l.take k).map entA) ([[aS s,aI n]]) (by have hq:=Qbp l s;simp only [List.length_map,List.length_cons,List.length_nil,List.length_take,List.length_drop,List.length_append];omega) (by have hq:=Qbp l s;simp only [List.length_map,List.length_cons,List.length_nil,List.length_take,List.length_drop,List.length_append];omega) fun V2=>
 .r 1<|.r 3<|.slc 2 false (l.map entA) (some (k:Int)) none none k ((l.map entA).length) false (.inr rfl) (.inl ⟨rfl,rfl⟩) (.inl ⟨rfl,fun h=>by cases h⟩) (by first | omega | (rw [List.length_map];omega)) (by first | omega | (rw [List.length_map];omega))<|
 .app 24 V2 (((l.take k).map entA)++([[aS s,aI n]])) (((l.map entA).take ((l.map entA).length)).drop k) (by have hq:=Qbp l s;simp only [List.length_map,List.length_cons,List.length_nil,List.length_take,List.length_drop,List.length_append];omega) (by have hq:=Qbp l s;simp only [List.length_map,List.length_cons,List.length_nil,List.length_take,List.length_drop,List.length_append];omega) fun V3=>
 .r 2<|.frz 11 [6,7] [] [V3=V3,(((l.take k).map entA)++([[aS s,aI n]])).length+(((l.map entA).take ((l.map entA).length)).drop k).length=((((l.take k).map entA)++([[aS s,aI n]]))++(((l.map entA).take ((l.map entA).length)).drop k)).length] ⟨rfl,(by first | rfl | (simp;done) | (simp;omega)),trivial⟩<|
 .f (.tup [.sl 2 false ((entL l s n).map entA),aI (entE l s n)]) [] (.tup [.sl 2 false ((((l.take k).map entA)++([[aS s,aI n]]))++(((l.map entA).take ((l.map entA).length)).drop k)),aI 0]) (by
  have e:entE l s n=0:=by
   unfold entE;rw [if_neg (by rw [q1];decide)];rw [if_neg (by omega)];rw [if_neg (by rw [q3];decide)];rw [if_neg (by omega)]
  have e2:entL l s n=l.take (posI l s)++⟨s,n⟩ :: l.drop (posI l s):=if_pos e;have hk:k=posI l s:=by
   have hq:=Qbp l s;by_cases h:k<posI l s
   ·have:=(Qs1 hr hx1).2 h;simp_all
   ·omega
  rw [e,e2,← hk]
  first | exact Sub.tups ⟨Sub.of_eq (congrArg (AV.sl 2 false) (by simp [entA,List.map_take,List.map_drop,Qav])),sR,trivial⟩ | exact Sub.tups ⟨(Sub.of_eq (congrArg (AV.sl 2 true) (by simp [entA,List.map_take,List.map_drop,Qav]))).trans (Sub.loose _ _ _),sR,trivial⟩))
 <| fun p5=>.r 8<|.r 5<|.app 24 V ((l.take k).map entA) ([[aS s,aI n]]) (by have hq:=Qbp l s;simp only [List.length_map,List.length_cons,List.length_nil,List.length_take,List.length_drop,List.length_append];omega) (by have hq:=Qbp l s;simp only [List.length_map,List.length_cons,List.length_nil,List.length_take,List.length_drop,List.length_append];omega) fun V4=>
 .r 1<|.r 3<|.slc 2 false (l.map entA) (some (k:Int)) none none k ((l.map entA).length) false (.inr rfl) (.inl ⟨rfl,rfl⟩) (.inl ⟨rfl,fun h=>by cases h⟩) (by first | omega | (rw [List.length_map];omega)) (by first | omega | (rw [List.length_map];omega))<|
 .app 24 V4 (((l.take k).map entA)++([[aS s,aI n]])) (((l.map entA).take ((l.map entA).length)).drop k) (by have hq:=Qbp l s;simp only [List.length_map,List.length_cons,List.length_nil,List.length_take,List.length_drop,List.length_append];omega) (by have hq:=Qbp l s;simp only [List.length_map,List.length_cons,List.length_nil,List.length_take,List.length_drop,List.length_append];omega) fun V5=>
 .r 2<|.frz 11 [6,7] [] [V5=V5,(((l.take k).map entA)++([[aS s,aI n]])).length+(((l.map entA).take ((l.map entA).length)).drop k).length=((((l.take k).map entA)++([[aS s,aI n]]))++(((l.map entA).take ((l.map entA).length)).drop k)).length] ⟨rfl,(by first | rfl | (simp;done) | (simp;omega)),trivial⟩<|
 .f (.tup [.sl 2 false ((entL l s n).map entA),aI (entE l s n)]) [] (.tup [.sl 2 false ((((l.take k).map entA)++([[aS s,aI n]]))++(((l.map entA).take ((l.map entA).length)).drop k)),aI 0]) (by
  have e:entE l s n=0:=by
   unfold entE;rw [if_neg (by rw [q1];decide)];rw [if_neg (by omega)];rw [if_neg (by rw [q3];decide)];rw [if_neg (by omega)]
  have e2:entL l s n=l.take (posI l s)++⟨s,n⟩ :: l.drop (posI l s):=if_pos e;have hk:k=posI l s:=by
   have hq:=Qbp l s;omega
  rw [e,e2,← hk]
  first | exact Sub.tups ⟨Sub.of_eq (congrArg (AV.sl 2 false) (by simp [entA,List.map_take,List.map_drop,Qav])),sR,trivial⟩ | exact Sub.tups ⟨(Sub.of_eq (congrArg (AV.sl 2 true) (by simp [entA,List.map_take,List.map_drop,Qav]))).trans (Sub.loose _ _ _),sR,trivial⟩)) a1.1 a1.2 ha1)
theorem Qu7 (l:List Ent) (s:Txt) (hl:l.length≤1000000) (hr:Name.Srt (lI l)) (hs:s.length≤1000000):Qah prog 168 [.sl 2 false (l.map entA),aS s] (.tup [.sl 2 false ((delL l s).map entA),aI (getI l s),aI (Qhc l s)]):=by
 exact Qac func168 (
 .r 3<|.r 2<|.call (Qeb l s (by omega))<|
 .r 5<|.r 2<|.br 18 (!(isB l s)) (fun q1=>have q1:=notT q1;have p1:=booF q1;.r 4<|.f (.tup [.sl 2 false ((delL l s).map entA),aI (getI l s),aI (Qhc l s)]) [] (.tup [.sl 2 false (l.map entA),aI 0,aI 6]) (by
  rw [(Qxw q1).1,(Qxw q1).2,Qq0 q1];exact Sub.tups ⟨by first | exact sR | exact Sub.loose _ _ _,sR,sR,trivial⟩))
 <| fun q1=>have q1:=notF q1;have p1:=booT q1;.r 1<|.rowNil 9 9 128 2<|.r 1<|let L1:Lp (Nat × Value):=⟨fun a1=>⟨[(0,.sl 2 false (l.map entA)),(1,aS s),(7,aI (getI l s)),(10,aI (a1.1:Int)),(9,.rw 9 a1.2 ((lvK l s a1.1).length))],[(9,.row a1.2 128 2 ((lvK l s a1.1).map entA))]⟩,fun a1=>l.length-a1.1,fun a1=>a1.1≤l.length⟩
 .lp L1 (0,.slice none 0 0) (show 0≤l.length from Nat.zero_le _) [(10,aI 0),(9,.rw 9 (.slice none 0 0) 0)] [(9,.row (.slice none 0 0) 128 2 ([]))] ⟨sR,sR,sR,sO,Sub.of_eq (congrArg (AV.rw 9 (.slice none 0 0)) (by simp [lvK])),trivial⟩ ⟨⟨_,rfl,SubB.of_eq (by simp [lvK])⟩,trivial⟩ fun a1 ha1=>
 (fun (k:Nat) (V:Value) (hH1:k≤l.length)=>.r 3<|.lm 22 l entA<|.r 1<|.bd 23 ((k:Int)<(l.length:Int)) (fun p2=>.r 2<|.idxM l entA k (m:=(k:Int)) rfl (by omega) fun x1 hx1=>
 .r 4<|.br 32 (!(x1.name==s)) (fun q3=>have q3:=notT q3;have p3:=beqF q3;.r 3<|.idx k (m:=(k:Int)) (xs:=l.map entA) (e:=entA x1) rfl (map_some hx1)<|
 .r 2<|.app 24 V ((lvK l s k).map entA) ([[aS x1.name,aI x1.ino]]) (by have:=Zko l s k;simp only [List.length_map,List.length_cons,List.length_nil,List.length_append];omega) (by have:=Zko l s k;simp only [List.length_map,List.length_cons,List.length_nil,List.length_append];omega) fun V1=>
 .r 1<|.run 3 [rng .i64 ((k:Int)+1)] ⟨Qak (by omega) (by omega),trivial⟩<|
 .bk L1 (k,V) ((k+1),V1) (show (k+1)≤l.length from (by show _≤_;omega)) (show l.length-(k+1)<l.length-k from (by omega)) [(10,aI ((k:Int)+1)),(9,.rw 9 V1 (((lvK l s k).map entA).length+([[aS x1.name,aI x1.ino]]:List (List AV)).length))] [(9,.row V1 128 2 (((lvK l s k).map entA)++([[aS x1.name,aI x1.ino]])))] ⟨sR,sR,sR,sO,Sub.of_eq (congrArg (AV.rw 9 V1) (by rw [Zd5 hx1 (by simpa using q3)];simp)),trivial⟩ ⟨⟨_,rfl,SubB.of_eq (by rw [Zd5 hx1 (by simpa using q3)];simp [entA])⟩,trivial⟩)
 <| fun q3=>have q3:=notF q3;have p3:=beqT q3;.run 3 [rng .i64 ((k:Int)+1)] ⟨Qak (by omega) (by omega),trivial⟩<|
 .bk L1 (k,V) ((k+1),V) (show (k+1)≤l.length from (by show _≤_;omega)) (show l.length-(k+1)<l.length-k from (by omega)) [(10,aI ((k:Int)+1)),(9,.rw 9 V ((lvK l s k).length))] [(9,.row V 128 2 ((lvK l s k).map entA))] ⟨sR,sR,sR,sO,Sub.of_eq (congrArg (AV.rw 9 V) (by rw [Zkn hx1 (by simpa using q3)])),trivial⟩ ⟨⟨_,rfl,SubB.of_eq (by rw [Zkn hx1 (by simpa using q3)])⟩,trivial⟩)
 <| fun p2=>.r 5<|.frz 9 [4,5,6] [] [V=V,(lvK l s k).length=((lvK l s k).map entA).length] ⟨rfl,(by first | rfl | (simp;done) | (simp;omega)),trivial⟩<|
 .f (.tup [.sl 2 false ((delL l s).map entA),aI (getI l s),aI (Qhc l s)]) [] (.tup [.sl 2 false ((lvK l s k).map entA),aI (getI l s),aI 0]) (by
  rw [Zeh q1]
  first | exact Sub.tups ⟨Sub.of_eq (by rw [Zd6 hr (by omega)]),sR,sR,trivial⟩ | exact Sub.tups ⟨(Sub.of_eq (by rw [Zd6 hr (by omega)])).trans (Sub.loose _ _ _),sR,sR,trivial⟩)) a1.1 a1.2 ha1)
theorem Qu1 (l:List Ent) (hl:l.length≤1000000):Qah prog 76 [.sl 2 false (l.map entA)] (.sl 1 false ((l.map Ent.name).map txA)):=by
 exact Qac func76 (
 .r 1<|.r 1<|.rowNil 3 3 9 1<|.r 1<|let L1:Lp (Nat × Value):=⟨fun a1=>⟨[(0,.sl 2 false (l.map entA)),(4,aI (a1.1:Int)),(3,.rw 3 a1.2 (((l.take a1.1).map Ent.name).length))],[(3,.row a1.2 9 1 (((l.take a1.1).map Ent.name).map txA))]⟩,fun a1=>l.length-a1.1,fun a1=>a1.1≤l.length⟩
 .lp L1 (0,.slice none 0 0) (show 0≤l.length from Nat.zero_le _) [(4,aI 0),(3,.rw 3 (.slice none 0 0) 0)] [(3,.row (.slice none 0 0) 9 1 ([]))] ⟨sR,sO,Sub.of_eq (congrArg (AV.rw 3 (.slice none 0 0)) (by simp)),trivial⟩ ⟨⟨_,rfl,SubB.of_eq (by simp)⟩,trivial⟩ fun a1 ha1=>
 (fun (k:Nat) (V:Value) (hH1:k≤l.length)=>.r 3<|.lm 7 l entA<|.r 1<|.bd 8 ((k:Int)<(l.length:Int)) (fun p1=>.r 3<|.idxM l entA k (m:=(k:Int)) rfl (by omega) fun x1 hx1=>
 .r 3<|.app 16 V (((l.take k).map Ent.name).map txA) ([[aS x1.name]]) (by simp only [List.length_map,List.length_cons,List.length_nil,List.length_take,List.length_append];omega) (by simp only [List.length_map,List.length_cons,List.length_nil,List.length_take,List.length_append];omega) fun V1=>
 .r 1<|.run 3 [rng .i64 ((k:Int)+1)] ⟨Qak (by omega) (by omega),trivial⟩<|
 .bk L1 (k,V) ((k+1),V1) (show (k+1)≤l.length from (by show _≤_;omega)) (show l.length-(k+1)<l.length-k from (by omega)) [(4,aI ((k:Int)+1)),(3,.rw 3 V1 ((((l.take k).map Ent.name).map txA).length+([[aS x1.name]]:List (List AV)).length))] [(3,.row V1 9 1 ((((l.take k).map Ent.name).map txA)++([[aS x1.name]])))] ⟨sR,sO,Sub.of_eq (congrArg (AV.rw 3 V1) (by rw [Qam hx1];simp)),trivial⟩ ⟨⟨_,rfl,SubB.of_eq (by rw [Qam hx1];simp [txA])⟩,trivial⟩)
 <| fun p1=>.r 2<|.frz 3 [2] [] [V=V,((l.take k).map Ent.name).length=(((l.take k).map Ent.name).map txA).length] ⟨rfl,(by first | rfl | (simp;done) | (simp;omega)),trivial⟩<|
 .f (.sl 1 false ((l.map Ent.name).map txA)) [] (.sl 1 false (((l.take k).map Ent.name).map txA)) (by first | exact Sub.of_eq (by rw [Qav (by omega)]) | exact (Sub.of_eq (by rw [Qav (by omega)])).trans (Sub.loose _ _ _))) a1.1 a1.2 ha1)
end Go.Proofs.YtahlldgocpabjaaGreat

namespace Go.Proofs.YtahlldgocpabjaaGreat
open Go Go.RowKit Copyhold Go.Proofs.Tryz
open Copyhold.Name (Srt insE delE getE isAt)
noncomputable def Qnk (f:Fsy) (i:Int):Fsy:=if (Qaa f i).links≤1 then outF f i else putF f (Qh5 (Qaa f i))
theorem Qb6 (f:Fsy) (d:Int) (s:Txt) (i:Int) (okf:OkF f) (hp:Qar f) (hs:s.length≤1000000):Qah prog 122 [.agg (fsyA f),aI d,aS s,aI i] (.agg (fsyA (enterF f d s i))):=by
 have hl:=hp.1;have hr:=Qaf hp;exact Qac func122 (let R:AV:=.agg (fsyA (enterF f d s i));
 .new fun b1=>.new fun b2=>.u 2 [b1]<|
 .call (Qa1 f d (by omega))<|
 .r 3<|.new fun b3=>.u 2 [b3]<|
 .u 4 [b3]<|
 .call (Qu9 (Qaa f d).l s i (Qe1 hp d).2 (Qe1 hp d).1 hs)<|
 .r 5<|.u 3 [b3]<|
 .u 2 [b1,b3]<|
 .cs (args0:=[.agg (fsyA f),.agg [aI ((Qaa f d).ino),aI ((Qaa f d).kind),aI ((Qaa f d).links),aS ((Qaa f d).text),.sl 2 false ((entL (Qaa f d).l s i).map entA)]]) (Qdw f (Qbr (Qaa f d) (entL (Qaa f d).l s i)) (Qcb okf hp d) (by omega) hr) sr2<|
 .u 1 [b2]<|
 .fi R [b2])
theorem Qcp (f:Fsy) (d:Int) (s:Txt) (okf:OkF f) (hp:Qar f) (hs:s.length≤1000000):Qah prog 125 [.agg (fsyA f),aI d,aS s] (.agg (fsyA (leaveF f d s))):=by
 have hl:=hp.1;have hr:=Qaf hp;exact Qac func125 (let R:AV:=.agg (fsyA (leaveF f d s));
 .new fun b1=>.new fun b2=>.u 2 [b1]<|
 .call (Qa1 f d (by omega))<|
 .r 3<|.new fun b3=>.u 2 [b3]<|
 .u 3 [b3]<|
 .call (Qu7 (Qaa f d).l s (by have:=(Qe1 hp d).2;omega) (Qe1 hp d).1 hs)<|
 .r 7<|.u 3 [b3]<|
 .u 2 [b1,b3]<|
 .cs (args0:=[.agg (fsyA f),.agg [aI ((Qaa f d).ino),aI ((Qaa f d).kind),aI ((Qaa f d).links),aS ((Qaa f d).text),.sl 2 false ((delL (Qaa f d).l s).map entA)]]) (Qdw f (Qbr (Qaa f d) (delL (Qaa f d).l s)) (Qcb okf hp d) (by omega) hr) sr2<|
 .u 1 [b2]<|
 .fi R [b2])
theorem Qk4 (f:Fsy) (i:Int) (okf:OkF f) (hp:Qar f):Qah prog 124 [.agg (fsyA f),aI i] (.agg (fsyA (Qnk f i))):=by
 have hl:=hp.1;have hr:=Qaf hp;have hlk:=Qeh hp i;exact Qac func124 (
 .new fun b1=>.new fun b2=>.u 2 [b1]<|
 .call (Qa1 f i (by omega))<|
 .r 3<|.new fun b3=>.u 2 [b3]<|
 .u 3 [b3]<|
 .bd 15 (((Qaa f i).links)≤1) (fun p1=>.u 2 [b1]<|
 .call (Zcn f i (by omega) hr)<|
 .u 1 [b2]<|
 .f (.agg (fsyA (Qnk f i))) [b2] (.agg [.sl 5 false ((outF f i).l.map nodA),aI ((outF f i).next)]) (by
  rw [show Qnk f i=_ from if_pos (by omega)];exact sR))
 <| fun p1=>.run 5 [b3=b3,rng .i64 (((Qaa f i).links)-1),b3=b3] ⟨rfl,Qak (by omega) (by omega),rfl,trivial⟩<|
 .u 2 [b1,b3]<|
 .cs (args0:=[.agg (fsyA f),.agg [aI ((Qaa f i).ino),aI ((Qaa f i).kind),aI (((Qaa f i).links)-1),aS ((Qaa f i).text),.sl 2 false ((Qaa f i).l.map entA)]]) (Qdw f (Qh5 (Qaa f i)) (Qcb okf hp i) (by omega) hr) sr2<|
 .u 1 [b2]<|
 .f (.agg (fsyA (Qnk f i))) [b2] (.agg [.sl 5 false ((putF f (Qh5 (Qaa f i))).l.map nodA),aI ((putF f (Qh5 (Qaa f i))).next)]) (by
  rw [show Qnk f i=_ from if_neg (by omega)];exact sR))
end Go.Proofs.YtahlldgocpabjaaGreat
