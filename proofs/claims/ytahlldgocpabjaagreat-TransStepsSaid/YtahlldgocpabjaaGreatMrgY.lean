import Derived.Test.YtahlldgocpabjaaGreatMrgV
import Derived.Test.YtahlldgocpabjaaGreatMrgX
import Derived.Test.YtahlldgocpabjaaGreatMrgU
set_option maxRecDepth 100000
set_option maxHeartbeats 8000000
set_option linter.unusedVariables false
set_option linter.unusedSimpArgs false
namespace Go.Proofs.YtahlldgocpabjaaGreat
open Go Go.RowKit Copyhold Go.Proofs.Tryz
theorem of_at {f:Fsy} {i k:Int} (h:ofE f i k=0):atF f i=some (Qaa f i)∧(Qaa f i).kind=k:=by
 unfold ofE at h
 split at h
 ·rename_i hb
  split at h
  ·rename_i hk;exact ⟨Qfk hb,hk⟩
  ·cases h
 ·cases h
theorem Qsa {f:Fsy} {i:Int} {t:Txt} (okf:OkF f) (T:TreeP f) (h:ofE f i 1=0) (ht:t.length≤4096):Kept f (putF f (Qd3 (Qaa f i) t)):=by
 obtain ⟨hn,hk⟩:=of_at h;obtain ⟨n1,n2,n3⟩:=Qbm T.rows hn;have okn:=okf.2.2 _ (Qdi hn);exact Zhc okf T hn n3 rfl rfl rfl ⟨n1.1,n1.2.1,n1.2.2.1,.inr ⟨.inl hk,ht,(show (Qaa f i).l=[] from Qew n1 (by rw [hk];decide))⟩⟩ ⟨okn.1,okn.2.1,okn.2.2.1,by show t.length≤_;omega,okn.2.2.2.2⟩
theorem Qm2 {f:Fsy} {c:Cal} {n:Nod} (okf:OkF f) (okc:OkCal c) (T:TreeP f) (hx:f.next<4611686018427387904) (okn:OkN n):Kept f (addO f c n).1:=by
 unfold addO;show Kept f (if Qaq f c.ino c.name n=0 then _ else f)
 split
 ·rename_i h;exact Zhe okf T okn okc.name hx h
 ·exact Kept.self okf T
theorem Zc5 {f:Fsy} {c:Cal} (okf:OkF f) (okc:OkCal c) (T:TreeP f) (hx:f.next<4611686018427387904) (he:(Qbu f c).2.e=0):Kept f (Qbu f c).1:=by
 have S:=Kept.self okf T;rcases (show c.kind=1∨c.kind=2∨c.kind=3∨c.kind=4∨c.kind=5∨c.kind=6∨c.kind=7∨c.kind=8∨c.kind=9∨c.kind=10∨c.kind=11∨c.kind=12∨c.kind=13∨c.kind=14∨c.kind=15∨(c.kind<1∨c.kind>15) from by omega) with h | h | h | h | h | h | h | h | h | h | h | h | h | h | h | h
 ·rw [Qxe h] at he ⊢;exact S
 ·rw [Qsw h] at he ⊢;unfold Qiw;split<;>exact S
 ·rw [Qsv h] at he ⊢;unfold Qi4;split<;>exact S
 ·rw [Qsu h] at he ⊢;unfold Qey at he ⊢
  split
  ·rename_i hof;rw [if_pos hof] at he;refine Qsa okf T hof ?_;have he2:(Qbe (Qaa f c.ino).text c.at_ c.text).2=0:=he;unfold Qbe at he2 ⊢
   split
   ·rename_i hw;have hz:=Qf1 hw;have htl:=Qfd T.rows c.ino;show (if c.text=[] then (Qaa f c.ino).text else putD (Qaa f c.ino).text c.at_.toNat c.text).length≤4096
    split
    ·exact htl
    ·rw [Qmh];omega
   ·exact Qfd T.rows c.ino
  ·exact S
 ·rw [Qst h] at he ⊢;unfold cutO
  split
  ·rename_i hof;refine Qsa okf T hof ?_;unfold cutD
   split
   ·rename_i hw;have hz:=Qf1 hw;show (Qfj (Qaa f c.ino).text c.many.toNat).length≤4096;rw [Qdf];omega
   ·exact Qfd T.rows c.ino
  ·exact S
 ·rw [Qo7 h] at he ⊢;exact Qm2 okf okc T hx Qp8
 ·rw [Qss h] at he ⊢;exact Qm2 okf okc T hx Qu0
 ·rw [Qsr h] at he ⊢;unfold symO
  split
  ·exact S
  ·exact Qm2 okf okc T hx (Qp6 okc.text)
 ·rw [Qo6 h] at he ⊢;unfold Qcs at he ⊢
  split
  ·rename_i h0
   split
   ·exact S
   ·rename_i h1;rw [if_pos h0,if_neg h1] at he;exact Qsb okf T he
  ·exact S
 ·rw [Qko h] at he ⊢;unfold Qcs at he ⊢
  split
  ·rename_i h0
   split
   ·exact S
   ·rename_i h1;rw [if_pos h0,if_neg h1] at he;exact Qsb okf T he
  ·exact S
 ·rw [Qqu h] at he ⊢;unfold Quz at he ⊢;exact Zc3 okf T okc.name he
 ·rw [Qqt h] at he ⊢;unfold renO at he ⊢;exact Zhd okf T okc.name2 he
 ·rw [Qne h] at he ⊢;exact S
 ·rw [Qqs h] at he ⊢;exact S
 ·rw [Qqr h] at he ⊢;exact S
 ·rw [Qqq h];exact S
theorem Zc4 {f:Fsy} {c:Cal} (okf:OkF f) (okc:OkCal c) (T:TreeP f) (hx:f.next<4611686018427387904):Kept f (doF f c).1:=by
 unfold doF
 split
 ·rename_i h;exact Zc5 okf okc T hx h
 ·exact Kept.self okf T
end Go.Proofs.YtahlldgocpabjaaGreat

namespace Go.Proofs.YtahlldgocpabjaaGreat
open Go Go.RowKit Copyhold Go.Proofs.Tryz
open Copyhold.Name (Srt insE delE getE isAt)
theorem Qr5 {s:Txt}:∀ {l:List NEnt},Srt l→∀ (k:Nat) (x:NEnt),l[k]?=some x→(x.1<s↔k<Name.pos l s)
 | a :: r,h,k,x,hx=>by
  by_cases ha:a.1<s
  ·rw [Name.pos_lt ha];cases k with
   | zero=>
    simp at hx;subst hx;exact ⟨fun _=>by omega,fun _=>ha⟩
   | succ k=>
    have:=Qr5 (s:=s) (Name.Srt.tail h) k x (by simpa using hx);rw [this];omega
  ·have h0:=Name.pos_ge h ha;rw [h0];refine ⟨fun hlt=>?_,fun h=>absurd h (Nat.not_lt_zero _)⟩;have hc:(a :: r).countP (fun y=>decide (y.1<s))=0:=h0;have:=List.countP_eq_zero.1 hc x (List.mem_of_getElem? hx);simp [hlt] at this
theorem Qr6 {l:List Ent} {s:Txt} {k:Nat} {x:Ent} (h:Srt (lI l)) (hx:l[k]?=some x):Op.bytesLess x.name s=true↔k<posI l s:=by
 rw [Qms,decide_eq_true_iff];exact Qr5 h k (x.name,x.ino) (by unfold lI;rw [List.getElem?_map,hx];rfl)
theorem Zer {s:Txt} (h:¬ Qah s=0):Qah s=10:=by
 unfold Qah at h ⊢
 split
 ·rename_i h1;rw [if_pos h1] at h;exact absurd rfl h
 ·rfl
def lvK (l:List Ent) (s:Txt) (k:Nat):List Ent:=(l.take k).filter fun e=>!(e.name==s)
theorem Zcl {l:List Ent} {s:Txt} {k:Nat} {x:Ent} (h:l[k]?=some x) (q:(!(x.name==s))=true):lvK l s (k+1)=lvK l s k++[x]:=by
 unfold lvK;rw [Qak h,List.filter_append];simp [List.filter_cons,q]
theorem Zjl {l:List Ent} {s:Txt} {k:Nat} {x:Ent} (h:l[k]?=some x) (q:(!(x.name==s))=false):lvK l s (k+1)=lvK l s k:=by
 unfold lvK;rw [Qak h,List.filter_append];simp [List.filter_cons,q]
theorem Zjm (l:List Ent) (s:Txt) (k:Nat):(lvK l s k).length≤l.length:=Nat.le_trans (List.length_filter_le _ _) (by rw [List.length_take];omega)
theorem Zcm {l:List Ent} {s:Txt} {k:Nat} (h:Srt (lI l)) (hk:l.length≤k):lvK l s k=delL l s:=by
 apply Zc1;rw [Qwu h];unfold lvK delE lI;rw [Qav hk,List.filter_map];rfl
theorem Zcx {l:List Ent} {s:Txt} (h:isB l s=true):Qgd l s=0:=if_pos h
theorem Qws {l:List Ent} {s:Txt} (h:isB l s=false):delL l s=l∧Qgd l s=6:=⟨if_neg (by rw [h];decide),if_neg (by rw [h];decide)⟩
theorem Que (l:List Ent) (s:Txt) (n:Int) (hl:l.length≤256) (hr:Name.Srt (lI l)) (hs:s.length≤1000000):Qaf prog 166 [.sl 2 false (l.map entA),aS s,aI n] (.tup [.sl 2 false ((entL l s n).map entA),aI (entE l s n)]):=by
 exact Qac func166 (
 .r 2<|.r 1<|.call (Qdw s (by omega))<|
 .r 1<|.r 2<|.call (Qdu l s (by omega))<|
 .r 5<|.r 2<|.br 22 ((Qah s) != 0) (fun q1=>have p1:=bneT q1;.r 4<|.f (.tup [.sl 2 false ((entL l s n).map entA),aI (entE l s n)]) [] (.tup [.sl 2 false (l.map entA),aI (Qah s)]) (by
  have e:entE l s n=Qah s:=by
   unfold entE;rw [if_pos q1];exact (Zer (bneT q1)).symm
  have e2:entL l s n=l:=if_neg (by rw [e];exact bneT q1);rw [e2,e];exact Sub.tups ⟨by first | exact sR | exact Sub.loose _ _ _,sR,trivial⟩))
 <| fun q1=>have p1:=bneF q1;.r 2<|.bd 26 (n<1) (fun p2=>.r 3<|.f (.tup [.sl 2 false ((entL l s n).map entA),aI (entE l s n)]) [] (.tup [.sl 2 false (l.map entA),aI 1]) (by
  have e:entE l s n=1:=by
   unfold entE;rw [if_neg (by rw [q1];decide)];rw [if_pos (by omega)]
  have e2:entL l s n=l:=if_neg (by rw [e];decide);rw [e2,e];exact Sub.tups ⟨by first | exact sR | exact Sub.loose _ _ _,sR,trivial⟩))
 <| fun p2=>.r 1<|.br 28 (isB l s) (fun q3=>have p3:=booT q3;.r 3<|.f (.tup [.sl 2 false ((entL l s n).map entA),aI (entE l s n)]) [] (.tup [.sl 2 false (l.map entA),aI 7]) (by
  have e:entE l s n=7:=by
   unfold entE;rw [if_neg (by rw [q1];decide)];rw [if_neg (by omega)];rw [if_pos q3]
  have e2:entL l s n=l:=if_neg (by rw [e];decide);rw [e2,e];exact Sub.tups ⟨by first | exact sR | exact Sub.loose _ _ _,sR,trivial⟩))
 <| fun q3=>have p3:=booF q3;.r 2<|.lm 31 l entA<|.r 1<|.bd 32 ((l.length:Int)≥256) (fun p4=>.r 3<|.f (.tup [.sl 2 false ((entL l s n).map entA),aI (entE l s n)]) [] (.tup [.sl 2 false (l.map entA),aI 12]) (by
  have e:entE l s n=12:=by
   unfold entE;rw [if_neg (by rw [q1];decide)];rw [if_neg (by omega)];rw [if_neg (by rw [q3];decide)];rw [if_pos (by omega)]
  have e2:entL l s n=l:=if_neg (by rw [e];decide);rw [e2,e];exact Sub.tups ⟨by first | exact sR | exact Sub.loose _ _ _,sR,trivial⟩))
 <| fun p4=>.r 1<|.rowNil 11 11 128 2<|.r 1<|let L1:Lp (Nat × Value):=⟨fun a1=>⟨[(0,.sl 2 false (l.map entA)),(1,aS s),(2,aI n),(12,aI (a1.1:Int)),(11,.rw 11 a1.2 ((l.take a1.1).length))],[(11,.row a1.2 128 2 ((l.take a1.1).map entA))]⟩,fun a1=>l.length-a1.1,fun a1=>a1.1≤l.length∧a1.1≤posI l s⟩
 .lp L1 (0,.slice none 0 0) ⟨Nat.zero_le _,Nat.zero_le _⟩ [(12,aI 0),(11,.rw 11 (.slice none 0 0) 0)] [(11,.row (.slice none 0 0) 128 2 ([]))] ⟨sR,sR,sR,sO,Sub.of_eq (congrArg (AV.rw 11 (.slice none 0 0)) (by simp)),trivial⟩ ⟨⟨_,rfl,SubB.of_eq (by simp)⟩,trivial⟩ fun a1 ha1=>
 (fun (k:Nat) (V:Value) (hH1:k≤l.length∧k≤posI l s)=>.r 3<|.lm 36 l entA<|.r 2<|.bd 38 ((k:Int)<(l.length:Int)) (fun p5=>.r 2<|.idxM l entA k (m:=(k:Int)) rfl (by omega) fun x1 hx1=>
 .r 5<|.br 46 (Op.bytesLess x1.name s) (fun q6=>have p6:=booT q6;.r 3<|.idx k (m:=(k:Int)) (xs:=l.map entA) (e:=entA x1) rfl (map_some hx1)<|
 .r 2<|.app 24 V ((l.take k).map entA) ([[aS x1.name,aI x1.ino]]) (by have hq:=Qbi l s;simp only [List.length_map,List.length_cons,List.length_nil,List.length_take,List.length_drop,List.length_append];omega) (by have hq:=Qbi l s;simp only [List.length_map,List.length_cons,List.length_nil,List.length_take,List.length_drop,List.length_append];omega) fun V1=>
 .r 1<|.run 3 [rng .i64 ((k:Int)+1)] ⟨Qaj (by omega) (by omega),trivial⟩<|
 .bk L1 (k,V) ((k+1),V1) (show (k+1)≤l.length∧(k+1)≤posI l s from (by refine ⟨by omega,?_⟩;have:=(Qr6 hr hx1).1 q6;omega)) (show l.length-(k+1)<l.length-k from (by omega)) [(12,aI ((k:Int)+1)),(11,.rw 11 V1 (((l.take k).map entA).length+([[aS x1.name,aI x1.ino]]:List (List AV)).length))] [(11,.row V1 128 2 (((l.take k).map entA)++([[aS x1.name,aI x1.ino]])))] ⟨sR,sR,sR,sO,Sub.of_eq (congrArg (AV.rw 11 V1) (by rw [Qak hx1];simp)),trivial⟩ ⟨⟨_,rfl,SubB.of_eq (by rw [Qak hx1];simp [entA])⟩,trivial⟩)
 <| fun q6=>have p6:=booF q6;.r 5<|.app 24 V ((l.take k).map entA) ([[aS s,aI n]]) (by have hq:=Qbi l s;simp only [List.length_map,List.length_cons,List.length_nil,List.length_take,List.length_drop,List.length_append];omega) (by have hq:=Qbi l s;simp only [List.length_map,List.length_cons,List.length_nil,List.length_take,List.length_drop,List.length_append];omega) fun V2=>
 .r 1<|.r 3<|.slc 2 false (l.map entA) (some (k:Int)) none none k ((l.map entA).length) false (.inr rfl) (.inl ⟨rfl,rfl⟩) (.inl ⟨rfl,fun h=>by cases h⟩) (by first | omega | (rw [List.length_map];omega)) (by first | omega | (rw [List.length_map];omega))<|
 .app 24 V2 (((l.take k).map entA)++([[aS s,aI n]])) (((l.map entA).take ((l.map entA).length)).drop k) (by have hq:=Qbi l s;simp only [List.length_map,List.length_cons,List.length_nil,List.length_take,List.length_drop,List.length_append];omega) (by have hq:=Qbi l s;simp only [List.length_map,List.length_cons,List.length_nil,List.length_take,List.length_drop,List.length_append];omega) fun V3=>
 .r 2<|.frz 11 [6,7] [] [V3=V3,(((l.take k).map entA)++([[aS s,aI n]])).length+(((l.map entA).take ((l.map entA).length)).drop k).length=((((l.take k).map entA)++([[aS s,aI n]]))++(((l.map entA).take ((l.map entA).length)).drop k)).length] ⟨rfl,(by first | rfl | (simp;done) | (simp;omega)),trivial⟩<|
 .f (.tup [.sl 2 false ((entL l s n).map entA),aI (entE l s n)]) [] (.tup [.sl 2 false ((((l.take k).map entA)++([[aS s,aI n]]))++(((l.map entA).take ((l.map entA).length)).drop k)),aI 0]) (by
  have e:entE l s n=0:=by
   unfold entE;rw [if_neg (by rw [q1];decide)];rw [if_neg (by omega)];rw [if_neg (by rw [q3];decide)];rw [if_neg (by omega)]
  have e2:entL l s n=l.take (posI l s)++⟨s,n⟩ :: l.drop (posI l s):=if_pos e;have hk:k=posI l s:=by
   have hq:=Qbi l s;by_cases h:k<posI l s
   ·have:=(Qr6 hr hx1).2 h;simp_all
   ·omega
  rw [e,e2,← hk]
  first | exact Sub.tups ⟨Sub.of_eq (congrArg (AV.sl 2 false) (by simp [entA,List.map_take,List.map_drop,Qav])),sR,trivial⟩ | exact Sub.tups ⟨(Sub.of_eq (congrArg (AV.sl 2 true) (by simp [entA,List.map_take,List.map_drop,Qav]))).trans (Sub.loose _ _ _),sR,trivial⟩))
 <| fun p5=>.r 8<|.r 5<|.app 24 V ((l.take k).map entA) ([[aS s,aI n]]) (by have hq:=Qbi l s;simp only [List.length_map,List.length_cons,List.length_nil,List.length_take,List.length_drop,List.length_append];omega) (by have hq:=Qbi l s;simp only [List.length_map,List.length_cons,List.length_nil,List.length_take,List.length_drop,List.length_append];omega) fun V4=>
 .r 1<|.r 3<|.slc 2 false (l.map entA) (some (k:Int)) none none k ((l.map entA).length) false (.inr rfl) (.inl ⟨rfl,rfl⟩) (.inl ⟨rfl,fun h=>by cases h⟩) (by first | omega | (rw [List.length_map];omega)) (by first | omega | (rw [List.length_map];omega))<|
 .app 24 V4 (((l.take k).map entA)++([[aS s,aI n]])) (((l.map entA).take ((l.map entA).length)).drop k) (by have hq:=Qbi l s;simp only [List.length_map,List.length_cons,List.length_nil,List.length_take,List.length_drop,List.length_append];omega) (by have hq:=Qbi l s;simp only [List.length_map,List.length_cons,List.length_nil,List.length_take,List.length_drop,List.length_append];omega) fun V5=>
 .r 2<|.frz 11 [6,7] [] [V5=V5,(((l.take k).map entA)++([[aS s,aI n]])).length+(((l.map entA).take ((l.map entA).length)).drop k).length=((((l.take k).map entA)++([[aS s,aI n]]))++(((l.map entA).take ((l.map entA).length)).drop k)).length] ⟨rfl,(by first | rfl | (simp;done) | (simp;omega)),trivial⟩<|
 .f (.tup [.sl 2 false ((entL l s n).map entA),aI (entE l s n)]) [] (.tup [.sl 2 false ((((l.take k).map entA)++([[aS s,aI n]]))++(((l.map entA).take ((l.map entA).length)).drop k)),aI 0]) (by
  have e:entE l s n=0:=by
   unfold entE;rw [if_neg (by rw [q1];decide)];rw [if_neg (by omega)];rw [if_neg (by rw [q3];decide)];rw [if_neg (by omega)]
  have e2:entL l s n=l.take (posI l s)++⟨s,n⟩ :: l.drop (posI l s):=if_pos e;have hk:k=posI l s:=by
   have hq:=Qbi l s;omega
  rw [e,e2,← hk]
  first | exact Sub.tups ⟨Sub.of_eq (congrArg (AV.sl 2 false) (by simp [entA,List.map_take,List.map_drop,Qav])),sR,trivial⟩ | exact Sub.tups ⟨(Sub.of_eq (congrArg (AV.sl 2 true) (by simp [entA,List.map_take,List.map_drop,Qav]))).trans (Sub.loose _ _ _),sR,trivial⟩)) a1.1 a1.2 ha1)
theorem Qud (l:List Ent) (s:Txt) (hl:l.length≤1000000) (hr:Name.Srt (lI l)) (hs:s.length≤1000000):Qaf prog 168 [.sl 2 false (l.map entA),aS s] (.tup [.sl 2 false ((delL l s).map entA),aI (getI l s),aI (Qgd l s)]):=by
 exact Qac func168 (
 .r 3<|.r 2<|.call (Qdu l s (by omega))<|
 .r 5<|.r 2<|.br 18 (!(isB l s)) (fun q1=>have q1:=notT q1;have p1:=booF q1;.r 4<|.f (.tup [.sl 2 false ((delL l s).map entA),aI (getI l s),aI (Qgd l s)]) [] (.tup [.sl 2 false (l.map entA),aI 0,aI 6]) (by
  rw [(Qws q1).1,(Qws q1).2,Qqe q1];exact Sub.tups ⟨by first | exact sR | exact Sub.loose _ _ _,sR,sR,trivial⟩))
 <| fun q1=>have q1:=notF q1;have p1:=booT q1;.r 1<|.rowNil 9 9 128 2<|.r 1<|let L1:Lp (Nat × Value):=⟨fun a1=>⟨[(0,.sl 2 false (l.map entA)),(1,aS s),(7,aI (getI l s)),(10,aI (a1.1:Int)),(9,.rw 9 a1.2 ((lvK l s a1.1).length))],[(9,.row a1.2 128 2 ((lvK l s a1.1).map entA))]⟩,fun a1=>l.length-a1.1,fun a1=>a1.1≤l.length⟩
 .lp L1 (0,.slice none 0 0) (show 0≤l.length from Nat.zero_le _) [(10,aI 0),(9,.rw 9 (.slice none 0 0) 0)] [(9,.row (.slice none 0 0) 128 2 ([]))] ⟨sR,sR,sR,sO,Sub.of_eq (congrArg (AV.rw 9 (.slice none 0 0)) (by simp [lvK])),trivial⟩ ⟨⟨_,rfl,SubB.of_eq (by simp [lvK])⟩,trivial⟩ fun a1 ha1=>
 (fun (k:Nat) (V:Value) (hH1:k≤l.length)=>.r 3<|.lm 22 l entA<|.r 1<|.bd 23 ((k:Int)<(l.length:Int)) (fun p2=>.r 2<|.idxM l entA k (m:=(k:Int)) rfl (by omega) fun x1 hx1=>
 .r 4<|.br 32 (!(x1.name==s)) (fun q3=>have q3:=notT q3;have p3:=beqF q3;.r 3<|.idx k (m:=(k:Int)) (xs:=l.map entA) (e:=entA x1) rfl (map_some hx1)<|
 .r 2<|.app 24 V ((lvK l s k).map entA) ([[aS x1.name,aI x1.ino]]) (by have:=Zjm l s k;simp only [List.length_map,List.length_cons,List.length_nil,List.length_append];omega) (by have:=Zjm l s k;simp only [List.length_map,List.length_cons,List.length_nil,List.length_append];omega) fun V1=>
 .r 1<|.run 3 [rng .i64 ((k:Int)+1)] ⟨Qaj (by omega) (by omega),trivial⟩<|
 .bk L1 (k,V) ((k+1),V1) (show (k+1)≤l.length from (by show _≤_;omega)) (show l.length-(k+1)<l.length-k from (by omega)) [(10,aI ((k:Int)+1)),(9,.rw 9 V1 (((lvK l s k).map entA).length+([[aS x1.name,aI x1.ino]]:List (List AV)).length))] [(9,.row V1 128 2 (((lvK l s k).map entA)++([[aS x1.name,aI x1.ino]])))] ⟨sR,sR,sR,sO,Sub.of_eq (congrArg (AV.rw 9 V1) (by rw [Zcl hx1 (by simpa using q3)];simp)),trivial⟩ ⟨⟨_,rfl,SubB.of_eq (by rw [Zcl hx1 (by simpa using q3)];simp [entA])⟩,trivial⟩)
 <| fun q3=>have q3:=notF q3;have p3:=beqT q3;.run 3 [rng .i64 ((k:Int)+1)] ⟨Qaj (by omega) (by omega),trivial⟩<|
 .bk L1 (k,V) ((k+1),V) (show (k+1)≤l.length from (by show _≤_;omega)) (show l.length-(k+1)<l.length-k from (by omega)) [(10,aI ((k:Int)+1)),(9,.rw 9 V ((lvK l s k).length))] [(9,.row V 128 2 ((lvK l s k).map entA))] ⟨sR,sR,sR,sO,Sub.of_eq (congrArg (AV.rw 9 V) (by rw [Zjl hx1 (by simpa using q3)])),trivial⟩ ⟨⟨_,rfl,SubB.of_eq (by rw [Zjl hx1 (by simpa using q3)])⟩,trivial⟩)
 <| fun p2=>.r 5<|.frz 9 [4,5,6] [] [V=V,(lvK l s k).length=((lvK l s k).map entA).length] ⟨rfl,(by first | rfl | (simp;done) | (simp;omega)),trivial⟩<|
 .f (.tup [.sl 2 false ((delL l s).map entA),aI (getI l s),aI (Qgd l s)]) [] (.tup [.sl 2 false ((lvK l s k).map entA),aI (getI l s),aI 0]) (by
  rw [Zcx q1]
  first | exact Sub.tups ⟨Sub.of_eq (by rw [Zcm hr (by omega)]),sR,sR,trivial⟩ | exact Sub.tups ⟨(Sub.of_eq (by rw [Zcm hr (by omega)])).trans (Sub.loose _ _ _),sR,sR,trivial⟩)) a1.1 a1.2 ha1)
theorem Qt7 (l:List Ent) (hl:l.length≤1000000):Qaf prog 76 [.sl 2 false (l.map entA)] (.sl 1 false ((l.map Ent.name).map txA)):=by
 exact Qac func76 (
 .r 1<|.r 1<|.rowNil 3 3 9 1<|.r 1<|let L1:Lp (Nat × Value):=⟨fun a1=>⟨[(0,.sl 2 false (l.map entA)),(4,aI (a1.1:Int)),(3,.rw 3 a1.2 (((l.take a1.1).map Ent.name).length))],[(3,.row a1.2 9 1 (((l.take a1.1).map Ent.name).map txA))]⟩,fun a1=>l.length-a1.1,fun a1=>a1.1≤l.length⟩
 .lp L1 (0,.slice none 0 0) (show 0≤l.length from Nat.zero_le _) [(4,aI 0),(3,.rw 3 (.slice none 0 0) 0)] [(3,.row (.slice none 0 0) 9 1 ([]))] ⟨sR,sO,Sub.of_eq (congrArg (AV.rw 3 (.slice none 0 0)) (by simp)),trivial⟩ ⟨⟨_,rfl,SubB.of_eq (by simp)⟩,trivial⟩ fun a1 ha1=>
 (fun (k:Nat) (V:Value) (hH1:k≤l.length)=>.r 3<|.lm 7 l entA<|.r 1<|.bd 8 ((k:Int)<(l.length:Int)) (fun p1=>.r 3<|.idxM l entA k (m:=(k:Int)) rfl (by omega) fun x1 hx1=>
 .r 3<|.app 16 V (((l.take k).map Ent.name).map txA) ([[aS x1.name]]) (by simp only [List.length_map,List.length_cons,List.length_nil,List.length_take,List.length_append];omega) (by simp only [List.length_map,List.length_cons,List.length_nil,List.length_take,List.length_append];omega) fun V1=>
 .r 1<|.run 3 [rng .i64 ((k:Int)+1)] ⟨Qaj (by omega) (by omega),trivial⟩<|
 .bk L1 (k,V) ((k+1),V1) (show (k+1)≤l.length from (by show _≤_;omega)) (show l.length-(k+1)<l.length-k from (by omega)) [(4,aI ((k:Int)+1)),(3,.rw 3 V1 ((((l.take k).map Ent.name).map txA).length+([[aS x1.name]]:List (List AV)).length))] [(3,.row V1 9 1 ((((l.take k).map Ent.name).map txA)++([[aS x1.name]])))] ⟨sR,sO,Sub.of_eq (congrArg (AV.rw 3 V1) (by rw [Qak hx1];simp)),trivial⟩ ⟨⟨_,rfl,SubB.of_eq (by rw [Qak hx1];simp [txA])⟩,trivial⟩)
 <| fun p1=>.r 2<|.frz 3 [2] [] [V=V,((l.take k).map Ent.name).length=(((l.take k).map Ent.name).map txA).length] ⟨rfl,(by first | rfl | (simp;done) | (simp;omega)),trivial⟩<|
 .f (.sl 1 false ((l.map Ent.name).map txA)) [] (.sl 1 false (((l.take k).map Ent.name).map txA)) (by first | exact Sub.of_eq (by rw [Qav (by omega)]) | exact (Sub.of_eq (by rw [Qav (by omega)])).trans (Sub.loose _ _ _))) a1.1 a1.2 ha1)
end Go.Proofs.YtahlldgocpabjaaGreat

namespace Go.Proofs.YtahlldgocpabjaaGreat
open Go Go.RowKit Copyhold Go.Proofs.Tryz
open Copyhold.Name (Srt insE delE getE isAt)
noncomputable def Qmt (f:Fsy) (i:Int):Fsy:=if (Qaa f i).links≤1 then outF f i else putF f (Qg7 (Qaa f i))
theorem Qbw (f:Fsy) (d:Int) (s:Txt) (i:Int) (okf:OkF f) (hp:Qam f) (hs:s.length≤1000000):Qaf prog 122 [.agg (fsyA f),aI d,aS s,aI i] (.agg (fsyA (enterF f d s i))):=by
 have hl:=hp.1;have hr:=Qad hp;exact Qac func122 (let R:AV:=.agg (fsyA (enterF f d s i));
 .new fun b1=>.new fun b2=>.u 2 [b1]<|
 .call (Qa9 f d (by omega))<|
 .r 3<|.new fun b3=>.u 2 [b3]<|
 .u 4 [b3]<|
 .call (Que (Qaa f d).l s i (Qeg hp d).2 (Qeg hp d).1 hs)<|
 .r 5<|.u 3 [b3]<|
 .u 2 [b1,b3]<|
 .cs (args0:=[.agg (fsyA f),.agg [aI ((Qaa f d).ino),aI ((Qaa f d).kind),aI ((Qaa f d).links),aS ((Qaa f d).text),.sl 2 false ((entL (Qaa f d).l s i).map entA)]]) (Qdj f (Qbk (Qaa f d) (entL (Qaa f d).l s i)) (Qb0 okf hp d) (by omega) hr) sr2<|
 .u 1 [b2]<|
 .fi R [b2])
theorem Qca (f:Fsy) (d:Int) (s:Txt) (okf:OkF f) (hp:Qam f) (hs:s.length≤1000000):Qaf prog 125 [.agg (fsyA f),aI d,aS s] (.agg (fsyA (leaveF f d s))):=by
 have hl:=hp.1;have hr:=Qad hp;exact Qac func125 (let R:AV:=.agg (fsyA (leaveF f d s));
 .new fun b1=>.new fun b2=>.u 2 [b1]<|
 .call (Qa9 f d (by omega))<|
 .r 3<|.new fun b3=>.u 2 [b3]<|
 .u 3 [b3]<|
 .call (Qud (Qaa f d).l s (by have:=(Qeg hp d).2;omega) (Qeg hp d).1 hs)<|
 .r 7<|.u 3 [b3]<|
 .u 2 [b1,b3]<|
 .cs (args0:=[.agg (fsyA f),.agg [aI ((Qaa f d).ino),aI ((Qaa f d).kind),aI ((Qaa f d).links),aS ((Qaa f d).text),.sl 2 false ((delL (Qaa f d).l s).map entA)]]) (Qdj f (Qbk (Qaa f d) (delL (Qaa f d).l s)) (Qb0 okf hp d) (by omega) hr) sr2<|
 .u 1 [b2]<|
 .fi R [b2])
theorem Qkd (f:Fsy) (i:Int) (okf:OkF f) (hp:Qam f):Qaf prog 124 [.agg (fsyA f),aI i] (.agg (fsyA (Qmt f i))):=by
 have hl:=hp.1;have hr:=Qad hp;have hlk:=Qdx hp i;exact Qac func124 (
 .new fun b1=>.new fun b2=>.u 2 [b1]<|
 .call (Qa9 f i (by omega))<|
 .r 3<|.new fun b3=>.u 2 [b3]<|
 .u 3 [b3]<|
 .bd 15 (((Qaa f i).links)≤1) (fun p1=>.u 2 [b1]<|
 .call (Za2 f i (by omega) hr)<|
 .u 1 [b2]<|
 .f (.agg (fsyA (Qmt f i))) [b2] (.agg [.sl 5 false ((outF f i).l.map nodA),aI ((outF f i).next)]) (by
  rw [show Qmt f i=_ from if_pos (by omega)];exact sR))
 <| fun p1=>.run 5 [b3=b3,rng .i64 (((Qaa f i).links)-1),b3=b3] ⟨rfl,Qaj (by omega) (by omega),rfl,trivial⟩<|
 .u 2 [b1,b3]<|
 .cs (args0:=[.agg (fsyA f),.agg [aI ((Qaa f i).ino),aI ((Qaa f i).kind),aI (((Qaa f i).links)-1),aS ((Qaa f i).text),.sl 2 false ((Qaa f i).l.map entA)]]) (Qdj f (Qg7 (Qaa f i)) (Qb0 okf hp i) (by omega) hr) sr2<|
 .u 1 [b2]<|
 .f (.agg (fsyA (Qmt f i))) [b2] (.agg [.sl 5 false ((putF f (Qg7 (Qaa f i))).l.map nodA),aI ((putF f (Qg7 (Qaa f i))).next)]) (by
  rw [show Qmt f i=_ from if_neg (by omega)];exact sR))
end Go.Proofs.YtahlldgocpabjaaGreat

namespace Go.Proofs.YtahlldgocpabjaaGreat
open Go Go.RowKit Copyhold Go.Proofs.Tryz
open Copyhold.Name (Srt insE delE getE isAt)
theorem Qcx {a:Int} {l:List Int} (h:¬ a=0):Qat (a :: l)=a:=by unfold Qat;rw [List.find?_cons,show (a != 0)=true from by simpa using h];rfl
theorem Qay {a:Int} {l:List Int} (h:a=0):Qat (a :: l)=Qat l:=by unfold Qat;rw [List.find?_cons,show (a != 0)=false from by simpa using h]
theorem Qr7 {f:Fsy} {d:Int} {s:Txt} {n:Nod} (h:Qaa (leaveF f d s) n.ino=n):Qmt (leaveF f d s) n.ino=Qbd f d s n:=by
 unfold Qmt Qbd;rw [h];by_cases hl:n.links≤1
 ·rw [if_pos hl,if_pos (by omega)]
 ·rw [if_neg hl,if_neg (by omega)]
theorem Qmd (f:Fsy) (d:Int) (s:Txt) (n:Nod) (okf:OkF f) (hp:Qam f) (hs:s.length≤1000000) (okn:OkN n) (hx:f.next<9223372036854775807):Qaf prog 120 [.agg (fsyA f),aI d,aS s,.agg (nodA n)] (.tup [.agg (fsyA (if Qaq f d s n=0 then addF f d s (addN f n) else f)),aI (Qaq f d s n)]):=by
 have hl:=hp.1;have hr:=Qad hp;exact Qac func120 (
 .new fun b1=>.new fun b2=>.new fun b3=>.r 1<|.u 2 [b1]<|
 .call (Qgr f d hp)<|
 .r 3<|.new fun b4=>.u 2 [b4]<|
 .r 2<|.br 23 ((dirE f d) != 0) (fun q1=>have p1:=bneT q1;.u 4 [b1,b3]<|
 .f (.tup [.agg (fsyA (if Qaq f d s n=0 then addF f d s (addN f n) else f)),aI (Qaq f d s n)]) [b3] (.tup [.agg (fsyA f),aI (dirE f d)]) (by
  have e:Qaq f d s n=dirE f d:=by
   unfold Qaq;rw [Qcx (bneT q1)]
  rw [if_neg (by rw [e];exact bneT q1),e];exact sR))
 <| fun q1=>have p1:=bneF q1;.r 1<|.call (Qdw s (by omega))<|
 .r 1<|.r 2<|.br 29 ((Qah s) != 0) (fun q2=>have p2:=bneT q2;.u 4 [b1,b3]<|
 .f (.tup [.agg (fsyA (if Qaq f d s n=0 then addF f d s (addN f n) else f)),aI (Qaq f d s n)]) [b3] (.tup [.agg (fsyA f),aI (Qah s)]) (by
  have e:Qaq f d s n=Qah s:=by
   unfold Qaq;rw [Qay (bneF q1)];rw [Qcx (bneT q2)]
  rw [if_neg (by rw [e];exact bneT q2),e];exact sR))
 <| fun q2=>have p2:=bneF q2;.u 3 [b4]<|
 .call (Qdu (dirN f d).l s (by have:=(Qc5 hp d).2;omega))<|
 .r 5<|.r 1<|.br 39 (isB (dirN f d).l s) (fun q3=>have p3:=booT q3;.u 3 [b1,b3]<|
 .f (.tup [.agg (fsyA (if Qaq f d s n=0 then addF f d s (addN f n) else f)),aI (Qaq f d s n)]) [b3] (.tup [.agg (fsyA f),aI 7]) (by
  have e:Qaq f d s n=7:=by
   unfold Qaq;rw [Qay (bneF q1)];rw [Qay (bneF q2)];rw [Qcx (by simp only [q3,Bool.true_or,Bool.false_or,Bool.or_true,Bool.or_false,Bool.not_true,Bool.not_false];decide)];simp only [q3,Bool.true_or,Bool.false_or,Bool.or_true,Bool.or_false,Bool.not_true,Bool.not_false];rfl
  rw [if_neg (by rw [e];decide),e];exact sR))
 <| fun q3=>have p3:=booF q3;.u 3 [b1]<|
 .lm 43 f.l nodA<|.r 2<|.br 45 (decide ((f.l.length:Int)≥256)) (fun q4=>have p4:=decT q4;.r 5<|.u 3 [b1,b3]<|
 .f (.tup [.agg (fsyA (if Qaq f d s n=0 then addF f d s (addN f n) else f)),aI (Qaq f d s n)]) [b3] (.tup [.agg (fsyA f),aI 12]) (by
  have e:Qaq f d s n=12:=by
   unfold Qaq;rw [Qay (bneF q1)];rw [Qay (bneF q2)];rw [Qay (by simp only [q3,Bool.true_or,Bool.false_or,Bool.or_true,Bool.or_false,Bool.not_true,Bool.not_false];rfl)];rw [Qcx (by simp only [q4,Bool.true_or,Bool.false_or,Bool.or_true,Bool.or_false,Bool.not_true,Bool.not_false];decide)];simp only [q4,Bool.true_or,Bool.false_or,Bool.or_true,Bool.or_false,Bool.not_true,Bool.not_false];rfl
  rw [if_neg (by rw [e];decide),e];exact sR))
 <| fun q4=>have p4:=decF q4;.u 3 [b4]<|
 .lm 48 ((dirN f d).l) entA<|.r 2<|.br 50 (decide ((((dirN f d).l).length:Int)≥256)) (fun q5=>have p5:=decT q5;.u 3 [b1,b3]<|
 .f (.tup [.agg (fsyA (if Qaq f d s n=0 then addF f d s (addN f n) else f)),aI (Qaq f d s n)]) [b3] (.tup [.agg (fsyA f),aI 12]) (by
  have e:Qaq f d s n=12:=by
   unfold Qaq;rw [Qay (bneF q1)];rw [Qay (bneF q2)];rw [Qay (by simp only [q3,Bool.true_or,Bool.false_or,Bool.or_true,Bool.or_false,Bool.not_true,Bool.not_false];rfl)];rw [Qcx (by simp only [q4,q5,Bool.true_or,Bool.false_or,Bool.or_true,Bool.or_false,Bool.not_true,Bool.not_false];decide)];simp only [q4,q5,Bool.true_or,Bool.false_or,Bool.or_true,Bool.or_false,Bool.not_true,Bool.not_false];rfl
  rw [if_neg (by rw [e];decide),e];exact sR))
 <| fun q5=>have p5:=decF q5;.u 4 [b1,b2]<|
 .u 2 [b2]<|
 .u 1 [b2]<|
 .cs (args0:=[.agg [aI f.next,aI n.kind,aI 1,aS n.text,.sl 2 false (n.l.map entA)]]) (Qgn (addN f n) (Qq1 okf okn)) sr1<|
 .r 1<|.r 3<|.br 60 (!(dP (nodP (addN f n)))) (fun q6=>have q6:=notT q6;have p6:=booF q6;.r 5<|.u 3 [b1,b3]<|
 .f (.tup [.agg (fsyA (if Qaq f d s n=0 then addF f d s (addN f n) else f)),aI (Qaq f d s n)]) [b3] (.tup [.agg (fsyA f),aI 1]) (by
  have e:Qaq f d s n=1:=by
   unfold Qaq;rw [Qay (bneF q1)];rw [Qay (bneF q2)];rw [Qay (by simp only [q3,Bool.true_or,Bool.false_or,Bool.or_true,Bool.or_false,Bool.not_true,Bool.not_false];rfl)];rw [Qay (by simp only [q4,q5,Bool.true_or,Bool.false_or,Bool.or_true,Bool.or_false,Bool.not_true,Bool.not_false];rfl)];rw [Qcx (by simp only [q6,Bool.true_or,Bool.false_or,Bool.or_true,Bool.or_false,Bool.not_true,Bool.not_false];decide)];simp only [q6,Bool.true_or,Bool.false_or,Bool.or_true,Bool.or_false,Bool.not_true,Bool.not_false];rfl
  rw [if_neg (by rw [e];decide),e];exact sR))
 <| fun q6=>have q6:=notF q6;have p6:=booT q6;.u 3 [b2]<|
 .lm 63 n.l entA<|.r 2<|.br 65 (decide ((n.l.length:Int)>0)) (fun q7=>have p7:=decT q7;.u 3 [b1,b3]<|
 .f (.tup [.agg (fsyA (if Qaq f d s n=0 then addF f d s (addN f n) else f)),aI (Qaq f d s n)]) [b3] (.tup [.agg (fsyA f),aI 1]) (by
  have e:Qaq f d s n=1:=by
   unfold Qaq;rw [Qay (bneF q1)];rw [Qay (bneF q2)];rw [Qay (by simp only [q3,Bool.true_or,Bool.false_or,Bool.or_true,Bool.or_false,Bool.not_true,Bool.not_false];rfl)];rw [Qay (by simp only [q4,q5,Bool.true_or,Bool.false_or,Bool.or_true,Bool.or_false,Bool.not_true,Bool.not_false];rfl)];rw [Qcx (by simp only [q6,q7,Bool.true_or,Bool.false_or,Bool.or_true,Bool.or_false,Bool.not_true,Bool.not_false];decide)];simp only [q6,q7,Bool.true_or,Bool.false_or,Bool.or_true,Bool.or_false,Bool.not_true,Bool.not_false];rfl
  rw [if_neg (by rw [e];decide),e];exact sR))
 <| fun q7=>have p7:=decF q7;have hnl:n.l=[]:=List.eq_nil_of_length_eq_zero (by omega);.ord [0,1,2,3,4,6,5,7,8,9]<|.u 6 [b1,b2,b2]<|
 .call (Qbw f d s f.next okf hp hs)<|
 .cs (args0:=[.agg [.sl 5 false ((enterF f d s f.next).l.map nodA),aI ((enterF f d s f.next).next)],.agg [aI f.next,aI n.kind,aI 1,aS n.text,.sl 2 false (n.l.map entA)]]) (Qdj (enterF f d s f.next) (Qbk (addN f n) []) ⟨okf.1,hx⟩ (by have:=Qls f d s f.next;omega) (Qhv hp d s f.next)) ⟨sR,Sub.aggs ⟨sR,sR,sR,sR,Sub.of_eq (by rw [hnl];rfl),trivial⟩,trivial⟩<|
 .u 2 [b3]<|
 .f (.tup [.agg (fsyA (if Qaq f d s n=0 then addF f d s (addN f n) else f)),aI (Qaq f d s n)]) [b3] (.tup [.agg [.sl 5 false ((putF (enterF f d s f.next) (Qbk (addN f n) [])).l.map nodA),aI ((putF (enterF f d s f.next) (Qbk (addN f n) [])).next)],aI 0]) (by
  have e:Qaq f d s n=0:=by
   unfold Qaq;rw [Qay (bneF q1)];rw [Qay (bneF q2)];rw [Qay (by simp only [q3,Bool.true_or,Bool.false_or,Bool.or_true,Bool.or_false,Bool.not_true,Bool.not_false];rfl)];rw [Qay (by simp only [q4,q5,Bool.true_or,Bool.false_or,Bool.or_true,Bool.or_false,Bool.not_true,Bool.not_false];rfl)];rw [Qay (by simp only [q6,q7,Bool.true_or,Bool.false_or,Bool.or_true,Bool.or_false,Bool.not_true,Bool.not_false];rfl)];rfl
  rw [if_pos e,e];exact sR))
theorem Qyh (f:Fsy) (d:Int) (s:Txt) (i:Int) (okf:OkF f) (hp:Qam f) (hs:s.length≤1000000):Qaf prog 73 [.agg (fsyA f),aI d,aS s,aI i] (.tup [.agg (fsyA (Qc4 f d s i)),aI (Qa6 f d s i)]):=by
 have hl:=hp.1;have hr:=Qad hp;have hlk:=Qdx hp i;exact Qac func73 (
 .new fun b1=>.new fun b2=>.r 1<|.u 2 [b1]<|
 .call (Qgr f d hp)<|
 .r 3<|.new fun b3=>.u 2 [b3]<|
 .r 2<|.br 24 ((dirE f d) != 0) (fun q1=>have p1:=bneT q1;.u 4 [b1,b2]<|
 .f (.tup [.agg (fsyA (Qc4 f d s i)),aI (Qa6 f d s i)]) [b2] (.tup [.agg (fsyA f),aI (dirE f d)]) (by
  have e:Qa6 f d s i=dirE f d:=by
   unfold Qa6;rw [Qcx (bneT q1)]
  rw [show Qc4 f d s i=f from if_neg (by rw [e];exact bneT q1),e];exact sR))
 <| fun q1=>have p1:=bneF q1;.u 2 [b1]<|
 .call (Qa9 f i (by omega))<|
 .r 3<|.new fun b4=>.u 2 [b4]<|
 .r 2<|.br 34 (!(Qau f i)) (fun q2=>have q2:=notT q2;have p2:=booF q2;.u 3 [b1,b2]<|
 .f (.tup [.agg (fsyA (Qc4 f d s i)),aI (Qa6 f d s i)]) [b2] (.tup [.agg (fsyA f),aI 6]) (by
  have e:Qa6 f d s i=6:=by
   unfold Qa6;rw [Qay (bneF q1)];rw [Qcx (by simp only [q2,Bool.true_or,Bool.false_or,Bool.or_true,Bool.or_false,Bool.not_true,Bool.not_false];decide)];simp only [q2,Bool.true_or,Bool.false_or,Bool.or_true,Bool.or_false,Bool.not_true,Bool.not_false];rfl
  rw [show Qc4 f d s i=f from if_neg (by rw [e];decide),e];exact sR))
 <| fun q2=>have q2:=notF q2;have p2:=booT q2;.u 3 [b4]<|
 .br 38 (((Qaa f i).kind)==2) (fun q3=>have p3:=beqT q3;.u 3 [b1,b2]<|
 .f (.tup [.agg (fsyA (Qc4 f d s i)),aI (Qa6 f d s i)]) [b2] (.tup [.agg (fsyA f),aI 9]) (by
  have e:Qa6 f d s i=9:=by
   unfold Qa6;rw [Qay (bneF q1)];rw [Qay (by simp only [q2,Bool.true_or,Bool.false_or,Bool.or_true,Bool.or_false,Bool.not_true,Bool.not_false];rfl)];rw [Qcx (by simp only [q3,Bool.true_or,Bool.false_or,Bool.or_true,Bool.or_false,Bool.not_true,Bool.not_false];decide)];simp only [q3,Bool.true_or,Bool.false_or,Bool.or_true,Bool.or_false,Bool.not_true,Bool.not_false];rfl
  rw [show Qc4 f d s i=f from if_neg (by rw [e];decide),e];exact sR))
 <| fun q3=>have p3:=beqF q3;.r 1<|.call (Qdw s (by omega))<|
 .r 1<|.r 2<|.br 43 ((Qah s) != 0) (fun q4=>have p4:=bneT q4;.u 4 [b1,b2]<|
 .f (.tup [.agg (fsyA (Qc4 f d s i)),aI (Qa6 f d s i)]) [b2] (.tup [.agg (fsyA f),aI (Qah s)]) (by
  have e:Qa6 f d s i=Qah s:=by
   unfold Qa6;rw [Qay (bneF q1)];rw [Qay (by simp only [q2,Bool.true_or,Bool.false_or,Bool.or_true,Bool.or_false,Bool.not_true,Bool.not_false];rfl)];rw [Qay (by simp only [q3,Bool.true_or,Bool.false_or,Bool.or_true,Bool.or_false,Bool.not_true,Bool.not_false];rfl)];rw [Qcx (bneT q4)]
  rw [show Qc4 f d s i=f from if_neg (by rw [e];exact bneT q4),e];exact sR))
 <| fun q4=>have p4:=bneF q4;.u 3 [b3]<|
 .call (Qdu (dirN f d).l s (by have:=(Qc5 hp d).2;omega))<|
 .r 5<|.r 1<|.br 53 (isB (dirN f d).l s) (fun q5=>have p5:=booT q5;.u 3 [b1,b2]<|
 .f (.tup [.agg (fsyA (Qc4 f d s i)),aI (Qa6 f d s i)]) [b2] (.tup [.agg (fsyA f),aI 7]) (by
  have e:Qa6 f d s i=7:=by
   unfold Qa6;rw [Qay (bneF q1)];rw [Qay (by simp only [q2,Bool.true_or,Bool.false_or,Bool.or_true,Bool.or_false,Bool.not_true,Bool.not_false];rfl)];rw [Qay (by simp only [q3,Bool.true_or,Bool.false_or,Bool.or_true,Bool.or_false,Bool.not_true,Bool.not_false];rfl)];rw [Qay (bneF q4)];rw [Qcx (by simp only [q5,Bool.true_or,Bool.false_or,Bool.or_true,Bool.or_false,Bool.not_true,Bool.not_false];decide)];simp only [q5,Bool.true_or,Bool.false_or,Bool.or_true,Bool.or_false,Bool.not_true,Bool.not_false];rfl
  rw [show Qc4 f d s i=f from if_neg (by rw [e];decide),e];exact sR))
 <| fun q5=>have p5:=booF q5;.u 3 [b3]<|
 .lm 57 ((dirN f d).l) entA<|.r 2<|.br 59 (decide ((((dirN f d).l).length:Int)≥256)) (fun q6=>have p6:=decT q6;.r 4<|.u 3 [b1,b2]<|
 .f (.tup [.agg (fsyA (Qc4 f d s i)),aI (Qa6 f d s i)]) [b2] (.tup [.agg (fsyA f),aI 12]) (by
  have e:Qa6 f d s i=12:=by
   unfold Qa6;rw [Qay (bneF q1)];rw [Qay (by simp only [q2,Bool.true_or,Bool.false_or,Bool.or_true,Bool.or_false,Bool.not_true,Bool.not_false];rfl)];rw [Qay (by simp only [q3,Bool.true_or,Bool.false_or,Bool.or_true,Bool.or_false,Bool.not_true,Bool.not_false];rfl)];rw [Qay (bneF q4)];rw [Qay (by simp only [q5,Bool.true_or,Bool.false_or,Bool.or_true,Bool.or_false,Bool.not_true,Bool.not_false];rfl)];rw [Qcx (by simp only [q6,Bool.true_or,Bool.false_or,Bool.or_true,Bool.or_false,Bool.not_true,Bool.not_false];decide)];simp only [q6,Bool.true_or,Bool.false_or,Bool.or_true,Bool.or_false,Bool.not_true,Bool.not_false];rfl
  rw [show Qc4 f d s i=f from if_neg (by rw [e];decide),e];exact sR))
 <| fun q6=>have p6:=decF q6;.u 4 [b4]<|
 .br 63 (decide (((Qaa f i).links)≥64)) (fun q7=>have p7:=decT q7;.u 3 [b1,b2]<|
 .f (.tup [.agg (fsyA (Qc4 f d s i)),aI (Qa6 f d s i)]) [b2] (.tup [.agg (fsyA f),aI 12]) (by
  have e:Qa6 f d s i=12:=by
   unfold Qa6;rw [Qay (bneF q1)];rw [Qay (by simp only [q2,Bool.true_or,Bool.false_or,Bool.or_true,Bool.or_false,Bool.not_true,Bool.not_false];rfl)];rw [Qay (by simp only [q3,Bool.true_or,Bool.false_or,Bool.or_true,Bool.or_false,Bool.not_true,Bool.not_false];rfl)];rw [Qay (bneF q4)];rw [Qay (by simp only [q5,Bool.true_or,Bool.false_or,Bool.or_true,Bool.or_false,Bool.not_true,Bool.not_false];rfl)];rw [Qcx (by simp only [q6,q7,Bool.true_or,Bool.false_or,Bool.or_true,Bool.or_false,Bool.not_true,Bool.not_false];decide)];simp only [q6,q7,Bool.true_or,Bool.false_or,Bool.or_true,Bool.or_false,Bool.not_true,Bool.not_false];rfl
  rw [show Qc4 f d s i=f from if_neg (by rw [e];decide),e];exact sR))
 <| fun q7=>have p7:=decF q7;.run 5 [b4=b4,rng .i64 (((Qaa f i).links)+1),b4=b4] ⟨rfl,Qaj (by omega) (by omega),rfl,trivial⟩<|
 .ord [0,1,2,3,5,4,6,7,8]<|.u 5 [b1,b4]<|
 .call (Qbw f d s i okf hp hs)<|
 .cs (args0:=[.agg [.sl 5 false ((enterF f d s i).l.map nodA),aI ((enterF f d s i).next)],.agg [aI ((Qaa f i).ino),aI ((Qaa f i).kind),aI (((Qaa f i).links)+1),aS ((Qaa f i).text),.sl 2 false ((Qaa f i).l.map entA)]]) (Qdj (enterF f d s i) (Qla (Qaa f i)) (Qb0 okf hp i) (by have:=Qls f d s i;omega) (Qhv hp d s i)) sr2<|
 .u 2 [b2]<|
 .f (.tup [.agg (fsyA (Qc4 f d s i)),aI (Qa6 f d s i)]) [b2] (.tup [.agg [.sl 5 false ((putF (enterF f d s i) (Qla (Qaa f i))).l.map nodA),aI ((putF (enterF f d s i) (Qla (Qaa f i))).next)],aI 0]) (by
  have e:Qa6 f d s i=0:=by
   unfold Qa6;rw [Qay (bneF q1)];rw [Qay (by simp only [q2,Bool.true_or,Bool.false_or,Bool.or_true,Bool.or_false,Bool.not_true,Bool.not_false];rfl)];rw [Qay (by simp only [q3,Bool.true_or,Bool.false_or,Bool.or_true,Bool.or_false,Bool.not_true,Bool.not_false];rfl)];rw [Qay (bneF q4)];rw [Qay (by simp only [q5,Bool.true_or,Bool.false_or,Bool.or_true,Bool.or_false,Bool.not_true,Bool.not_false];rfl)];rw [Qay (by simp only [q6,q7,Bool.true_or,Bool.false_or,Bool.or_true,Bool.or_false,Bool.not_true,Bool.not_false];rfl)];rfl
  rw [show Qc4 f d s i=Qdn f d s i (Qaa f i) from if_pos e,e];exact sR))
end Go.Proofs.YtahlldgocpabjaaGreat
