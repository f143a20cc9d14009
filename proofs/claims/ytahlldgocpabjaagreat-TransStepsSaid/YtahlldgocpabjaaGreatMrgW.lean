import Derived.Lib.BufferWrite
import Derived.Laws.IdiomStrings
import Derived.Laws.MakeOwn
import Derived.Test.YtahlldgocpabjaaGreatMrgA
import Derived.Test.YtahlldgocpabjaaGreatMrgV
import Derived.Test.YtahlldgocpabjaaGreatMrgU
set_option maxRecDepth 100000
set_option maxHeartbeats 8000000
namespace Copyhold
open Go Go.RowKit
theorem Qf0 {P:Program} (w:World) (dT sT ty elem:TypeId) (g o dLen dCap:Nat) (l:List UInt8) (cur:List UInt8) (t:TypeId)
  (hu:P.underlying dT=some (.slice elem)) (hs:(P.info? elem).map (·.size)=some 1) (hg:w.heap[g]?=some (.cells (Lib.byteCells cur).toArray t (0,0))) (hfit:o+dLen=cur.length) :
  (Builtin.copy_ #[dT,sT] ty #[.slice (some ⟨g,o,none⟩) dLen dCap,.string ⟨l.toArray⟩]).run P w =
   .ok (goInt (Nat.min l.length dLen)) (w.setRow g (Lib.byteCells (cur.take o++l.take dLen++cur.drop (o+l.length))).toArray):=by
 have hsz:(⟨l.toArray⟩:ByteArray).size=l.length:=by simp [ByteArray.size]
 have hlen:(Lib.byteCells (l.take dLen)).length=Nat.min l.length dLen:=by rw [Lib.byteCells_length,List.length_take,Nat.min_comm]
 have hcl:(Lib.byteCells cur).length=cur.length:=Lib.byteCells_length _;have hst:=run_storeCells_at P g o t (Lib.byteCells (l.take dLen)) 0 (Lib.byteCells cur).toArray w hg (by rw [hlen];simp [hcl];have:Nat.min l.length dLen≤dLen:=Nat.min_le_right l.length dLen;omega) (Lib.byteCells_one _);have htk:List.take (Nat.min l.length dLen) (List.map (fun b:UInt8=>Value.int IntKind.u8 (b.toNat:Int)) l)=Lib.byteCells (l.take dLen):=by
  unfold Lib.byteCells;rw [List.map_take];show List.take (min l.length dLen) _=_;rw [List.take_eq_take_iff];simp;omega
 have hrow:((Lib.byteCells cur).take o++Lib.byteCells (l.take dLen)++(Lib.byteCells cur).drop (o+Nat.min l.length dLen))=Lib.byteCells (cur.take o++l.take dLen++cur.drop (o+l.length)):=by
  unfold Lib.byteCells;rw [List.map_append,List.map_append,List.map_take,List.map_take,List.map_drop];congr 1;show List.drop (o+min l.length dLen) _=_;rw [List.drop_eq_drop_iff];simp;omega
 rw [hlen] at hst;simp only [Nat.add_zero] at hst;rw [hrow] at hst;cases hq:P.info? elem with
 | none=>simp [hq] at hs
 | some i=>
  simp [Builtin.copy_,run_underlying hu,Builtin.lenOf,Builtin.firstCells,Go.sizeOf,typeInfo,hq,hsz];rw [htk,hst];simp [Result.andThen,List.append_assoc]
theorem Zck (n:Nat):madeCells (Value.int .u8 0).cells n=(Lib.byteCells (List.replicate n 0)).toArray:=by
 unfold madeCells;have:(Value.int .u8 0).cells=#[Value.int .u8 0]:=rfl;rw [this];apply Array.ext
 ·simp [Lib.byteCells]
 ·intro i h1 h2;simp [Lib.byteCells,Nat.mod_one]
end Copyhold

set_option maxRecDepth 100000
namespace Go.Proofs.YtahlldgocpabjaaGreat
open Go.RowKit Copyhold
attribute [local go_sem] Qyt
def Qfj (l:List UInt8) (n:Nat):List UInt8:=l.take n++List.replicate (n-l.length) 0
theorem Qdf (l:List UInt8) (n:Nat):(Qfj l n).length=n:=by
 simp [Qfj];omega
def Qq7 (w:World) (g:Nat) (l:List UInt8):Prop:=w.heap[g]?=some (.cells (Lib.byteCells l).toArray 5 (0,0))
theorem Qnv (w:World) (n:Nat) (hn:n≤140737488355328):(Instr.makeSlice 198 (.int .i64 (n:Int)) (.int .i64 (n:Int))).run Tryz.prog w=.ok (.slice (some ⟨w.heap.size,0,none⟩) n n) (w.alloc (.cells (Lib.byteCells (List.replicate n 0)).toArray 5)):=by
 have h:=run_make (P:=Tryz.prog) w 198 5 _ (.int .u8 0) rfl rfl rfl .i64 .i64 (n:Int) (n:Int) (by omega) (by omega) (by show (1:Int)*_≤_;omega) (by omega);rw [Zck,show (Tryz.prog.types[5]'(by decide)).size=1 from rfl,Nat.mul_one,Int.toNat_natCast] at h;exact h
theorem Qin (l:List UInt8) (n:Nat) (w:World) (_hl:l.length≤140737488355328) (hn:n≤140737488355328) :
  Calls Tryz.prog 216 #[.string ⟨l.toArray⟩,.int .i64 n] w fun e w'=>e=.returned (.slice (some ⟨w.heap.size,0,none⟩) n n)∧Qq7 w' w.heap.size (Qfj l n)∧Below w.heap.size w w':=by
 have hmk:=Qnv w n hn;have hb:=(Below.refl w.heap.size w).alloc (Nat.le_refl _) (.cells (Lib.byteCells (List.replicate n 0)).toArray 5);have hg:=heap_alloc_new w (.cells (Lib.byteCells (List.replicate n 0)).toArray 5);obtain ⟨W,hW⟩:∃ W,W=w.alloc (.cells (Lib.byteCells (List.replicate n 0)).toArray 5):=⟨_,rfl⟩
 rw [← hW] at hmk hb hg;have hcp:=Qf0 (P:=Tryz.prog) W 198 9 3 5 w.heap.size 0 n n l (List.replicate n 0) 5 rfl rfl hg (by simp);have hf:(List.replicate n (0:UInt8)).take 0++l.take n++(List.replicate n 0).drop (0+l.length)=Qfj l n:=by simp [Qfj]
 rw [hf] at hcp;have HB:=Lib.hid hb;have HG:=Lib.hid hg;clear hb hg hf hW
 go_enter Tryz.func216,Tryz.ntmps216
 go_wp2_with fail
 go_ret
 exact ⟨rfl,setRow_heap _ _ _ _ _ _ HG.out,Qg6 HB.out (Nat.le_refl _) _⟩
def cutD (l:List UInt8) (n:Int):List UInt8 × Int:=if Qba 0 n=0 then (Qfj l n.toNat,0) else (l,Qba 0 n)
theorem Qff {w:World} {g:Nat} {l:List UInt8} (h:Qq7 w g l):(convert 198 9 (.slice (some ⟨g,0,none⟩) l.length l.length)).run Tryz.prog w=.ok (.string ⟨l.toArray⟩) w:=
 run_convert_bytes_back w _ _ 5 _ _ l rfl rfl rfl fun j hj=>by
  have hadd:(⟨g,0,none⟩:Addr).add j=⟨g,j,none⟩:=by unfold Addr.add;split<;>simp_all
  rw [hadd];simp only [World.cell?,show w.heap[g]?=some (.cells (Lib.byteCells l).toArray 5 (0,0)) from h];simp [Lib.byteCells,hj]
theorem Zil (l:List UInt8) (n:Int) (w:World) (hl:l.length≤140737488355328) (h1:-9223372036854775808≤n) (h2:n≤9223372036854775807) :
  Calls Tryz.prog 178 #[.string ⟨l.toArray⟩,.int .i64 n] w fun e w'=>e=.returned (.tuple #[.string ⟨(cutD l n).1.toArray⟩,.int .i64 (cutD l n).2])∧Below w.heap.size w w':=by
 by_cases h:Qba 0 n=0
 ·have hn:0≤n∧n≤4096:=by
   unfold Qba at h
   split at h
   ·split at h<;>omega
   ·cases h
  have hc:cutD l n=(Qfj l n.toNat,0):=if_pos h;obtain ⟨n,rfl⟩:=Int.eq_ofNat_of_zero_le hn.1;rw [Int.toNat_natCast] at hc;have HR:=Lib.hid h;have HC:=Lib.hid hc;clear h hc h1
  go_enter Tryz.func178,Tryz.ntmps178
  go_wp2_with fail
  refine (Qed 0 n _ (by decide) (by decide) (by omega) (by omega)).mono ?_;rintro e w1 ⟨rfl,rfl⟩;rw [HR.out]
  go_wp2_with fail
  refine (Qin l n _ hl (by omega)).mono ?_;rintro e w1 ⟨rfl,hb1,hb⟩;have hk:=Qff hb1;rw [Qdf] at hk
  go_wp2_with fail
  go_ret2
  exact ⟨by rw [HC.out];rfl,hb⟩
 ·have hc:cutD l n=(l,Qba 0 n):=if_neg h;obtain ⟨z,hz⟩:∃ z,z=Qba 0 n:=⟨_,rfl⟩
  rw [← hz] at h hc;have HZ:=Lib.hid hz;have HC:=Lib.hid hc;have hq:(z==0)=false:=by simpa using h
  clear hc hz h
  go_enter Tryz.func178,Tryz.ntmps178
  go_wp2_with fail
  refine (Qed 0 n _ (by decide) (by decide) h1 h2).mono ?_;rintro e w1 ⟨rfl,rfl⟩;rw [← HZ.out]
  go_wp2_with fail
  go_ret2
  exact ⟨by rw [HC.out];rfl,Below.refl _ _⟩
def putD (l:List UInt8) (a:Nat) (t:List UInt8):List UInt8:=
 (Qfj l (max l.length (a+t.length))).take a++t++(Qfj l (max l.length (a+t.length))).drop (a+t.length)
def Qbe (l:List UInt8) (a:Int) (t:List UInt8):List UInt8 × Int:=
 if Qba a t.length=0 then (if t=[] then l else putD l a.toNat t,0) else (l,Qba a t.length)
theorem Qf1 {a b:Int} (h:Qba a b=0):0≤a∧0≤b∧a+b≤4096:=by
 unfold Qba at h
 split at h
 ·split at h<;>omega
 ·cases h
theorem Qmh (l:List UInt8) (a:Nat) (t:List UInt8):(putD l a t).length=max l.length (a+t.length):=by
 unfold putD;simp [Qdf];omega
theorem Qzi (l:List UInt8) (a:Int) (t:List UInt8) (w:World) (hl:l.length≤140737488355328) (ht:t.length≤140737488355328) (h1:-9223372036854775808≤a) (h2:a≤9223372036854775807) :
  Calls Tryz.prog 176 #[.string ⟨l.toArray⟩,.int .i64 a,.string ⟨t.toArray⟩] w fun e w'=>e=.returned (.tuple #[.string ⟨(Qbe l a t).1.toArray⟩,.int .i64 (Qbe l a t).2])∧Below w.heap.size w w':=by
 by_cases h:Qba a t.length=0
 ·have hn:=Qf1 h;obtain ⟨a,rfl⟩:=Int.eq_ofNat_of_zero_le hn.1;rcases Classical.em (t=[]) with rfl | h0
  ·have hc:Qbe l a []=(l,0):=by unfold Qbe;rw [if_pos h,if_pos rfl]
   have HR:=Lib.hid h;have HC:=Lib.hid hc;clear h hc h1 hn
   go_enter Tryz.func176,Tryz.ntmps176
   go_wp2_with fail
   refine (Qed a 0 _ (by omega) (by omega) (by decide) (by decide)).mono ?_;rintro e w1 ⟨rfl,rfl⟩;rw [show Qba a 0=0 from HR.out]
   go_wp2_with fail
   go_ret2
   exact ⟨by rw [HC.out];rfl,Below.refl _ _⟩
  ·have hc:Qbe l a t=(putD l a t,0):=by unfold Qbe;rw [if_pos h,if_neg h0,Int.toNat_natCast]
   have hm:∃ m:Nat,m=max l.length (a+t.length):=⟨_,rfl⟩
   obtain ⟨m,hm⟩:=hm;have hp:putD l a t=(Qfj l m).take a++t.take (m-a)++(Qfj l m).drop (a+t.length):=by
    unfold putD;rw [hm,List.take_of_length_le (l:=t) (by omega)]
   have hs:(⟨t.toArray⟩:ByteArray) ≠ ⟨#[]⟩:=fun e=>h0 (by simpa using congrArg (fun x:ByteArray=>x.data.toList) e);have HR:=Lib.hid h;have HC:=Lib.hid hc;have HP:=Lib.hid hp;have HM:=Lib.hid hm;have hpl:=Qmh l a t;rw [← hm] at hpl;have HL:=Lib.hid hpl;have hmm:(max (l.length:Int) ((a:Int)+t.length))=m:=by omega
   have htp:0<t.length:=List.length_pos_iff.2 h0;have ham:a<m:=by omega
   have hie:t.isEmpty=false:=by simpa using h0
   have hmb:m≤140737488355328:=by omega
   clear h hc h1 hp hm hpl
   go_enter Tryz.func176,Tryz.ntmps176
   go_wp2_with fail
   refine (Qed a t.length _ (by omega) (by omega) (by omega) (by omega)).mono ?_;rintro e w1 ⟨rfl,rfl⟩;rw [HR.out]
   go_wp2_with fail
   ·have hmq:(a:Int)+t.length=m:=by have:=HM.out;omega
    rw [hmq];refine (Qin l m _ hl hmb).mono ?_;rintro e w1 ⟨rfl,hb1,hb⟩;have hcp:=Qf0 (P:=Tryz.prog) w1 198 9 3 5 w.heap.size a (m-a) (m-a) t (Qfj l m) 5 rfl rfl hb1 (by rw [Qdf];omega);rw [← HP.out] at hcp;have hb2:Qq7 (w1.setRow w.heap.size (Lib.byteCells (putD l a t)).toArray) w.heap.size (putD l a t):=setRow_heap _ _ _ _ _ _ hb1;have hb3:=Qg6 hb (Nat.le_refl _) (Lib.byteCells (putD l a t)).toArray;obtain ⟨W,hW⟩:∃ W,W=w1.setRow w.heap.size (Lib.byteCells (putD l a t)).toArray:=⟨_,rfl⟩
    rw [← hW] at hcp hb2 hb3;have hk:=Qff hb2;rw [HL.out] at hk;clear hW
    go_wp2_with fail
    go_ret2
    exact ⟨by rw [HC.out];rfl,hb3⟩
   ·have hmq:(l.length:Int)=m:=by have:=HM.out;omega
    rw [hmq];refine (Qin l m _ hl hmb).mono ?_;rintro e w1 ⟨rfl,hb1,hb⟩;have hcp:=Qf0 (P:=Tryz.prog) w1 198 9 3 5 w.heap.size a (m-a) (m-a) t (Qfj l m) 5 rfl rfl hb1 (by rw [Qdf];omega);rw [← HP.out] at hcp;have hb2:Qq7 (w1.setRow w.heap.size (Lib.byteCells (putD l a t)).toArray) w.heap.size (putD l a t):=setRow_heap _ _ _ _ _ _ hb1;have hb3:=Qg6 hb (Nat.le_refl _) (Lib.byteCells (putD l a t)).toArray;obtain ⟨W,hW⟩:∃ W,W=w1.setRow w.heap.size (Lib.byteCells (putD l a t)).toArray:=⟨_,rfl⟩
    rw [← hW] at hcp hb2 hb3;have hk:=Qff hb2;rw [HL.out] at hk;clear hW
    go_wp2_with fail
    go_ret2
    exact ⟨by rw [HC.out];rfl,hb3⟩
 ·have hc:Qbe l a t=(l,Qba a t.length):=if_neg h;obtain ⟨z,hz⟩:∃ z,z=Qba a t.length:=⟨_,rfl⟩
  rw [← hz] at h hc;have HZ:=Lib.hid hz;have HC:=Lib.hid hc;have hq:(z==0)=false:=by simpa using h
  clear hc hz h
  go_enter Tryz.func176,Tryz.ntmps176
  go_wp2_with fail
  refine (Qed a t.length _ h1 h2 (by omega) (by omega)).mono ?_;rintro e w1 ⟨rfl,rfl⟩;rw [← HZ.out]
  go_wp2_with fail
  go_ret2
  exact ⟨by rw [HC.out];rfl,Below.refl _ _⟩
end Go.Proofs.YtahlldgocpabjaaGreat

set_option linter.unusedVariables false
set_option linter.unusedSimpArgs false
namespace Go.Proofs.YtahlldgocpabjaaGreat
open Go Go.RowKit Copyhold Go.Proofs.Tryz
theorem ra3 {D:Nat→Prop} {w:World} {x y z:AV} {vs:Array Value} (h:Qc0 D w [x,y,z] vs):∃ u v t,vs=#[u,v,t]∧Ra D w x u∧Ra D w y v∧Ra D w z t:=by
 obtain ⟨h1,h2⟩:=h
 match vs,h1 with
 | ⟨[u,v,t]⟩,_=>exact ⟨u,v,t,rfl,h2 0 x u rfl rfl,h2 1 y v rfl rfl,h2 2 z t rfl rfl⟩
theorem Qzf (s:Txt) (a b:Int) (hs:s.length≤1000000) (ha:I64 a) (hb:I64 b):Qaf prog 175 [aS s,aI a,aI b] (.tup [aS (Qd7 s a b).1,aI (Qd7 s a b).2]):=Qb6 (Qfy _ _) fun D w vs h=>by
 obtain ⟨u,v,t,rfl,hu,hv,ht⟩:=ra3 h;cases hu;cases hv;cases ht;exact (Zee s a b w (by omega) ha.1 ha.2 hb.1 hb.2).mono fun e w' ⟨g1,g2⟩=>⟨g1,g2 ▸ Below.refl _ _⟩
theorem Qu8 (s:Txt) (a:Int) (t:Txt) (hs:s.length≤1000000) (ha:I64 a) (ht:t.length≤1000000):Qaf prog 176 [aS s,aI a,aS t] (.tup [aS (Qbe s a t).1,aI (Qbe s a t).2]):=Qb6 (Qfy _ _) fun D w vs h=>by
 obtain ⟨u,v,x,rfl,hu,hv,hx⟩:=ra3 h;cases hu;cases hv;cases hx;exact Qzi s a t w (by omega) (by omega) ha.1 ha.2
theorem Zed (s:Txt) (n:Int) (hs:s.length≤1000000) (hn:I64 n):Qaf prog 178 [aS s,aI n] (.tup [aS (cutD s n).1,aI (cutD s n).2]):=Qb6 (Qfy _ _) fun D w vs h=>by
 obtain ⟨u,v,rfl,hu,hv⟩:=Qc0.two h;cases hu;cases hv;exact Zil s n w (by omega) hn.1 hn.2
theorem Qu9 (l:List Ent) (hl:l.length≤1000000):Qaf prog 149 [.sl 2 false (l.map entA)] (.sl 1 false ((l.map Ent.name).map txA)):=by
 intro D w vs hD hv;obtain ⟨u,rfl,hu⟩:=Qc0.one hv;obtain ⟨A,c,rfl,he⟩:=Qhu hu;refine (callsIn_wide.1 (Zja 3 (Nat.le_refl _) A c (lI l) (by rw [Zc0];exact hl) w he)).mono ?_;rintro e w' ⟨v,rfl,hown,hb⟩;have hrow:=Row.of_owns hown;have e1:(lI l).map (fun x=>strV x.1)=(l.map Ent.name).map strV:=by simp [lI]
 rw [e1] at hrow;refine ⟨v,fun b=>D b∨(w.heap.size≤b∧b<w'.heap.size),rfl,hb,fun b h=>.inl h,fun b h=>?_,Zfm hrow (Zmj (At.of_owns hown) hrow.lies fun b h1 h2=>.inr ⟨h1,h2⟩)⟩;rcases h with h | ⟨h1,h2⟩
 ·exact ⟨Nat.lt_of_lt_of_le (hD b h) hb.size,.inl h⟩
 ·exact ⟨h2,.inr h1⟩
def Qgl (n:Nod):Int:=if n.kind=2 then (n.l.length:Int) else (n.text.length:Int)
structure Cal where
 kind:Int
 ino:Int
 to:Int
 at_:Int
 many:Int
 name:Txt
 name2:Txt
 text:Txt
structure Rep where
 e:Int
 a:Int
 b:Int
 n:Int
 text:Txt
 names:List Txt
 deriving DecidableEq
def calA (c:Cal):List AV:=[aI c.kind,aI c.ino,aI c.to,aI c.at_,aI c.many,aS c.name,aS c.name2,aS c.text]
def repA (r:Rep):List AV:=[aI r.e,aI r.a,aI r.b,aI r.n,aS r.text,.sl 1 false (r.names.map txA)]
def errR (e:Int):Rep:=⟨e,0,0,0,[],[]⟩
structure OkCal (c:Cal):Prop where
 kind:I64 c.kind
 ino:I64 c.ino
 to:I64 c.to
 at_:I64 c.at_
 many:I64 c.many
 name:c.name.length≤1000000
 name2:c.name2.length≤1000000
 text:c.text.length≤1000000
theorem Qgk (n:Nod):Qaf prog 174 [.agg (nodA n)] (aI (Qgl n)):=by
 exact Qac func174 (
 .new fun b1=>.r 1<|.u 3 [b1]<|
 .be 5 n.kind 2 (fun p1=>.u 3 [b1]<|
 .lm 8 n.l entA<|.r 1<|.f (aI (Qgl n)) [] (aI (n.l.length:Int)) (by exact Sub.of_eq (congrArg aI (by unfold Qgl;simp_all))))
 <| fun p1=>.u 4 [b1]<|
 .f (aI (Qgl n)) [] (aI ((n.text).length:Int)) (by exact Sub.of_eq (congrArg aI (by unfold Qgl;simp_all))))
def ofE (f:Fsy) (i k:Int):Int:=if Qau f i=true then (if (Qaa f i).kind=k then 0 else 14) else 6
def ofN (f:Fsy) (i k:Int):Nod:=if ofE f i k=0 then Qaa f i else nod0
def Qd3 (n:Nod) (t:Txt):Nod:=⟨n.ino,n.kind,n.links,t,n.l⟩
noncomputable def Qy2 (f:Fsy) (c:Cal):Fsy × Rep:=(f,⟨Qa3 f c.ino c.name,(lookN f c.ino c.name).ino,0,0,[],[]⟩)
def Qiw (f:Fsy) (c:Cal):Fsy × Rep:=if Qau f c.ino=true then (f,⟨0,(Qaa f c.ino).kind,(Qaa f c.ino).links,Qgl (Qaa f c.ino),[],[]⟩) else (f,errR 6)
def Qi4 (f:Fsy) (c:Cal):Fsy × Rep:=if ofE f c.ino 1=0 then (f,⟨(Qd7 (Qaa f c.ino).text c.at_ c.many).2,0,0,0,(Qd7 (Qaa f c.ino).text c.at_ c.many).1,[]⟩) else (f,errR (ofE f c.ino 1))
def Qey (f:Fsy) (c:Cal):Fsy × Rep:=if ofE f c.ino 1=0 then (putF f (Qd3 (Qaa f c.ino) (Qbe (Qaa f c.ino).text c.at_ c.text).1),⟨(Qbe (Qaa f c.ino).text c.at_ c.text).2,(c.text.length:Int),0,0,[],[]⟩) else (f,errR (ofE f c.ino 1))
def cutO (f:Fsy) (c:Cal):Fsy × Rep:=if ofE f c.ino 1=0 then (putF f (Qd3 (Qaa f c.ino) (cutD (Qaa f c.ino).text c.many).1),errR (cutD (Qaa f c.ino).text c.many).2) else (f,errR (ofE f c.ino 1))
noncomputable def addO (f:Fsy) (c:Cal) (n:Nod):Fsy × Rep:=(if Qaq f c.ino c.name n=0 then addF f c.ino c.name (addN f n) else f,⟨Qaq f c.ino c.name n,f.next,0,0,[],[]⟩)
noncomputable def symO (f:Fsy) (c:Cal):Fsy × Rep:=if (c.text.length:Int)>4096 then (f,errR 5) else addO f c ⟨0,3,0,c.text,[]⟩
noncomputable def Qcs (f:Fsy) (c:Cal) (dir:Bool) (odd:Int):Fsy × Rep:=
 if Qa3 f c.ino c.name=0 then (if (((lookN f c.ino c.name).kind==2) != dir)=true then (f,errR odd) else (Qd6 f c.ino c.name,errR (Qbf f c.ino c.name))) else (f,errR (Qa3 f c.ino c.name))
noncomputable def Quz (f:Fsy) (c:Cal):Fsy × Rep:=(Qc4 f c.ino c.name c.to,errR (Qa6 f c.ino c.name c.to))
noncomputable def renO (f:Fsy) (c:Cal):Fsy × Rep:=(movF f c.ino c.name c.to c.name2,errR (Qa8 f c.ino c.name c.to c.name2))
def Quc (f:Fsy) (c:Cal):Fsy × Rep:=(f,⟨ofE f c.ino 3,0,0,0,(ofN f c.ino 3).text,[]⟩)
def Qyq (f:Fsy) (c:Cal):Fsy × Rep:=(f,⟨dirE f c.ino,0,0,0,[],(dirN f c.ino).l.map Ent.name⟩)
def txtS (l:List Nod):Nat:=(l.map fun n=>n.text.length).sum
def sfsO (f:Fsy):Fsy × Rep:=(f,⟨0,(f.l.length:Int),(txtS f.l:Int),0,[],[]⟩)
theorem Zb9 {f:Fsy} {i k:Int} (h:Qau f i=false):ofE f i k=6∧ofN f i k=nod0:=by
 have e:ofE f i k=6:=by unfold ofE;rw [h];rfl
 exact ⟨e,by unfold ofN;rw [e];rfl⟩
theorem Qry {f:Fsy} {i k:Int} (h:Qau f i=true) (h2:¬ (Qaa f i).kind=k):ofE f i k=14∧ofN f i k=nod0:=by
 have e:ofE f i k=14:=by unfold ofE;rw [if_pos h,if_neg h2]
 exact ⟨e,by unfold ofN;rw [e];rfl⟩
theorem Quq {f:Fsy} {i k:Int} (h:Qau f i=true) (h2:(Qaa f i).kind=k):ofE f i k=0∧ofN f i k=Qaa f i:=by
 have e:ofE f i k=0:=by unfold ofE;rw [if_pos h,if_pos h2]
 exact ⟨e,by unfold ofN;rw [e];rfl⟩
theorem Qwh {f:Fsy} {i k:Int} (h:ofE f i k=0):ofN f i k=Qaa f i:=if_pos h
theorem Qbn (e a b n:Int) (t:Txt):Sub (.agg [aI e,aI a,aI b,aI n,aS t,aN]) (.agg (repA ⟨e,a,b,n,t,[]⟩)):=Sub.aggs ⟨sR,sR,sR,sR,sR,Sub.nil _ _,trivial⟩
theorem Qfd {f:Fsy} (hp:Qam f) (i:Int):(Qaa f i).text.length≤4096:=by
 by_cases h:Qau f i=true
 ·rcases ((Qbg.1 hp).2.2.1 _ (Qfa h)).1.2.2.2 with ⟨_,h1,_⟩ | ⟨_,h1,_⟩
  ·rw [h1];decide
  ·exact h1
 ·rw [(Qtf (Qg8 (by simpa using h))).2];decide
theorem Qle {f:Fsy} (hp:Qam f) {n:Nod} (hn:n∈f.l):n.text.length≤4096:=by
 rcases ((Qbg.1 hp).2.2.1 _ hn).1.2.2.2 with ⟨_,h1,_⟩ | ⟨_,h1,_⟩
 ·rw [h1];decide
 ·exact h1
theorem Qpz (f:Fsy) (i k:Int) (hp:Qam f):Qaf prog 147 [.agg (fsyA f),aI i,aI k] (.tup [.agg (nodA (ofN f i k)),aI (ofE f i k)]):=by
 have hl:=hp.1;have hr:=Qad hp;exact Qac func147 (
 .new fun b1=>.new fun b2=>.r 1<|.u 2 [b1]<|
 .call (Qb4 f i (by omega) hr)<|
 .r 3<|.new fun b3=>.u 2 [b3]<|
 .r 2<|.br 17 (!(Qau f i)) (fun q1=>have q1:=notT q1;have p1:=booF q1;.u 3 [b2]<|
 .f (.tup [.agg (nodA (ofN f i k)),aI (ofE f i k)]) [b2] (.tup [.agg [aI 0,aI 0,aI 0,aS ([]),aN],aI 6]) (by
  obtain ⟨e1,e2⟩:=Zb9 (k:=k) q1;exact Sub.tups ⟨Qdk e2,Sub.of_eq (congrArg aI e1.symm),trivial⟩))
 <| fun q1=>have q1:=notF q1;have p1:=booT q1;.u 4 [b3]<|
 .br 22 (((Qaa f i).kind) != k) (fun q2=>have p2:=bneT q2;.u 3 [b2]<|
 .f (.tup [.agg (nodA (ofN f i k)),aI (ofE f i k)]) [b2] (.tup [.agg [aI 0,aI 0,aI 0,aS ([]),aN],aI 14]) (by
  obtain ⟨e1,e2⟩:=Qry q1 (bneT q2);exact Sub.tups ⟨Qdk e2,Sub.of_eq (congrArg aI e1.symm),trivial⟩))
 <| fun q2=>have p2:=bneF q2;.u 3 [b3,b2]<|
 .f (.tup [.agg (nodA (ofN f i k)),aI (ofE f i k)]) [b2] (.tup [.agg [aI ((Qaa f i).ino),aI ((Qaa f i).kind),aI ((Qaa f i).links),aS ((Qaa f i).text),.sl 2 false ((Qaa f i).l.map entA)],aI 0]) (by
  obtain ⟨e1,e2⟩:=Quq q1 (bneF q2);rw [e1,e2];exact sR))
theorem Qzg (f:Fsy) (c:Cal) (okf:OkF f) (okc:OkCal c) (hp:Qam f):Qaf prog 130 [.agg (fsyA f),.agg [aI c.kind,aI c.ino,aI c.to,aI c.at_,aI c.many,aS c.name,aS c.name2,aS c.text]] (.tup [.agg (fsyA (Qy2 f c).1),.agg (repA (Qy2 f c).2)]):=by
 have hl:=hp.1;have hr:=Qad hp;have hcn:=okc.name;have hcn2:=okc.name2;have hct:=okc.text;exact Qac func130 (let R:AV:=.tup [.agg (fsyA (Qy2 f c).1),.agg (repA (Qy2 f c).2)];
 .new fun b1=>.new fun b2=>.new fun b3=>.new fun b4=>.u 5 [b1,b2,b2]<|
 .call (Qji f c.ino c.name hp hcn)<|
 .r 3<|.new fun b5=>.u 2 [b5]<|
 let J1:Jn (Unit):=⟨fun j1=>⟨[(4,.ptr 4 b3 0),(5,.ptr 5 b4 0)],[(4,.box b3 28 (fsyA f)),(5,.box b4 45 [aI (Qa3 f c.ino c.name),aI ((lookN f c.ino c.name).ino),aI 0,aI 0,aS ([]),aN])]⟩,fun _=>True⟩
 .cut J1 (.pick [0,1,2]<|.u 3 [b1]<|
 .fork<|.alt (.u 1 [b5]<|
 .pick [4,5,6]<|.u 3 [b3,b4]<|
 .jo J1 () [] [] sr2 bb2)
 <| .u 1 [b3]<|
 .pick [3,4,6]<|.u 3 [b5,b4]<|
 .jo J1 () [] [] sr2 bb2)
 <| fun _ _=>.f R [b3,b4] (.tup [.agg (fsyA f),.agg [aI (Qa3 f c.ino c.name),aI ((lookN f c.ino c.name).ino),aI 0,aI 0,aS ([]),aN]]) (by exact Sub.tups ⟨sR,(Qbn _ _ _ _ _),trivial⟩))
theorem Qze (f:Fsy) (c:Cal) (okf:OkF f) (okc:OkCal c) (hp:Qam f):Qaf prog 131 [.agg (fsyA f),.agg [aI c.kind,aI c.ino,aI c.to,aI c.at_,aI c.many,aS c.name,aS c.name2,aS c.text]] (.tup [.agg (fsyA (Qiw f c).1),.agg (repA (Qiw f c).2)]):=by
 have hl:=hp.1;have hr:=Qad hp;have hcn:=okc.name;have hcn2:=okc.name2;have hct:=okc.text;exact Qac func131 (
 .new fun b1=>.new fun b2=>.new fun b3=>.new fun b4=>.u 3 [b1,b2]<|
 .call (Qb4 f c.ino (by omega) hr)<|
 .r 3<|.new fun b5=>.u 2 [b5]<|
 .r 2<|.br 16 (!(Qau f c.ino)) (fun q1=>have q1:=notT q1;have p1:=booF q1;.u 4 [b1,b3,b4]<|
 .f (.tup [.agg (fsyA (Qiw f c).1),.agg (repA (Qiw f c).2)]) [b3,b4] (.tup [.agg (fsyA f),.agg [aI 6,aI 0,aI 0,aI 0,aS ([]),aN]]) (by
  have e:Qiw f c=_:=if_neg (by rw [q1];decide);rw [e];exact Sub.tups ⟨sR,(Qbn _ _ _ _ _),trivial⟩))
 <| fun q1=>have q1:=notF q1;have p1:=booT q1;let J1:Jn (Unit):=⟨fun j1=>⟨[(4,.ptr 4 b3 0),(5,.ptr 5 b4 0)],[(4,.box b3 28 (fsyA f)),(5,.box b4 45 [aI 0,aI ((Qaa f c.ino).kind),aI ((Qaa f c.ino).links),aI (Qgl (Qaa f c.ino)),aS ([]),aN])]⟩,fun _=>True⟩
 .cut J1 (.pick [0,1,3,5]<|.u 4 [b1,b5]<|
 .fork<|.alt (.u 1 [b5]<|
 .fork<|.alt (.u 1 [b5]<|
 .pick [6,7,8,9]<|.call (Qgk (Qaa f c.ino))<|
 .u 3 [b3,b4]<|
 .jo J1 () [] [] sr2 bb2)
 <| .call (Qgk (Qaa f c.ino))<|
 .fork<|.alt (.u 1 [b5]<|
 .pick [7,8,9]<|.u 3 [b3,b4]<|
 .jo J1 () [] [] sr2 bb2)
 <| .u 1 [b3]<|
 .pick [4,7,9]<|.u 3 [b5,b4]<|
 .jo J1 () [] [] sr2 bb2)
 <| .alt (.u 1 [b5]<|
 .fork<|.alt (.u 1 [b5]<|
 .pick [6,7,8,9]<|.call (Qgk (Qaa f c.ino))<|
 .u 3 [b3,b4]<|
 .jo J1 () [] [] sr2 bb2)
 <| .call (Qgk (Qaa f c.ino))<|
 .fork<|.alt (.u 1 [b5]<|
 .pick [7,8,9]<|.u 3 [b3,b4]<|
 .jo J1 () [] [] sr2 bb2)
 <| .u 1 [b3]<|
 .pick [2,7,9]<|.u 3 [b5,b4]<|
 .jo J1 () [] [] sr2 bb2)
 <| .call (Qgk (Qaa f c.ino))<|
 .fork<|.alt (.u 1 [b5]<|
 .fork<|.alt (.u 1 [b5]<|
 .pick [7,8,9]<|.u 3 [b3,b4]<|
 .jo J1 () [] [] sr2 bb2)
 <| .u 1 [b3]<|
 .pick [4,7,9]<|.u 3 [b5,b4]<|
 .jo J1 () [] [] sr2 bb2)
 <| .alt (.u 1 [b5]<|
 .fork<|.alt (.u 1 [b5]<|
 .pick [7,8,9]<|.u 3 [b3,b4]<|
 .jo J1 () [] [] sr2 bb2)
 <| .u 1 [b3]<|
 .pick [2,7,9]<|.u 3 [b5,b4]<|
 .jo J1 () [] [] sr2 bb2)
 <| .u 1 [b3]<|
 .pick [2,4,7,9]<|.u 4 [b5,b5,b4]<|
 .jo J1 () [] [] sr2 bb2)
 <| fun _ _=>.f (.tup [.agg (fsyA (Qiw f c).1),.agg (repA (Qiw f c).2)]) [b3,b4] (.tup [.agg (fsyA f),.agg [aI 0,aI ((Qaa f c.ino).kind),aI ((Qaa f c.ino).links),aI (Qgl (Qaa f c.ino)),aS ([]),aN]]) (by
  have e:Qiw f c=_:=if_pos q1;rw [e];exact Sub.tups ⟨sR,(Qbn _ _ _ _ _),trivial⟩))
theorem Zl2 (f:Fsy) (c:Cal) (okf:OkF f) (okc:OkCal c) (hp:Qam f):Qaf prog 132 [.agg (fsyA f),.agg [aI c.kind,aI c.ino,aI c.to,aI c.at_,aI c.many,aS c.name,aS c.name2,aS c.text]] (.tup [.agg (fsyA (Qi4 f c).1),.agg (repA (Qi4 f c).2)]):=by
 have hl:=hp.1;have hr:=Qad hp;have hcn:=okc.name;have hcn2:=okc.name2;have hct:=okc.text;exact Qac func132 (
 .new fun b1=>.new fun b2=>.new fun b3=>.new fun b4=>.u 3 [b1,b2]<|
 .call (Qpz f c.ino 1 hp)<|
 .r 3<|.new fun b5=>.u 2 [b5]<|
 .r 2<|.br 17 ((ofE f c.ino 1) != 0) (fun q1=>have p1:=bneT q1;.u 5 [b1,b3,b4]<|
 .f (.tup [.agg (fsyA (Qi4 f c).1),.agg (repA (Qi4 f c).2)]) [b3,b4] (.tup [.agg (fsyA f),.agg [aI (ofE f c.ino 1),aI 0,aI 0,aI 0,aS ([]),aN]]) (by
  have e:Qi4 f c=_:=if_neg (bneT q1);rw [e];exact Sub.tups ⟨sR,(Qbn _ _ _ _ _),trivial⟩))
 <| fun q1=>have p1:=bneF q1;have eo:=Qwh (show ofE f c.ino 1=0 from bneF q1);.u 6 [b5,b2,b2]<|
 .cs (args0:=[aS ((ofN f c.ino 1).text),aI c.at_,aI c.many]) (Qzf (Qaa f c.ino).text c.at_ c.many (by have:=Qfd hp c.ino;omega) okc.at_ okc.many) ⟨by rw [eo];exact sR,sR,sR,trivial⟩<|
 .r 5<|.u 6 [b1,b3,b4]<|
 .f (.tup [.agg (fsyA (Qi4 f c).1),.agg (repA (Qi4 f c).2)]) [b3,b4] (.tup [.agg (fsyA f),.agg [aI ((Qd7 (Qaa f c.ino).text c.at_ c.many).2),aI 0,aI 0,aI 0,aS ((Qd7 (Qaa f c.ino).text c.at_ c.many).1),aN]]) (by
  have e0:ofE f c.ino 1=0:=bneF q1;have e:Qi4 f c=_:=if_pos e0;rw [e];exact Sub.tups ⟨sR,(Qbn _ _ _ _ _),trivial⟩))
theorem Zh3 (f:Fsy) (c:Cal) (okf:OkF f) (okc:OkCal c) (hp:Qam f):Qaf prog 133 [.agg (fsyA f),.agg [aI c.kind,aI c.ino,aI c.to,aI c.at_,aI c.many,aS c.name,aS c.name2,aS c.text]] (.tup [.agg (fsyA (Qey f c).1),.agg (repA (Qey f c).2)]):=by
 have hl:=hp.1;have hr:=Qad hp;have hcn:=okc.name;have hcn2:=okc.name2;have hct:=okc.text;exact Qac func133 (
 .new fun b1=>.new fun b2=>.new fun b3=>.new fun b4=>.u 3 [b1,b2]<|
 .call (Qpz f c.ino 1 hp)<|
 .r 3<|.new fun b5=>.u 2 [b5]<|
 .r 2<|.br 16 ((ofE f c.ino 1) != 0) (fun q1=>have p1:=bneT q1;.u 5 [b1,b3,b4]<|
 .f (.tup [.agg (fsyA (Qey f c).1),.agg (repA (Qey f c).2)]) [b3,b4] (.tup [.agg (fsyA f),.agg [aI (ofE f c.ino 1),aI 0,aI 0,aI 0,aS ([]),aN]]) (by
  have e:Qey f c=_:=if_neg (bneT q1);rw [e];exact Sub.tups ⟨sR,(Qbn _ _ _ _ _),trivial⟩))
 <| fun q1=>have p1:=bneF q1;have eo:=Qwh (show ofE f c.ino 1=0 from bneF q1);.u 6 [b5,b2,b2]<|
 .cs (args0:=[aS ((ofN f c.ino 1).text),aI c.at_,aS c.text]) (Qu8 (Qaa f c.ino).text c.at_ c.text (by have:=Qfd hp c.ino;omega) okc.at_ hct) ⟨by rw [eo];exact sR,sR,sR,trivial⟩<|
 .u 6 [b5]<|
 let J1:Jn (Unit):=⟨fun j1=>⟨[(4,.ptr 4 b3 0),(5,.ptr 5 b4 0)],[(4,.box b3 28 [.sl 5 false ((putF f (Qd3 (Qaa f c.ino) (Qbe (Qaa f c.ino).text c.at_ c.text).1)).l.map nodA),aI ((putF f (Qd3 (Qaa f c.ino) (Qbe (Qaa f c.ino).text c.at_ c.text).1)).next)]),(5,.box b4 45 [aI ((Qbe (Qaa f c.ino).text c.at_ c.text).2),aI ((c.text).length:Int),aI 0,aI 0,aS ([]),aN])]⟩,fun _=>True⟩
 .cut J1 (.pick [0,1,3,4]<|.u 4 [b1,b5]<|
 .fork<|.alt (.cs (args0:=[.agg (fsyA f),.agg [aI ((ofN f c.ino 1).ino),aI ((ofN f c.ino 1).kind),aI ((ofN f c.ino 1).links),aS ((Qbe (Qaa f c.ino).text c.at_ c.text).1),.sl 2 false ((ofN f c.ino 1).l.map entA)]]) (Qe5 f (Qd3 (Qaa f c.ino) (Qbe (Qaa f c.ino).text c.at_ c.text).1) (Qb0 okf hp c.ino) (by omega) hr) ⟨sR,by rw [eo];exact sR,trivial⟩<|
 .fork<|.alt (.u 1 [b2]<|
 .pick [6,7,8,9]<|.u 4 [b3,b4]<|
 .jo J1 () [] [] sr2 bb2)
 <| .u 1 [b3]<|
 .pick [5,6,7,9]<|.u 4 [b2,b4]<|
 .jo J1 () [] [] sr2 bb2)
 <| .u 1 [b2]<|
 .pick [6,7,2,8,9]<|.r 2<|.cs (args0:=[.agg (fsyA f),.agg [aI ((ofN f c.ino 1).ino),aI ((ofN f c.ino 1).kind),aI ((ofN f c.ino 1).links),aS ((Qbe (Qaa f c.ino).text c.at_ c.text).1),.sl 2 false ((ofN f c.ino 1).l.map entA)]]) (Qe5 f (Qd3 (Qaa f c.ino) (Qbe (Qaa f c.ino).text c.at_ c.text).1) (Qb0 okf hp c.ino) (by omega) hr) ⟨sR,by rw [eo];exact sR,trivial⟩<|
 .u 2 [b3,b4]<|
 .jo J1 () [] [] sr2 bb2)
 <| fun _ _=>.f (.tup [.agg (fsyA (Qey f c).1),.agg (repA (Qey f c).2)]) [b3,b4] (.tup [.agg [.sl 5 false ((putF f (Qd3 (Qaa f c.ino) (Qbe (Qaa f c.ino).text c.at_ c.text).1)).l.map nodA),aI ((putF f (Qd3 (Qaa f c.ino) (Qbe (Qaa f c.ino).text c.at_ c.text).1)).next)],.agg [aI ((Qbe (Qaa f c.ino).text c.at_ c.text).2),aI ((c.text).length:Int),aI 0,aI 0,aS ([]),aN]]) (by
  have e0:ofE f c.ino 1=0:=bneF q1;have e:Qey f c=_:=if_pos e0;rw [e];exact Sub.tups ⟨sR,(Qbn _ _ _ _ _),trivial⟩))
theorem dcut_o (f:Fsy) (c:Cal) (okf:OkF f) (okc:OkCal c) (hp:Qam f):Qaf prog 134 [.agg (fsyA f),.agg [aI c.kind,aI c.ino,aI c.to,aI c.at_,aI c.many,aS c.name,aS c.name2,aS c.text]] (.tup [.agg (fsyA (cutO f c).1),.agg (repA (cutO f c).2)]):=by
 have hl:=hp.1;have hr:=Qad hp;have hcn:=okc.name;have hcn2:=okc.name2;have hct:=okc.text;exact Qac func134 (
 .new fun b1=>.new fun b2=>.new fun b3=>.new fun b4=>.u 3 [b1,b2]<|
 .call (Qpz f c.ino 1 hp)<|
 .r 3<|.new fun b5=>.u 2 [b5]<|
 .r 2<|.br 16 ((ofE f c.ino 1) != 0) (fun q1=>have p1:=bneT q1;.u 5 [b1,b3,b4]<|
 .f (.tup [.agg (fsyA (cutO f c).1),.agg (repA (cutO f c).2)]) [b3,b4] (.tup [.agg (fsyA f),.agg [aI (ofE f c.ino 1),aI 0,aI 0,aI 0,aS ([]),aN]]) (by
  have e:cutO f c=_:=if_neg (bneT q1);rw [e];exact Sub.tups ⟨sR,(Qbn _ _ _ _ _),trivial⟩))
 <| fun q1=>have p1:=bneF q1;have eo:=Qwh (show ofE f c.ino 1=0 from bneF q1);.u 4 [b5,b2]<|
 .cs (args0:=[aS ((ofN f c.ino 1).text),aI c.many]) (Zed (Qaa f c.ino).text c.many (by have:=Qfd hp c.ino;omega) okc.many) ⟨by rw [eo];exact sR,sR,trivial⟩<|
 .u 6 [b5]<|
 .u 2 [b1,b5]<|
 .cs (args0:=[.agg (fsyA f),.agg [aI ((ofN f c.ino 1).ino),aI ((ofN f c.ino 1).kind),aI ((ofN f c.ino 1).links),aS ((cutD (Qaa f c.ino).text c.many).1),.sl 2 false ((ofN f c.ino 1).l.map entA)]]) (Qe5 f (Qd3 (Qaa f c.ino) (cutD (Qaa f c.ino).text c.many).1) (Qb0 okf hp c.ino) (by omega) hr) ⟨sR,by rw [eo];exact sR,trivial⟩<|
 .u 4 [b3,b4]<|
 .f (.tup [.agg (fsyA (cutO f c).1),.agg (repA (cutO f c).2)]) [b3,b4] (.tup [.agg [.sl 5 false ((putF f (Qd3 (Qaa f c.ino) (cutD (Qaa f c.ino).text c.many).1)).l.map nodA),aI ((putF f (Qd3 (Qaa f c.ino) (cutD (Qaa f c.ino).text c.many).1)).next)],.agg [aI ((cutD (Qaa f c.ino).text c.many).2),aI 0,aI 0,aI 0,aS ([]),aN]]) (by
  have e0:ofE f c.ino 1=0:=bneF q1;have e:cutO f c=_:=if_pos e0;rw [e];exact Sub.tups ⟨sR,(Qbn _ _ _ _ _),trivial⟩))
end Go.Proofs.YtahlldgocpabjaaGreat
