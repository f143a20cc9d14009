import Derived.Lib.BufferWrite
import Derived.Laws.IdiomStrings
import Derived.Laws.MakeOwn
import Derived.Test.YtahlldgocpabjaaGreatMrgA
import Derived.Test.YtahlldgocpabjaaGreatMrgW
import Derived.Test.YtahlldgocpabjaaGreatMrgV
set_option maxRecDepth 100000
set_option maxHeartbeats 8000000
namespace Copyhold
open Go Go.RowKit
theorem Qgv {P:Program} (w:World) (dT sT ty elem:TypeId) (g o dLen dCap:Nat) (l:List UInt8) (cur:List UInt8) (t:TypeId)
  (hu:P.underlying dT=some (.slice elem)) (hs:(P.info? elem).map (·.size)=some 1) (hg:w.heap[g]?=some (.cells (Lib.byteCells cur).toArray t (0,0))) (hfit:o+dLen=cur.length) :
  (Builtin.copy_ #[dT,sT] ty #[.slice (some ⟨g,o,none⟩) dLen dCap,.string ⟨l.toArray⟩]).run P w =
   .ok (goInt (Nat.min l.length dLen)) (w.setRow g (Lib.byteCells (cur.take o++l.take dLen++cur.drop (o+l.length))).toArray):=by
 have hsz:(⟨l.toArray⟩:ByteArray).size=l.length:=by simp [ByteArray.size]
 have hlen:(Lib.byteCells (l.take dLen)).length=Nat.min l.length dLen:=by rw [Lib.byteCells_length,List.length_take,Nat.min_comm]
 have hcl:(Lib.byteCells cur).length=cur.length:=Lib.byteCells_length _;have hst:=run_storeCells_at P g o t (Lib.byteCells (l.take dLen)) 0 (Lib.byteCells cur).toArray w hg (by rw [hlen];simp [hcl];have:Nat.min l.length dLen≤dLen:=Nat.min_le_right l.length dLen;omega) (Lib.byteCells_one _);have htk:List.take (Nat.min l.length dLen) (List.map (fun b:UInt8=>Value.int IntKind.u8 (b.toNat:Int)) l)=Lib.byteCells (l.take dLen):=by
  unfold Lib.byteCells;rw [List.map_take];show List.take (min l.length dLen) _=_;rw [List.take_eq_take_iff];simp;omega
 have hrow:((Lib.byteCells cur).take o++Lib.byteCells (l.take dLen)++(Lib.byteCells cur).drop (o+Nat.min l.length dLen))=Lib.byteCells (cur.take o++l.take dLen++cur.drop (o+l.length)):=by
  unfold Lib.byteCells;rw [List.map_append,List.map_append,List.map_take,List.map_take,List.map_drop];congr 1;show List.drop (o+min l.length dLen) _=_;rw [List.drop_eq_drop_iff];simp;omega
 rw [hlen] at hst;simp only [Nat.add_zero] at hst;rw [hrow] at hst;cases hq:P.info? elem with
 | none=>simp [hq] at hs
 | some i=>
  simp [Builtin.copy_,run_underlying hu,Builtin.lenOf,Builtin.firstCells,Go.sizeOf,typeInfo,hq,hsz];rw [htk,hst];simp [Result.andThen,List.append_assoc]
theorem Zd9 (n:Nat):madeCells (Value.int .u8 0).cells n=(Lib.byteCells (List.replicate n 0)).toArray:=by
 unfold madeCells;have:(Value.int .u8 0).cells=#[Value.int .u8 0]:=rfl;rw [this];apply Array.ext
 ·simp [Lib.byteCells]
 ·intro i h1 h2;simp [Lib.byteCells,Nat.mod_one]
end Copyhold

set_option maxRecDepth 100000
namespace Go.Proofs.YtahlldgocpabjaaGreat
open Go.RowKit Copyhold
attribute [local go_sem] Zaa
def Qfz (l:List UInt8) (n:Nat):List UInt8:=l.take n++List.replicate (n-l.length) 0
theorem Qdu (l:List UInt8) (n:Nat):(Qfz l n).length=n:=by
 simp [Qfz];omega
def Qr1 (w:World) (g:Nat) (l:List UInt8):Prop:=w.heap[g]?=some (.cells (Lib.byteCells l).toArray 5 (0,0))
theorem Qoj (w:World) (n:Nat) (hn:n≤140737488355328):(Instr.makeSlice 198 (.int .i64 (n:Int)) (.int .i64 (n:Int))).run Tryz.prog w=.ok (.slice (some ⟨w.heap.size,0,none⟩) n n) (w.alloc (.cells (Lib.byteCells (List.replicate n 0)).toArray 5)):=by
 have h:=run_make (P:=Tryz.prog) w 198 5 _ (.int .u8 0) rfl rfl rfl .i64 .i64 (n:Int) (n:Int) (by omega) (by omega) (by show (1:Int)*_≤_;omega) (by omega);rw [Zd9,show (Tryz.prog.types[5]'(by decide)).size=1 from rfl,Nat.mul_one,Int.toNat_natCast] at h;exact h
theorem Qjg (l:List UInt8) (n:Nat) (w:World) (_hl:l.length≤140737488355328) (hn:n≤140737488355328) :
  Calls Tryz.prog 216 #[.string ⟨l.toArray⟩,.int .i64 n] w fun e w'=>e=.returned (.slice (some ⟨w.heap.size,0,none⟩) n n)∧Qr1 w' w.heap.size (Qfz l n)∧Below w.heap.size w w':=by
 have hmk:=Qoj w n hn;have hb:=(Below.refl w.heap.size w).alloc (Nat.le_refl _) (.cells (Lib.byteCells (List.replicate n 0)).toArray 5);have hg:=heap_alloc_new w (.cells (Lib.byteCells (List.replicate n 0)).toArray 5);obtain ⟨W,hW⟩:∃ W,W=w.alloc (.cells (Lib.byteCells (List.replicate n 0)).toArray 5):=⟨_,rfl⟩
 rw [← hW] at hmk hb hg;have hcp:=Qgv (P:=Tryz.prog) W 198 9 3 5 w.heap.size 0 n n l (List.replicate n 0) 5 rfl rfl hg (by simp);have hf:(List.replicate n (0:UInt8)).take 0++l.take n++(List.replicate n 0).drop (0+l.length)=Qfz l n:=by simp [Qfz]
 rw [hf] at hcp;have HB:=Lib.hid hb;have HG:=Lib.hid hg;clear hb hg hf hW
 go_enter Tryz.func216,Tryz.ntmps216
 go_wp2_with fail
 go_ret
 exact ⟨rfl,setRow_heap _ _ _ _ _ _ HG.out,Qh3 HB.out (Nat.le_refl _) _⟩
def cutD (l:List UInt8) (n:Int):List UInt8 × Int:=if Qbb 0 n=0 then (Qfz l n.toNat,0) else (l,Qbb 0 n)
theorem Qfu {w:World} {g:Nat} {l:List UInt8} (h:Qr1 w g l):(convert 198 9 (.slice (some ⟨g,0,none⟩) l.length l.length)).run Tryz.prog w=.ok (.string ⟨l.toArray⟩) w:=
 run_convert_bytes_back w _ _ 5 _ _ l rfl rfl rfl fun j hj=>by
  have hadd:(⟨g,0,none⟩:Addr).add j=⟨g,j,none⟩:=by unfold Addr.add;split<;>simp_all
  rw [hadd];simp only [World.cell?,show w.heap[g]?=some (.cells (Lib.byteCells l).toArray 5 (0,0)) from h];simp [Lib.byteCells,hj]
theorem Zj6 (l:List UInt8) (n:Int) (w:World) (hl:l.length≤140737488355328) (h1:-9223372036854775808≤n) (h2:n≤9223372036854775807) :
  Calls Tryz.prog 178 #[.string ⟨l.toArray⟩,.int .i64 n] w fun e w'=>e=.returned (.tuple #[.string ⟨(cutD l n).1.toArray⟩,.int .i64 (cutD l n).2])∧Below w.heap.size w w':=by
 by_cases h:Qbb 0 n=0
 ·have hn:0≤n∧n≤4096:=by
   unfold Qbb at h
   split at h
   ·split at h<;>omega
   ·cases h
  have hc:cutD l n=(Qfz l n.toNat,0):=if_pos h;obtain ⟨n,rfl⟩:=Int.eq_ofNat_of_zero_le hn.1;rw [Int.toNat_natCast] at hc;have HR:=Lib.hid h;have HC:=Lib.hid hc;clear h hc h1
  go_enter Tryz.func178,Tryz.ntmps178
  go_wp2_with fail
  refine (Qer 0 n _ (by decide) (by decide) (by omega) (by omega)).mono ?_;rintro e w1 ⟨rfl,rfl⟩;rw [HR.out]
  go_wp2_with fail
  refine (Qjg l n _ hl (by omega)).mono ?_;rintro e w1 ⟨rfl,hb1,hb⟩;have hk:=Qfu hb1;rw [Qdu] at hk
  go_wp2_with fail
  go_ret2
  exact ⟨by rw [HC.out];rfl,hb⟩
 ·have hc:cutD l n=(l,Qbb 0 n):=if_neg h;obtain ⟨z,hz⟩:∃ z,z=Qbb 0 n:=⟨_,rfl⟩
  rw [← hz] at h hc;have HZ:=Lib.hid hz;have HC:=Lib.hid hc;have hq:(z==0)=false:=by simpa using h
  clear hc hz h
  go_enter Tryz.func178,Tryz.ntmps178
  go_wp2_with fail
  refine (Qer 0 n _ (by decide) (by decide) h1 h2).mono ?_;rintro e w1 ⟨rfl,rfl⟩;rw [← HZ.out]
  go_wp2_with fail
  go_ret2
  exact ⟨by rw [HC.out];rfl,Below.refl _ _⟩
def putD (l:List UInt8) (a:Nat) (t:List UInt8):List UInt8:=
 (Qfz l (max l.length (a+t.length))).take a++t++(Qfz l (max l.length (a+t.length))).drop (a+t.length)
def Qbg (l:List UInt8) (a:Int) (t:List UInt8):List UInt8 × Int:=
 if Qbb a t.length=0 then (if t=[] then l else putD l a.toNat t,0) else (l,Qbb a t.length)
theorem Qgw {a b:Int} (h:Qbb a b=0):0≤a∧0≤b∧a+b≤4096:=by
 unfold Qbb at h
 split at h
 ·split at h<;>omega
 ·cases h
theorem Qm6 (l:List UInt8) (a:Nat) (t:List UInt8):(putD l a t).length=max l.length (a+t.length):=by
 unfold putD;simp [Qdu];omega
theorem Za2 (l:List UInt8) (a:Int) (t:List UInt8) (w:World) (hl:l.length≤140737488355328) (ht:t.length≤140737488355328) (h1:-9223372036854775808≤a) (h2:a≤9223372036854775807) :
  Calls Tryz.prog 176 #[.string ⟨l.toArray⟩,.int .i64 a,.string ⟨t.toArray⟩] w fun e w'=>e=.returned (.tuple #[.string ⟨(Qbg l a t).1.toArray⟩,.int .i64 (Qbg l a t).2])∧Below w.heap.size w w':=by
 by_cases h:Qbb a t.length=0
 ·have hn:=Qgw h;obtain ⟨a,rfl⟩:=Int.eq_ofNat_of_zero_le hn.1;rcases Classical.em (t=[]) with rfl | h0
  ·have hc:Qbg l a []=(l,0):=by unfold Qbg;rw [if_pos h,if_pos rfl]
   have HR:=Lib.hid h;have HC:=Lib.hid hc;clear h hc h1 hn
   go_enter Tryz.func176,Tryz.ntmps176
   go_wp2_with fail
   refine (Qer a 0 _ (by omega) (by omega) (by decide) (by decide)).mono ?_;rintro e w1 ⟨rfl,rfl⟩;rw [show Qbb a 0=0 from HR.out]
   go_wp2_with fail
   go_ret2
   exact ⟨by rw [HC.out];rfl,Below.refl _ _⟩
  ·have hc:Qbg l a t=(putD l a t,0):=by unfold Qbg;rw [if_pos h,if_neg h0,Int.toNat_natCast]
   have hm:∃ m:Nat,m=max l.length (a+t.length):=⟨_,rfl⟩
   obtain ⟨m,hm⟩:=hm;have hp:putD l a t=(Qfz l m).take a++t.take (m-a)++(Qfz l m).drop (a+t.length):=by
    unfold putD;rw [hm,List.take_of_length_le (l:=t) (by omega)]
   have hs:(⟨t.toArray⟩:ByteArray) ≠ ⟨#[]⟩:=fun e=>h0 (by simpa using congrArg (fun x:ByteArray=>x.data.toList) e);have HR:=Lib.hid h;have HC:=Lib.hid hc;have HP:=Lib.hid hp;have HM:=Lib.hid hm;have hpl:=Qm6 l a t;rw [← hm] at hpl;have HL:=Lib.hid hpl;have hmm:(max (l.length:Int) ((a:Int)+t.length))=m:=by omega
   have htp:0<t.length:=List.length_pos_iff.2 h0;have ham:a<m:=by omega
   have hie:t.isEmpty=false:=by simpa using h0
   have hmb:m≤140737488355328:=by omega
   clear h hc h1 hp hm hpl
   go_enter Tryz.func176,Tryz.ntmps176
   go_wp2_with fail
   refine (Qer a t.length _ (by omega) (by omega) (by omega) (by omega)).mono ?_;rintro e w1 ⟨rfl,rfl⟩;rw [HR.out]
   go_wp2_with fail
   ·have hmq:(a:Int)+t.length=m:=by have:=HM.out;omega
    rw [hmq];refine (Qjg l m _ hl hmb).mono ?_;rintro e w1 ⟨rfl,hb1,hb⟩;have hcp:=Qgv (P:=Tryz.prog) w1 198 9 3 5 w.heap.size a (m-a) (m-a) t (Qfz l m) 5 rfl rfl hb1 (by rw [Qdu];omega);rw [← HP.out] at hcp;have hb2:Qr1 (w1.setRow w.heap.size (Lib.byteCells (putD l a t)).toArray) w.heap.size (putD l a t):=setRow_heap _ _ _ _ _ _ hb1;have hb3:=Qh3 hb (Nat.le_refl _) (Lib.byteCells (putD l a t)).toArray;obtain ⟨W,hW⟩:∃ W,W=w1.setRow w.heap.size (Lib.byteCells (putD l a t)).toArray:=⟨_,rfl⟩
    rw [← hW] at hcp hb2 hb3;have hk:=Qfu hb2;rw [HL.out] at hk;clear hW
    go_wp2_with fail
    go_ret2
    exact ⟨by rw [HC.out];rfl,hb3⟩
   ·have hmq:(l.length:Int)=m:=by have:=HM.out;omega
    rw [hmq];refine (Qjg l m _ hl hmb).mono ?_;rintro e w1 ⟨rfl,hb1,hb⟩;have hcp:=Qgv (P:=Tryz.prog) w1 198 9 3 5 w.heap.size a (m-a) (m-a) t (Qfz l m) 5 rfl rfl hb1 (by rw [Qdu];omega);rw [← HP.out] at hcp;have hb2:Qr1 (w1.setRow w.heap.size (Lib.byteCells (putD l a t)).toArray) w.heap.size (putD l a t):=setRow_heap _ _ _ _ _ _ hb1;have hb3:=Qh3 hb (Nat.le_refl _) (Lib.byteCells (putD l a t)).toArray;obtain ⟨W,hW⟩:∃ W,W=w1.setRow w.heap.size (Lib.byteCells (putD l a t)).toArray:=⟨_,rfl⟩
    rw [← hW] at hcp hb2 hb3;have hk:=Qfu hb2;rw [HL.out] at hk;clear hW
    go_wp2_with fail
    go_ret2
    exact ⟨by rw [HC.out];rfl,hb3⟩
 ·have hc:Qbg l a t=(l,Qbb a t.length):=if_neg h;obtain ⟨z,hz⟩:∃ z,z=Qbb a t.length:=⟨_,rfl⟩
  rw [← hz] at h hc;have HZ:=Lib.hid hz;have HC:=Lib.hid hc;have hq:(z==0)=false:=by simpa using h
  clear hc hz h
  go_enter Tryz.func176,Tryz.ntmps176
  go_wp2_with fail
  refine (Qer a t.length _ h1 h2 (by omega) (by omega)).mono ?_;rintro e w1 ⟨rfl,rfl⟩;rw [← HZ.out]
  go_wp2_with fail
  go_ret2
  exact ⟨by rw [HC.out];rfl,Below.refl _ _⟩
end Go.Proofs.YtahlldgocpabjaaGreat

set_option linter.unusedVariables false
set_option linter.unusedSimpArgs false
namespace Go.Proofs.YtahlldgocpabjaaGreat
open Go Go.RowKit Copyhold Go.Proofs.Tryz
theorem ra3 {D:Nat→Prop} {w:World} {x y z:AV} {vs:Array Value} (h:Qde D w [x,y,z] vs):∃ u v t,vs=#[u,v,t]∧Ra D w x u∧Ra D w y v∧Ra D w z t:=by
 obtain ⟨h1,h2⟩:=h
 match vs,h1 with
 | ⟨[u,v,t]⟩,_=>exact ⟨u,v,t,rfl,h2 0 x u rfl rfl,h2 1 y v rfl rfl,h2 2 z t rfl rfl⟩
theorem Zaz (s:Txt) (a b:Int) (hs:s.length≤1000000) (ha:I64 a) (hb:I64 b):Qah prog 175 [aS s,aI a,aI b] (.tup [aS (Qem s a b).1,aI (Qem s a b).2]):=Qcj (Qgr _ _) fun D w vs h=>by
 obtain ⟨u,v,t,rfl,hu,hv,ht⟩:=ra3 h;cases hu;cases hv;cases ht;exact (Zf7 s a b w (by omega) ha.1 ha.2 hb.1 hb.2).mono fun e w' ⟨g1,g2⟩=>⟨g1,g2 ▸ Below.refl _ _⟩
theorem Qwe (s:Txt) (a:Int) (t:Txt) (hs:s.length≤1000000) (ha:I64 a) (ht:t.length≤1000000):Qah prog 176 [aS s,aI a,aS t] (.tup [aS (Qbg s a t).1,aI (Qbg s a t).2]):=Qcj (Qgr _ _) fun D w vs h=>by
 obtain ⟨u,v,x,rfl,hu,hv,hx⟩:=ra3 h;cases hu;cases hv;cases hx;exact Za2 s a t w (by omega) (by omega) ha.1 ha.2
theorem Zf6 (s:Txt) (n:Int) (hs:s.length≤1000000) (hn:I64 n):Qah prog 178 [aS s,aI n] (.tup [aS (cutD s n).1,aI (cutD s n).2]):=Qcj (Qgr _ _) fun D w vs h=>by
 obtain ⟨u,v,rfl,hu,hv⟩:=Qde.two h;cases hu;cases hv;exact Zj6 s n w (by omega) hn.1 hn.2
theorem Qwg (l:List Ent) (hl:l.length≤1000000):Qah prog 149 [.sl 2 false (l.map entA)] (.sl 1 false ((l.map Ent.name).map txA)):=by
 intro D w vs hD hv;obtain ⟨u,rfl,hu⟩:=Qde.one hv;obtain ⟨A,c,rfl,he⟩:=Qiv hu;refine (callsIn_wide.1 (Zkr 3 (Nat.le_refl _) A c (lI l) (by rw [Zeo];exact hl) w he)).mono ?_;rintro e w' ⟨v,rfl,hown,hb⟩;have hrow:=Row.of_owns hown;have e1:(lI l).map (fun x=>strV x.1)=(l.map Ent.name).map strV:=by simp [lI]
 rw [e1] at hrow;refine ⟨v,fun b=>D b∨(w.heap.size≤b∧b<w'.heap.size),rfl,hb,fun b h=>.inl h,fun b h=>?_,Zhg hrow (Znz (At.of_owns hown) hrow.lies fun b h1 h2=>.inr ⟨h1,h2⟩)⟩;rcases h with h | ⟨h1,h2⟩
 ·exact ⟨Nat.lt_of_lt_of_le (hD b h) hb.size,.inl h⟩
 ·exact ⟨h2,.inr h1⟩
def Qhk (n:Nod):Int:=if n.kind=2 then (n.l.length:Int) else (n.text.length:Int)
structure Cal where
 kind:Int
 ino:Int
 to:Int
 at_:Int
 many:Int
 name:Txt
 name2:Txt
 text:Txt
structure Rep where
 e:Int
 a:Int
 b:Int
 n:Int
 text:Txt
 names:List Txt
 deriving DecidableEq
def calA (c:Cal):List AV:=[aI c.kind,aI c.ino,aI c.to,aI c.at_,aI c.many,aS c.name,aS c.name2,aS c.text]
def repA (r:Rep):List AV:=[aI r.e,aI r.a,aI r.b,aI r.n,aS r.text,.sl 1 false (r.names.map txA)]
def errR (e:Int):Rep:=⟨e,0,0,0,[],[]⟩
structure OkCal (c:Cal):Prop where
 kind:I64 c.kind
 ino:I64 c.ino
 to:I64 c.to
 at_:I64 c.at_
 many:I64 c.many
 name:c.name.length≤1000000
 name2:c.name2.length≤1000000
 text:c.text.length≤1000000
theorem Qhj (n:Nod):Qah prog 174 [.agg (nodA n)] (aI (Qhk n)):=by
 exact Qac func174 (
 .new fun b1=>.r 1<|.u 3 [b1]<|
 .be 5 n.kind 2 (fun p1=>.u 3 [b1]<|
 .lm 8 n.l entA<|.r 1<|.f (aI (Qhk n)) [] (aI (n.l.length:Int)) (by exact Sub.of_eq (congrArg aI (by unfold Qhk;simp_all))))
 <| fun p1=>.u 4 [b1]<|
 .f (aI (Qhk n)) [] (aI ((n.text).length:Int)) (by exact Sub.of_eq (congrArg aI (by unfold Qhk;simp_all))))
def ofE (f:Fsy) (i k:Int):Int:=if Qav f i=true then (if (Qaa f i).kind=k then 0 else 14) else 6
def ofN (f:Fsy) (i k:Int):Nod:=if ofE f i k=0 then Qaa f i else nod0
def Qek (n:Nod) (t:Txt):Nod:=⟨n.ino,n.kind,n.links,t,n.l⟩
noncomputable def Zal (f:Fsy) (c:Cal):Fsy × Rep:=(f,⟨Qa4 f c.ino c.name,(lookN f c.ino c.name).ino,0,0,[],[]⟩)
def Qjq (f:Fsy) (c:Cal):Fsy × Rep:=if Qav f c.ino=true then (f,⟨0,(Qaa f c.ino).kind,(Qaa f c.ino).links,Qhk (Qaa f c.ino),[],[]⟩) else (f,errR 6)
def Qjx (f:Fsy) (c:Cal):Fsy × Rep:=if ofE f c.ino 1=0 then (f,⟨(Qem (Qaa f c.ino).text c.at_ c.many).2,0,0,0,(Qem (Qaa f c.ino).text c.at_ c.many).1,[]⟩) else (f,errR (ofE f c.ino 1))
def Qfe (f:Fsy) (c:Cal):Fsy × Rep:=if ofE f c.ino 1=0 then (putF f (Qek (Qaa f c.ino) (Qbg (Qaa f c.ino).text c.at_ c.text).1),⟨(Qbg (Qaa f c.ino).text c.at_ c.text).2,(c.text.length:Int),0,0,[],[]⟩) else (f,errR (ofE f c.ino 1))
def cutO (f:Fsy) (c:Cal):Fsy × Rep:=if ofE f c.ino 1=0 then (putF f (Qek (Qaa f c.ino) (cutD (Qaa f c.ino).text c.many).1),errR (cutD (Qaa f c.ino).text c.many).2) else (f,errR (ofE f c.ino 1))
noncomputable def addO (f:Fsy) (c:Cal) (n:Nod):Fsy × Rep:=(if Qau f c.ino c.name n=0 then addF f c.ino c.name (addN f n) else f,⟨Qau f c.ino c.name n,f.next,0,0,[],[]⟩)
noncomputable def symO (f:Fsy) (c:Cal):Fsy × Rep:=if (c.text.length:Int)>4096 then (f,errR 5) else addO f c ⟨0,3,0,c.text,[]⟩
noncomputable def Qc2 (f:Fsy) (c:Cal) (dir:Bool) (odd:Int):Fsy × Rep:=
 if Qa4 f c.ino c.name=0 then (if (((lookN f c.ino c.name).kind==2) != dir)=true then (f,errR odd) else (Qel f c.ino c.name,errR (Qbi f c.ino c.name))) else (f,errR (Qa4 f c.ino c.name))
noncomputable def Qv3 (f:Fsy) (c:Cal):Fsy × Rep:=(Qdh f c.ino c.name c.to,errR (Qa7 f c.ino c.name c.to))
noncomputable def renO (f:Fsy) (c:Cal):Fsy × Rep:=(movF f c.ino c.name c.to c.name2,errR (Qa9 f c.ino c.name c.to c.name2))
def Qvf (f:Fsy) (c:Cal):Fsy × Rep:=(f,⟨ofE f c.ino 3,0,0,0,(ofN f c.ino 3).text,[]⟩)
def Qz7 (f:Fsy) (c:Cal):Fsy × Rep:=(f,⟨dirE f c.ino,0,0,0,[],(dirN f c.ino).l.map Ent.name⟩)
def txtS (l:List Nod):Nat:=(l.map fun n=>n.text.length).sum
def sfsO (f:Fsy):Fsy × Rep:=(f,⟨0,(f.l.length:Int),(txtS f.l:Int),0,[],[]⟩)
theorem Zdu {f:Fsy} {i k:Int} (h:Qav f i=false):ofE f i k=6∧ofN f i k=nod0:=by
 have e:ofE f i k=6:=by unfold ofE;rw [h];rfl
 exact ⟨e,by unfold ofN;rw [e];rfl⟩
theorem Qs4 {f:Fsy} {i k:Int} (h:Qav f i=true) (h2:¬ (Qaa f i).kind=k):ofE f i k=14∧ofN f i k=nod0:=by
 have e:ofE f i k=14:=by unfold ofE;rw [if_pos h,if_neg h2]
 exact ⟨e,by unfold ofN;rw [e];rfl⟩
theorem Qvv {f:Fsy} {i k:Int} (h:Qav f i=true) (h2:(Qaa f i).kind=k):ofE f i k=0∧ofN f i k=Qaa f i:=by
 have e:ofE f i k=0:=by unfold ofE;rw [if_pos h,if_pos h2]
 exact ⟨e,by unfold ofN;rw [e];rfl⟩
theorem Qxp {f:Fsy} {i k:Int} (h:ofE f i k=0):ofN f i k=Qaa f i:=if_pos h
theorem Qbt (e a b n:Int) (t:Txt):Sub (.agg [aI e,aI a,aI b,aI n,aS t,aN]) (.agg (repA ⟨e,a,b,n,t,[]⟩)):=Sub.aggs ⟨sR,sR,sR,sR,sR,Sub.nil _ _,trivial⟩
theorem Qft {f:Fsy} (hp:Qar f) (i:Int):(Qaa f i).text.length≤4096:=by
 by_cases h:Qav f i=true
 ·rcases ((Qbs.1 hp).2.2.1 _ (Qfp h)).1.2.2.2 with ⟨_,h1,_⟩ | ⟨_,h1,_⟩
  ·rw [h1];decide
  ·exact h1
 ·rw [(Quj (Qh5 (by simpa using h))).2];decide
theorem Ql6 {f:Fsy} (hp:Qar f) {n:Nod} (hn:n∈f.l):n.text.length≤4096:=by
 rcases ((Qbs.1 hp).2.2.1 _ hn).1.2.2.2 with ⟨_,h1,_⟩ | ⟨_,h1,_⟩
 ·rw [h1];decide
 ·exact h1
theorem Qqo (f:Fsy) (i k:Int) (hp:Qar f):Qah prog 147 [.agg (fsyA f),aI i,aI k] (.tup [.agg (nodA (ofN f i k)),aI (ofE f i k)]):=by
 have hl:=hp.1;have hr:=Qaf hp;exact Qac func147 (
 .new fun b1=>.new fun b2=>.r 1<|.u 2 [b1]<|
 .call (Qcl f i (by omega) hr)<|
 .r 3<|.new fun b3=>.u 2 [b3]<|
 .r 2<|.br 17 (!(Qav f i)) (fun q1=>have q1:=notT q1;have p1:=booF q1;.u 3 [b2]<|
 .f (.tup [.agg (nodA (ofN f i k)),aI (ofE f i k)]) [b2] (.tup [.agg [aI 0,aI 0,aI 0,aS ([]),aN],aI 6]) (by
  obtain ⟨e1,e2⟩:=Zdu (k:=k) q1;exact Sub.tups ⟨Qdy e2,Sub.of_eq (congrArg aI e1.symm),trivial⟩))
 <| fun q1=>have q1:=notF q1;have p1:=booT q1;.u 4 [b3]<|
 .br 22 (((Qaa f i).kind) != k) (fun q2=>have p2:=bneT q2;.u 3 [b2]<|
 .f (.tup [.agg (nodA (ofN f i k)),aI (ofE f i k)]) [b2] (.tup [.agg [aI 0,aI 0,aI 0,aS ([]),aN],aI 14]) (by
  obtain ⟨e1,e2⟩:=Qs4 q1 (bneT q2);exact Sub.tups ⟨Qdy e2,Sub.of_eq (congrArg aI e1.symm),trivial⟩))
 <| fun q2=>have p2:=bneF q2;.u 3 [b3,b2]<|
 .f (.tup [.agg (nodA (ofN f i k)),aI (ofE f i k)]) [b2] (.tup [.agg [aI ((Qaa f i).ino),aI ((Qaa f i).kind),aI ((Qaa f i).links),aS ((Qaa f i).text),.sl 2 false ((Qaa f i).l.map entA)],aI 0]) (by
  obtain ⟨e1,e2⟩:=Qvv q1 (bneF q2);rw [e1,e2];exact sR))
theorem Za0 (f:Fsy) (c:Cal) (okf:OkF f) (okc:OkCal c) (hp:Qar f):Qah prog 130 [.agg (fsyA f),.agg [aI c.kind,aI c.ino,aI c.to,aI c.at_,aI c.many,aS c.name,aS c.name2,aS c.text]] (.tup [.agg (fsyA (Zal f c).1),.agg (repA (Zal f c).2)]):=by
 have hl:=hp.1;have hr:=Qaf hp;have hcn:=okc.name;have hcn2:=okc.name2;have hct:=okc.text;exact Qac func130 (let R:AV:=.tup [.agg (fsyA (Zal f c).1),.agg (repA (Zal f c).2)];
 .new fun b1=>.new fun b2=>.new fun b3=>.new fun b4=>.u 5 [b1,b2,b2]<|
 .call (Qkd f c.ino c.name hp hcn)<|
 .r 3<|.new fun b5=>.u 2 [b5]<|
 let J1:Jn (Unit):=⟨fun j1=>⟨[(4,.ptr 4 b3 0),(5,.ptr 5 b4 0)],[(4,.box b3 28 (fsyA f)),(5,.box b4 45 [aI (Qa4 f c.ino c.name),aI ((lookN f c.ino c.name).ino),aI 0,aI 0,aS ([]),aN])]⟩,fun _=>True⟩
 .cut J1 (.pick [0,1,2]<|.u 3 [b1]<|
 .fork<|.alt (.u 1 [b5]<|
 .pick [4,5,6]<|.u 3 [b3,b4]<|
 .jo J1 () [] [] sr2 bb2)
 <| .u 1 [b3]<|
 .pick [3,4,6]<|.u 3 [b5,b4]<|
 .jo J1 () [] [] sr2 bb2)
 <| fun _ _=>.f R [b3,b4] (.tup [.agg (fsyA f),.agg [aI (Qa4 f c.ino c.name),aI ((lookN f c.ino c.name).ino),aI 0,aI 0,aS ([]),aN]]) (by exact Sub.tups ⟨sR,(Qbt _ _ _ _ _),trivial⟩))
theorem Zay (f:Fsy) (c:Cal) (okf:OkF f) (okc:OkCal c) (hp:Qar f):Qah prog 131 [.agg (fsyA f),.agg [aI c.kind,aI c.ino,aI c.to,aI c.at_,aI c.many,aS c.name,aS c.name2,aS c.text]] (.tup [.agg (fsyA (Qjq f c).1),.agg (repA (Qjq f c).2)]):=by
 have hl:=hp.1;have hr:=Qaf hp;have hcn:=okc.name;have hcn2:=okc.name2;have hct:=okc.text;exact Qac func131 (
 .new fun b1=>.new fun b2=>.new fun b3=>.new fun b4=>.u 3 [b1,b2]<|
 .call (Qcl f c.ino (by omega) hr)<|
 .r 3<|.new fun b5=>.u 2 [b5]<|
 .r 2<|.br 16 (!(Qav f c.ino)) (fun q1=>have q1:=notT q1;have p1:=booF q1;.u 4 [b1,b3,b4]<|
 .f (.tup [.agg (fsyA (Qjq f c).1),.agg (repA (Qjq f c).2)]) [b3,b4] (.tup [.agg (fsyA f),.agg [aI 6,aI 0,aI 0,aI 0,aS ([]),aN]]) (by
  have e:Qjq f c=_:=if_neg (by rw [q1];decide);rw [e];exact Sub.tups ⟨sR,(Qbt _ _ _ _ _),trivial⟩))
 <| fun q1=>have q1:=notF q1;have p1:=booT q1;let J1:Jn (Unit):=⟨fun j1=>⟨[(4,.ptr 4 b3 0),(5,.ptr 5 b4 0)],[(4,.box b3 28 (fsyA f)),(5,.box b4 45 [aI 0,aI ((Qaa f c.ino).kind),aI ((Qaa f c.ino).links),aI (Qhk (Qaa f c.ino)),aS ([]),aN])]⟩,fun _=>True⟩
 .cut J1 (.pick [0,1,3,5]<|.u 4 [b1,b5]<|
 .fork<|.alt (.u 1 [b5]<|
 .fork<|.alt (.u 1 [b5]<|
 .pick [6,7,8,9]<|.call (Qhj (Qaa f c.ino))<|
 .u 3 [b3,b4]<|
 .jo J1 () [] [] sr2 bb2)
 <| .call (Qhj (Qaa f c.ino))<|
 .fork<|.alt (.u 1 [b5]<|
 .pick [7,8,9]<|.u 3 [b3,b4]<|
 .jo J1 () [] [] sr2 bb2)
 <| .u 1 [b3]<|
 .pick [4,7,9]<|.u 3 [b5,b4]<|
 .jo J1 () [] [] sr2 bb2)
 <| .alt (.u 1 [b5]<|
 .fork<|.alt (.u 1 [b5]<|
 .pick [6,7,8,9]<|.call (Qhj (Qaa f c.ino))<|
 .u 3 [b3,b4]<|
 .jo J1 () [] [] sr2 bb2)
 <| .call (Qhj (Qaa f c.ino))<|
 .fork<|.alt (.u 1 [b5]<|
 .pick [7,8,9]<|.u 3 [b3,b4]<|
 .jo J1 () [] [] sr2 bb2)
 <| .u 1 [b3]<|
 .pick [2,7,9]<|.u 3 [b5,b4]<|
 .jo J1 () [] [] sr2 bb2)
 <| .call (Qhj (Qaa f c.ino))<|
 .fork<|.alt (.u 1 [b5]<|
 .fork<|.alt (.u 1 [b5]<|
 .pick [7,8,9]<|.u 3 [b3,b4]<|
 .jo J1 () [] [] sr2 bb2)
 <| .u 1 [b3]<|
 .pick [4,7,9]<|.u 3 [b5,b4]<|
 .jo J1 () [] [] sr2 bb2)
 <| .alt (.u 1 [b5]<|
 .fork<|.alt (.u 1 [b5]<|
 .pick [7,8,9]<|.u 3 [b3,b4]<|
 .jo J1 () [] [] sr2 bb2)
 <| .u 1 [b3]<|
 .pick [2,7,9]<|.u 3 [b5,b4]<|
 .jo J1 () [] [] sr2 bb2)
 <| .u 1 [b3]<|
 .pick [2,4,7,9]<|.u 4 [b5,b5,b4]<|
 .jo J1 () [] [] sr2 bb2)
 <| fun _ _=>.f (.tup [.agg (fsyA (Qjq f c).1),.agg (repA (Qjq f c).2)]) [b3,b4] (.tup [.agg (fsyA f),.agg [aI 0,aI ((Qaa f c.ino).kind),aI ((Qaa f c.ino).links),aI (Qhk (Qaa f c.ino)),aS ([]),aN]]) (by
  have e:Qjq f c=_:=if_pos q1;rw [e];exact Sub.tups ⟨sR,(Qbt _ _ _ _ _),trivial⟩))
theorem Zni (f:Fsy) (c:Cal) (okf:OkF f) (okc:OkCal c) (hp:Qar f):Qah prog 132 [.agg (fsyA f),.agg [aI c.kind,aI c.ino,aI c.to,aI c.at_,aI c.many,aS c.name,aS c.name2,aS c.text]] (.tup [.agg (fsyA (Qjx f c).1),.agg (repA (Qjx f c).2)]):=by
 have hl:=hp.1;have hr:=Qaf hp;have hcn:=okc.name;have hcn2:=okc.name2;have hct:=okc.text;exact Qac func132 (
 .new fun b1=>.new fun b2=>.new fun b3=>.new fun b4=>.u 3 [b1,b2]<|
 .call (Qqo f c.ino 1 hp)<|
 .r 3<|.new fun b5=>.u 2 [b5]<|
 .r 2<|.br 17 ((ofE f c.ino 1) != 0) (fun q1=>have p1:=bneT q1;.u 5 [b1,b3,b4]<|
 .f (.tup [.agg (fsyA (Qjx f c).1),.agg (repA (Qjx f c).2)]) [b3,b4] (.tup [.agg (fsyA f),.agg [aI (ofE f c.ino 1),aI 0,aI 0,aI 0,aS ([]),aN]]) (by
  have e:Qjx f c=_:=if_neg (bneT q1);rw [e];exact Sub.tups ⟨sR,(Qbt _ _ _ _ _),trivial⟩))
 <| fun q1=>have p1:=bneF q1;have eo:=Qxp (show ofE f c.ino 1=0 from bneF q1);.u 6 [b5,b2,b2]<|
 .cs (args0:=[aS ((ofN f c.ino 1).text),aI c.at_,aI c.many]) (Zaz (Qaa f c.ino).text c.at_ c.many (by have:=Qft hp c.ino;omega) okc.at_ okc.many) ⟨by rw [eo];exact sR,sR,sR,trivial⟩<|
 .r 5<|.u 6 [b1,b3,b4]<|
 .f (.tup [.agg (fsyA (Qjx f c).1),.agg (repA (Qjx f c).2)]) [b3,b4] (.tup [.agg (fsyA f),.agg [aI ((Qem (Qaa f c.ino).text c.at_ c.many).2),aI 0,aI 0,aI 0,aS ((Qem (Qaa f c.ino).text c.at_ c.many).1),aN]]) (by
  have e0:ofE f c.ino 1=0:=bneF q1;have e:Qjx f c=_:=if_pos e0;rw [e];exact Sub.tups ⟨sR,(Qbt _ _ _ _ _),trivial⟩))
theorem Zjo (f:Fsy) (c:Cal) (okf:OkF f) (okc:OkCal c) (hp:Qar f):Qah prog 133 [.agg (fsyA f),.agg [aI c.kind,aI c.ino,aI c.to,aI c.at_,aI c.many,aS c.name,aS c.name2,aS c.text]] (.tup [.agg (fsyA (Qfe f c).1),.agg (repA (Qfe f c).2)]):=by
 have hl:=hp.1;have hr:=Qaf hp;have hcn:=okc.name;have hcn2:=okc.name2;have hct:=okc.text;exact Qac func133 (
 .new fun b1=>.new fun b2=>.new fun b3=>.new fun b4=>.u 3 [b1,b2]<|
 .call (Qqo f c.ino 1 hp)<|
 .r 3<|.new fun b5=>.u 2 [b5]<|
 .r 2<|.br 16 ((ofE f c.ino 1) != 0) (fun q1=>have p1:=bneT q1;.u 5 [b1,b3,b4]<|
 .f (.tup [.agg (fsyA (Qfe f c).1),.agg (repA (Qfe f c).2)]) [b3,b4] (.tup [.agg (fsyA f),.agg [aI (ofE f c.ino 1),aI 0,aI 0,aI 0,aS ([]),aN]]) (by
  have e:Qfe f c=_:=if_neg (bneT q1);rw [e];exact Sub.tups ⟨sR,(Qbt _ _ _ _ _),trivial⟩))
 <| fun q1=>have p1:=bneF q1;have eo:=Qxp (show ofE f c.ino 1=0 from bneF q1);.u 6 [b5,b2,b2]<|
 .cs (args0:=[aS ((ofN f c.ino 1).text),aI c.at_,aS c.text]) (Qwe (Qaa f c.ino).text c.at_ c.text (by have:=Qft hp c.ino;omega) okc.at_ hct) ⟨by rw [eo];exact sR,sR,sR,trivial⟩<|
 .u 6 [b5]<|
 let J1:Jn (Unit):=⟨fun j1=>⟨[(4,.ptr 4 b3 0),(5,.ptr 5 b4 0)],[(4,.box b3 28 [.sl 5 false ((putF f (Qek (Qaa f c.ino) (Qbg (Qaa f c.ino).text c.at_ c.text).1)).l.map nodA),aI ((putF f (Qek (Qaa f c.ino) (Qbg (Qaa f c.ino).text c.at_ c.text).1)).next)]),(5,.box b4 45 [aI ((Qbg (Qaa f c.ino).text c.at_ c.text).2),aI ((c.text).length:Int),aI 0,aI 0,aS ([]),aN])]⟩,fun _=>True⟩
 .cut J1 (.pick [0,1,3,4]<|.u 4 [b1,b5]<|
 .fork<|.alt (.cs (args0:=[.agg (fsyA f),.agg [aI ((ofN f c.ino 1).ino),aI ((ofN f c.ino 1).kind),aI ((ofN f c.ino 1).links),aS ((Qbg (Qaa f c.ino).text c.at_ c.text).1),.sl 2 false ((ofN f c.ino 1).l.map entA)]]) (Qfk f (Qek (Qaa f c.ino) (Qbg (Qaa f c.ino).text c.at_ c.text).1) (Qca okf hp c.ino) (by omega) hr) ⟨sR,by rw [eo];exact sR,trivial⟩<|
 .fork<|.alt (.u 1 [b2]<|
 .pick [6,7,8,9]<|.u 4 [b3,b4]<|
 .jo J1 () [] [] sr2 bb2)
 <| .u 1 [b3]<|
 .pick [5,6,7,9]<|.u 4 [b2,b4]<|
 .jo J1 () [] [] sr2 bb2)
 <| .u 1 [b2]<|
 .pick [6,7,2,8,9]<|.r 2<|.cs (args0:=[.agg (fsyA f),.agg [aI ((ofN f c.ino 1).ino),aI ((ofN f c.ino 1).kind),aI ((ofN f c.ino 1).links),aS ((Qbg (Qaa f c.ino).text c.at_ c.text).1),.sl 2 false ((ofN f c.ino 1).l.map entA)]]) (Qfk f (Qek (Qaa f c.ino) (Qbg (Qaa f c.ino).text c.at_ c.text).1) (Qca okf hp c.ino) (by omega) hr) ⟨sR,by rw [eo];exact sR,trivial⟩<|
 .u 2 [b3,b4]<|
 .jo J1 () [] [] sr2 bb2)
 <| fun _ _=>.f (.tup [.agg (fsyA (Qfe f c).1),.agg (repA (Qfe f c).2)]) [b3,b4] (.tup [.agg [.sl 5 false ((putF f (Qek (Qaa f c.ino) (Qbg (Qaa f c.ino).text c.at_ c.text).1)).l.map nodA),aI ((putF f (Qek (Qaa f c.ino) (Qbg (Qaa f c.ino).text c.at_ c.text).1)).next)],.agg [aI ((Qbg (Qaa f c.ino).text c.at_ c.text).2),aI ((c.text).length:Int),aI 0,aI 0,aS ([]),aN]]) (by
  have e0:ofE f c.ino 1=0:=bneF q1;have e:Qfe f c=_:=if_pos e0;rw [e];exact Sub.tups ⟨sR,(Qbt _ _ _ _ _),trivial⟩))
theorem dcut_o (f:Fsy) (c:Cal) (okf:OkF f) (okc:OkCal c) (hp:Qar f):Qah prog 134 [.agg (fsyA f),.agg [aI c.kind,aI c.ino,aI c.to,aI c.at_,aI c.many,aS c.name,aS c.name2,aS c.text]] (.tup [.agg (fsyA (cutO f c).1),.agg (repA (cutO f c).2)]):=by
 have hl:=hp.1;have hr:=Qaf hp;have hcn:=okc.name;have hcn2:=okc.name2;have hct:=okc.text;exact Qac func134 (
 .new fun b1=>.new fun b2=>.new fun b3=>.new fun b4=>.u 3 [b1,b2]<|
 .call (Qqo f c.ino 1 hp)<|
 .r 3<|.new fun b5=>.u 2 [b5]<|
 .r 2<|.br 16 ((ofE f c.ino 1) != 0) (fun q1=>have p1:=bneT q1;.u 5 [b1,b3,b4]<|
 .f (.tup [.agg (fsyA (cutO f c).1),.agg (repA (cutO f c).2)]) [b3,b4] (.tup [.agg (fsyA f),.agg [aI (ofE f c.ino 1),aI 0,aI 0,aI 0,aS ([]),aN]]) (by
  have e:cutO f c=_:=if_neg (bneT q1);rw [e];exact Sub.tups ⟨sR,(Qbt _ _ _ _ _),trivial⟩))
 <| fun q1=>have p1:=bneF q1;have eo:=Qxp (show ofE f c.ino 1=0 from bneF q1);.u 4 [b5,b2]<|
 .cs (args0:=[aS ((ofN f c.ino 1).text),aI c.many]) (Zf6 (Qaa f c.ino).text c.many (by have:=Qft hp c.ino;omega) okc.many) ⟨by rw [eo];exact sR,sR,trivial⟩<|
 .u 6 [b5]<|
 .u 2 [b1,b5]<|
 .cs (args0:=[.agg (fsyA f),.agg [aI ((ofN f c.ino 1).ino),aI ((ofN f c.ino 1).kind),aI ((ofN f c.ino 1).links),aS ((cutD (Qaa f c.ino).text c.many).1),.sl 2 false ((ofN f c.ino 1).l.map entA)]]) (Qfk f (Qek (Qaa f c.ino) (cutD (Qaa f c.ino).text c.many).1) (Qca okf hp c.ino) (by omega) hr) ⟨sR,by rw [eo];exact sR,trivial⟩<|
 .u 4 [b3,b4]<|
 .f (.tup [.agg (fsyA (cutO f c).1),.agg (repA (cutO f c).2)]) [b3,b4] (.tup [.agg [.sl 5 false ((putF f (Qek (Qaa f c.ino) (cutD (Qaa f c.ino).text c.many).1)).l.map nodA),aI ((putF f (Qek (Qaa f c.ino) (cutD (Qaa f c.ino).text c.many).1)).next)],.agg [aI ((cutD (Qaa f c.ino).text c.many).2),aI 0,aI 0,aI 0,aS ([]),aN]]) (by
  have e0:ofE f c.ino 1=0:=bneF q1;have e:cutO f c=_:=if_pos e0;rw [e];exact Sub.tups ⟨sR,(Qbt _ _ _ _ _),trivial⟩))
end Go.Proofs.YtahlldgocpabjaaGreat
