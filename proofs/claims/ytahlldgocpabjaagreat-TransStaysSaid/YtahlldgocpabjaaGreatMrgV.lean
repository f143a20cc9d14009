import Derived.Test.YtahlldgocpabjaaGreatMrgU
import Derived.Test.YtahlldgocpabjaaGreatMrgS
set_option maxRecDepth 100000
set_option maxHeartbeats 8000000
set_option maxRecDepth 100000
namespace Go.Proofs.YtahlldgocpabjaaGreat
open Go.RowKit Copyhold
attribute [local go_sem] Qwp
def Qe7 (l:List UInt8) (n:Nat):List UInt8:=l.take n++List.replicate (n-l.length) 0
theorem Qdd (l:List UInt8) (n:Nat):(Qe7 l n).length=n:=by
 simp [Qe7]
 omega
def Qpo (w:World) (g:Nat) (l:List UInt8):Prop:=w.heap[g]?=some (.cells (Lib.byteCells l).toArray 5 (0,0))
theorem Qmr (w:World) (n:Nat) (hn:n≤140737488355328):(Instr.makeSlice 198 (.int .i64 (n:Int)) (.int .i64 (n:Int))).run Tryz.prog w=.ok (.slice (some ⟨w.heap.size,0,none⟩) n n) (w.alloc (.cells (Lib.byteCells (List.replicate n 0)).toArray 5)):=by
 have h:=run_make (P:=Tryz.prog) w 198 5 _ (.int .u8 0) rfl rfl rfl .i64 .i64 (n:Int) (n:Int) (by omega) (by omega) (by show (1:Int)*_≤_;omega) (by omega)
 rw [Qz8,show (Tryz.prog.types[5]'(by decide)).size=1 from rfl,Nat.mul_one,Int.toNat_natCast] at h
 exact h
theorem Qhw (l:List UInt8) (n:Nat) (w:World) (_hl:l.length≤140737488355328) (hn:n≤140737488355328) :
  Calls Tryz.prog 216 #[.string ⟨l.toArray⟩,.int .i64 n] w fun e w'=>e=.returned (.slice (some ⟨w.heap.size,0,none⟩) n n)∧Qpo w' w.heap.size (Qe7 l n)∧Below w.heap.size w w':=by
 have hmk:=Qmr w n hn
 have hb:=(Below.refl w.heap.size w).alloc (Nat.le_refl _) (.cells (Lib.byteCells (List.replicate n 0)).toArray 5)
 have hg:=heap_alloc_new w (.cells (Lib.byteCells (List.replicate n 0)).toArray 5)
 obtain ⟨W,hW⟩:∃ W,W=w.alloc (.cells (Lib.byteCells (List.replicate n 0)).toArray 5):=⟨_,rfl⟩
 rw [← hW] at hmk hb hg
 have hcp:=Qfu (P:=Tryz.prog) W 198 9 3 5 w.heap.size 0 n n l (List.replicate n 0) 5 rfl rfl hg (by simp)
 have hf:(List.replicate n (0:UInt8)).take 0++l.take n++(List.replicate n 0).drop (0+l.length)=Qe7 l n:=by simp [Qe7]
 rw [hf] at hcp
 have HB:=Lib.hid hb
 have HG:=Lib.hid hg
 clear hb hg hf hW
 go_enter Tryz.func216,Tryz.ntmps216
 go_wp2_with fail
 go_ret
 exact ⟨rfl,setRow_heap _ _ _ _ _ _ HG.out,Qgq HB.out (Nat.le_refl _) _⟩
def cutD (l:List UInt8) (n:Int):List UInt8 × Int:=if Qba 0 n=0 then (Qe7 l n.toNat,0) else (l,Qba 0 n)
theorem Qe2 {w:World} {g:Nat} {l:List UInt8} (h:Qpo w g l):(convert 198 9 (.slice (some ⟨g,0,none⟩) l.length l.length)).run Tryz.prog w=.ok (.string ⟨l.toArray⟩) w:=
 run_convert_bytes_back w _ _ 5 _ _ l rfl rfl rfl fun j hj=>by
  have hadd:(⟨g,0,none⟩:Addr).add j=⟨g,j,none⟩:=by unfold Addr.add;split<;>simp_all
  rw [hadd]
  simp only [World.cell?,show w.heap[g]?=some (.cells (Lib.byteCells l).toArray 5 (0,0)) from h]
  simp [Lib.byteCells,hj]
theorem Zfq (l:List UInt8) (n:Int) (w:World) (hl:l.length≤140737488355328) (h1:-9223372036854775808≤n) (h2:n≤9223372036854775807) :
  Calls Tryz.prog 178 #[.string ⟨l.toArray⟩,.int .i64 n] w fun e w'=>e=.returned (.tuple #[.string ⟨(cutD l n).1.toArray⟩,.int .i64 (cutD l n).2])∧Below w.heap.size w w':=by
 by_cases h:Qba 0 n=0
 ·have hn:0≤n∧n≤4096:=by
   unfold Qba at h
   split at h
   ·split at h<;>omega
   ·cases h
  have hc:cutD l n=(Qe7 l n.toNat,0):=if_pos h
  obtain ⟨n,rfl⟩:=Int.eq_ofNat_of_zero_le hn.1
  rw [Int.toNat_natCast] at hc
  have HR:=Lib.hid h
  have HC:=Lib.hid hc
  clear h hc h1
  go_enter Tryz.func178,Tryz.ntmps178
  go_wp2_with fail
  refine (Qd6 0 n _ (by decide) (by decide) (by omega) (by omega)).mono ?_
  rintro e w1 ⟨rfl,rfl⟩
  rw [HR.out]
  go_wp2_with fail
  refine (Qhw l n _ hl (by omega)).mono ?_
  rintro e w1 ⟨rfl,hb1,hb⟩
  have hk:=Qe2 hb1
  rw [Qdd] at hk
  go_wp2_with fail
  go_ret2
  exact ⟨by rw [HC.out];rfl,hb⟩
 ·have hc:cutD l n=(l,Qba 0 n):=if_neg h
  obtain ⟨z,hz⟩:∃ z,z=Qba 0 n:=⟨_,rfl⟩
  rw [← hz] at h hc
  have HZ:=Lib.hid hz
  have HC:=Lib.hid hc
  have hq:(z==0)=false:=by simpa using h
  clear hc hz h
  go_enter Tryz.func178,Tryz.ntmps178
  go_wp2_with fail
  refine (Qd6 0 n _ (by decide) (by decide) h1 h2).mono ?_
  rintro e w1 ⟨rfl,rfl⟩
  rw [← HZ.out]
  go_wp2_with fail
  go_ret2
  exact ⟨by rw [HC.out];rfl,Below.refl _ _⟩
def putD (l:List UInt8) (a:Nat) (t:List UInt8):List UInt8:=
 (Qe7 l (max l.length (a+t.length))).take a++t++(Qe7 l (max l.length (a+t.length))).drop (a+t.length)
def Qat (l:List UInt8) (a:Int) (t:List UInt8):List UInt8 × Int:=
 if Qba a t.length=0 then (if t=[] then l else putD l a.toNat t,0) else (l,Qba a t.length)
theorem Qfv {a b:Int} (h:Qba a b=0):0≤a∧0≤b∧a+b≤4096:=by
 unfold Qba at h
 split at h
 ·split at h<;>omega
 ·cases h
theorem Qlg (l:List UInt8) (a:Nat) (t:List UInt8):(putD l a t).length=max l.length (a+t.length):=by
 unfold putD
 simp [Qdd]
 omega
theorem Qxc (l:List UInt8) (a:Int) (t:List UInt8) (w:World) (hl:l.length≤140737488355328) (ht:t.length≤140737488355328) (h1:-9223372036854775808≤a) (h2:a≤9223372036854775807) :
  Calls Tryz.prog 176 #[.string ⟨l.toArray⟩,.int .i64 a,.string ⟨t.toArray⟩] w fun e w'=>e=.returned (.tuple #[.string ⟨(Qat l a t).1.toArray⟩,.int .i64 (Qat l a t).2])∧Below w.heap.size w w':=by
 by_cases h:Qba a t.length=0
 ·have hn:=Qfv h
  obtain ⟨a,rfl⟩:=Int.eq_ofNat_of_zero_le hn.1
  rcases Classical.em (t=[]) with rfl | h0
  ·have hc:Qat l a []=(l,0):=by unfold Qat;rw [if_pos h,if_pos rfl]
   have HR:=Lib.hid h
   have HC:=Lib.hid hc
   clear h hc h1 hn
   go_enter Tryz.func176,Tryz.ntmps176
   go_wp2_with fail
   refine (Qd6 a 0 _ (by omega) (by omega) (by decide) (by decide)).mono ?_
   rintro e w1 ⟨rfl,rfl⟩
   rw [show Qba a 0=0 from HR.out]
   go_wp2_with fail
   go_ret2
   exact ⟨by rw [HC.out];rfl,Below.refl _ _⟩
  ·have hc:Qat l a t=(putD l a t,0):=by unfold Qat;rw [if_pos h,if_neg h0,Int.toNat_natCast]
   have hm:∃ m:Nat,m=max l.length (a+t.length):=⟨_,rfl⟩
   obtain ⟨m,hm⟩:=hm
   have hp:putD l a t=(Qe7 l m).take a++t.take (m-a)++(Qe7 l m).drop (a+t.length):=by
    unfold putD
    rw [hm,List.take_of_length_le (l:=t) (by omega)]
   have hs:(⟨t.toArray⟩:ByteArray) ≠ ⟨#[]⟩:=fun e=>h0 (by simpa using congrArg (fun x:ByteArray=>x.data.toList) e)
   have HR:=Lib.hid h
   have HC:=Lib.hid hc
   have HP:=Lib.hid hp
   have HM:=Lib.hid hm
   have hpl:=Qlg l a t
   rw [← hm] at hpl
   have HL:=Lib.hid hpl
   have hmm:(max (l.length:Int) ((a:Int)+t.length))=m:=by omega
   have htp:0<t.length:=List.length_pos_iff.2 h0
   have ham:a<m:=by omega
   have hie:t.isEmpty=false:=by simpa using h0
   have hmb:m≤140737488355328:=by omega
   clear h hc h1 hp hm hpl
   go_enter Tryz.func176,Tryz.ntmps176
   go_wp2_with fail
   refine (Qd6 a t.length _ (by omega) (by omega) (by omega) (by omega)).mono ?_
   rintro e w1 ⟨rfl,rfl⟩
   rw [HR.out]
   go_wp2_with fail
   ·have hmq:(a:Int)+t.length=m:=by have:=HM.out;omega
    rw [hmq]
    refine (Qhw l m _ hl hmb).mono ?_
    rintro e w1 ⟨rfl,hb1,hb⟩
    have hcp:=Qfu (P:=Tryz.prog) w1 198 9 3 5 w.heap.size a (m-a) (m-a) t (Qe7 l m) 5 rfl rfl hb1 (by rw [Qdd];omega)
    rw [← HP.out] at hcp
    have hb2:Qpo (w1.setRow w.heap.size (Lib.byteCells (putD l a t)).toArray) w.heap.size (putD l a t):=setRow_heap _ _ _ _ _ _ hb1
    have hb3:=Qgq hb (Nat.le_refl _) (Lib.byteCells (putD l a t)).toArray
    obtain ⟨W,hW⟩:∃ W,W=w1.setRow w.heap.size (Lib.byteCells (putD l a t)).toArray:=⟨_,rfl⟩
    rw [← hW] at hcp hb2 hb3
    have hk:=Qe2 hb2
    rw [HL.out] at hk
    clear hW
    go_wp2_with fail
    go_ret2
    exact ⟨by rw [HC.out];rfl,hb3⟩
   ·have hmq:(l.length:Int)=m:=by have:=HM.out;omega
    rw [hmq]
    refine (Qhw l m _ hl hmb).mono ?_
    rintro e w1 ⟨rfl,hb1,hb⟩
    have hcp:=Qfu (P:=Tryz.prog) w1 198 9 3 5 w.heap.size a (m-a) (m-a) t (Qe7 l m) 5 rfl rfl hb1 (by rw [Qdd];omega)
    rw [← HP.out] at hcp
    have hb2:Qpo (w1.setRow w.heap.size (Lib.byteCells (putD l a t)).toArray) w.heap.size (putD l a t):=setRow_heap _ _ _ _ _ _ hb1
    have hb3:=Qgq hb (Nat.le_refl _) (Lib.byteCells (putD l a t)).toArray
    obtain ⟨W,hW⟩:∃ W,W=w1.setRow w.heap.size (Lib.byteCells (putD l a t)).toArray:=⟨_,rfl⟩
    rw [← hW] at hcp hb2 hb3
    have hk:=Qe2 hb2
    rw [HL.out] at hk
    clear hW
    go_wp2_with fail
    go_ret2
    exact ⟨by rw [HC.out];rfl,hb3⟩
 ·have hc:Qat l a t=(l,Qba a t.length):=if_neg h
  obtain ⟨z,hz⟩:∃ z,z=Qba a t.length:=⟨_,rfl⟩
  rw [← hz] at h hc
  have HZ:=Lib.hid hz
  have HC:=Lib.hid hc
  have hq:(z==0)=false:=by simpa using h
  clear hc hz h
  go_enter Tryz.func176,Tryz.ntmps176
  go_wp2_with fail
  refine (Qd6 a t.length _ h1 h2 (by omega) (by omega)).mono ?_
  rintro e w1 ⟨rfl,rfl⟩
  rw [← HZ.out]
  go_wp2_with fail
  go_ret2
  exact ⟨by rw [HC.out];rfl,Below.refl _ _⟩
end Go.Proofs.YtahlldgocpabjaaGreat

set_option linter.unusedVariables false
set_option linter.unusedSimpArgs false
namespace Go.Proofs.YtahlldgocpabjaaGreat
open Go Go.RowKit Copyhold
theorem ra3 {D:Nat→Prop} {w:World} {x y z:AV} {vs:Array Value} (h:Qcx D w [x,y,z] vs):∃ u v t,vs=#[u,v,t]∧Ra D w x u∧Ra D w y v∧Ra D w z t:=by
 obtain ⟨h1,h2⟩:=h
 match vs,h1 with
 | ⟨[u,v,t]⟩,_=>exact ⟨u,v,t,rfl,h2 0 x u rfl rfl,h2 1 y v rfl rfl,h2 2 z t rfl rfl⟩
theorem Qxa (s:Txt) (a b:Int) (hs:s.length≤1000000) (ha:I64 a) (hb:I64 b):Qaj Tryz.prog 175 [aS s,aI a,aI b] (.tup [aS (Qdz s a b).1,aI (Qdz s a b).2]):=Qca (Qfq _ _) fun D w vs h=>by
 obtain ⟨u,v,t,rfl,hu,hv,ht⟩:=ra3 h
 cases hu;cases hv;cases ht
 exact (Zb0 s a b w (by omega) ha.1 ha.2 hb.1 hb.2).mono fun e w' ⟨g1,g2⟩=>⟨g1,g2 ▸ Below.refl _ _⟩
theorem Qs9 (s:Txt) (a:Int) (t:Txt) (hs:s.length≤1000000) (ha:I64 a) (ht:t.length≤1000000):Qaj Tryz.prog 176 [aS s,aI a,aS t] (.tup [aS (Qat s a t).1,aI (Qat s a t).2]):=Qca (Qfq _ _) fun D w vs h=>by
 obtain ⟨u,v,x,rfl,hu,hv,hx⟩:=ra3 h
 cases hu;cases hv;cases hx
 exact Qxc s a t w (by omega) (by omega) ha.1 ha.2
theorem Zbz (s:Txt) (n:Int) (hs:s.length≤1000000) (hn:I64 n):Qaj Tryz.prog 178 [aS s,aI n] (.tup [aS (cutD s n).1,aI (cutD s n).2]):=Qca (Qfq _ _) fun D w vs h=>by
 obtain ⟨u,v,rfl,hu,hv⟩:=Qcx.two h
 cases hu;cases hv
 exact Zfq s n w (by omega) hn.1 hn.2
theorem Qta (l:List Ent) (hl:l.length≤1000000):Qaj Tryz.prog 149 [.sl 2 false (l.map entA)] (.sl 1 false ((l.map Ent.name).map txA)):=by
 intro D w vs hD hv
 obtain ⟨u,rfl,hu⟩:=Qcx.one hv
 obtain ⟨A,c,rfl,he⟩:=Qg8 hu
 refine (callsIn_wide.1 (Zgb 3 (Nat.le_refl _) A c (lI l) (by rw [Zak];exact hl) w he)).mono ?_
 rintro e w' ⟨v,rfl,hown,hb⟩
 have hrow:=Row.of_owns hown
 have e1:(lI l).map (fun x=>strV x.1)=(l.map Ent.name).map strV:=by simp [lI]
 rw [e1] at hrow
 refine ⟨v,fun b=>D b∨(w.heap.size≤b∧b<w'.heap.size),rfl,hb,fun b h=>.inl h,fun b h=>?_,Zc6 hrow (Zjc (At.of_owns hown) hrow.lies fun b h1 h2=>.inr ⟨h1,h2⟩)⟩
 rcases h with h | ⟨h1,h2⟩
 ·exact ⟨Nat.lt_of_lt_of_le (hD b h) hb.size,.inl h⟩
 ·exact ⟨h2,.inr h1⟩
def Qcl (n:Nod):Int:=if n.kind=2 then (n.l.length:Int) else (n.text.length:Int)
structure Cal where
 kind:Int
 ino:Int
 to:Int
 at_:Int
 many:Int
 name:Txt
 name2:Txt
 text:Txt
structure Rep where
 e:Int
 a:Int
 b:Int
 n:Int
 text:Txt
 names:List Txt
 deriving DecidableEq
def calA (c:Cal):List AV:=[aI c.kind,aI c.ino,aI c.to,aI c.at_,aI c.many,aS c.name,aS c.name2,aS c.text]
def repA (r:Rep):List AV:=[aI r.e,aI r.a,aI r.b,aI r.n,aS r.text,.sl 1 false (r.names.map txA)]
def errR (e:Int):Rep:=⟨e,0,0,0,[],[]⟩
structure OkCal (c:Cal):Prop where
 kind:I64 c.kind
 ino:I64 c.ino
 to:I64 c.to
 at_:I64 c.at_
 many:I64 c.many
 name:c.name.length≤1000000
 name2:c.name2.length≤1000000
 text:c.text.length≤1000000
theorem Qgd (n:Nod):Qaj Tryz.prog 174 [.agg (nodA n)] (aI (Qcl n)):=by
 exact Qac (F:=Tryz.f174) 400 (
 .new fun b1=>.r 1<|.run 3 [b1=b1] rt1<|
 .br 5 (n.kind==2) (fun q1=>have p1:=beqT q1;.run 3 [b1=b1] rt1<|
 .val 8 (show (aI ((n.l.map entA).length:Int):AV)=aI (n.l.length:Int) from by rw [List.length_map])<|.r 1<|.fin (x:=aI (n.l.length:Int)) (r:=aI (Qcl n)) [] trivial (by exact Sub.of_eq (congrArg aI (by unfold Qcl;simp_all))))
 <| fun q1=>have p1:=beqF q1;.run 4 [b1=b1] rt1<|
 .fin (x:=aI ((n.text).length:Int)) (r:=aI (Qcl n)) [] trivial (by exact Sub.of_eq (congrArg aI (by unfold Qcl;simp_all)))) Tryz.func174 rfl (by kernel_rfl) (by kernel_rfl)
def ofE (f:Fsy) (i k:Int):Int:=if Qar f i=true then (if (Qaa f i).kind=k then 0 else 14) else 6
def ofN (f:Fsy) (i k:Int):Nod:=if ofE f i k=0 then Qaa f i else nod0
def Qbg (n:Nod) (t:Txt):Nod:=⟨n.ino,n.kind,n.links,t,n.l⟩
noncomputable def Qea (f:Fsy) (c:Cal):Fsy × Rep:=(f,⟨Qaz f c.ino c.name,(lookN f c.ino c.name).ino,0,0,[],[]⟩)
def Qcz (f:Fsy) (c:Cal):Fsy × Rep:=if Qar f c.ino=true then (f,⟨0,(Qaa f c.ino).kind,(Qaa f c.ino).links,Qcl (Qaa f c.ino),[],[]⟩) else (f,errR 6)
def Qc0 (f:Fsy) (c:Cal):Fsy × Rep:=if ofE f c.ino 1=0 then (f,⟨(Qdz (Qaa f c.ino).text c.at_ c.many).2,0,0,0,(Qdz (Qaa f c.ino).text c.at_ c.many).1,[]⟩) else (f,errR (ofE f c.ino 1))
def Qb2 (f:Fsy) (c:Cal):Fsy × Rep:=if ofE f c.ino 1=0 then (putF f (Qbg (Qaa f c.ino) (Qat (Qaa f c.ino).text c.at_ c.text).1),⟨(Qat (Qaa f c.ino).text c.at_ c.text).2,(c.text.length:Int),0,0,[],[]⟩) else (f,errR (ofE f c.ino 1))
def cutO (f:Fsy) (c:Cal):Fsy × Rep:=if ofE f c.ino 1=0 then (putF f (Qbg (Qaa f c.ino) (cutD (Qaa f c.ino).text c.many).1),errR (cutD (Qaa f c.ino).text c.many).2) else (f,errR (ofE f c.ino 1))
noncomputable def addO (f:Fsy) (c:Cal) (n:Nod):Fsy × Rep:=(if Qak f c.ino c.name n=0 then addF f c.ino c.name (addN f n) else f,⟨Qak f c.ino c.name n,f.next,0,0,[],[]⟩)
noncomputable def symO (f:Fsy) (c:Cal):Fsy × Rep:=if (c.text.length:Int)>4096 then (f,errR 5) else addO f c ⟨0,3,0,c.text,[]⟩
noncomputable def Qa9 (f:Fsy) (c:Cal) (dir:Bool) (odd:Int):Fsy × Rep:=
 if Qaz f c.ino c.name=0 then (if (((lookN f c.ino c.name).kind==2) != dir)=true then (f,errR odd) else (Qdx f c.ino c.name,errR (Qbh f c.ino c.name))) else (f,errR (Qaz f c.ino c.name))
noncomputable def Qd3 (f:Fsy) (c:Cal):Fsy × Rep:=(Qc1 f c.ino c.name c.to,errR (Qa5 f c.ino c.name c.to))
noncomputable def renO (f:Fsy) (c:Cal):Fsy × Rep:=(movF f c.ino c.name c.to c.name2,errR (Qa8 f c.ino c.name c.to c.name2))
def Qdy (f:Fsy) (c:Cal):Fsy × Rep:=(f,⟨ofE f c.ino 3,0,0,0,(ofN f c.ino 3).text,[]⟩)
def Qd8 (f:Fsy) (c:Cal):Fsy × Rep:=(f,⟨dirE f c.ino,0,0,0,[],(dirN f c.ino).l.map Ent.name⟩)
def txtS (l:List Nod):Nat:=(l.map fun n=>n.text.length).sum
def sfsO (f:Fsy):Fsy × Rep:=(f,⟨0,(f.l.length:Int),(txtS f.l:Int),0,[],[]⟩)
theorem Qzx {f:Fsy} {i k:Int} (h:Qar f i=false):ofE f i k=6∧ofN f i k=nod0:=by
 have e:ofE f i k=6:=by unfold ofE;rw [h];rfl
 exact ⟨e,by unfold ofN;rw [e];rfl⟩
theorem Qqf {f:Fsy} {i k:Int} (h:Qar f i=true) (h2:¬ (Qaa f i).kind=k):ofE f i k=14∧ofN f i k=nod0:=by
 have e:ofE f i k=14:=by unfold ofE;rw [if_pos h,if_neg h2]
 exact ⟨e,by unfold ofN;rw [e];rfl⟩
theorem Qst {f:Fsy} {i k:Int} (h:Qar f i=true) (h2:(Qaa f i).kind=k):ofE f i k=0∧ofN f i k=Qaa f i:=by
 have e:ofE f i k=0:=by unfold ofE;rw [if_pos h,if_pos h2]
 exact ⟨e,by unfold ofN;rw [e];rfl⟩
theorem Quh {f:Fsy} {i k:Int} (h:ofE f i k=0):ofN f i k=Qaa f i:=if_pos h
theorem Qaw (e a b n:Int) (t:Txt):Sub (.agg [aI e,aI a,aI b,aI n,aS t,aN]) (.agg (repA ⟨e,a,b,n,t,[]⟩)):=Sub.aggs ⟨sR,sR,sR,sR,sR,Sub.nil _ _,trivial⟩
theorem Qe1 {f:Fsy} (hp:Qal f) (i:Int):(Qaa f i).text.length≤4096:=by
 by_cases h:Qar f i=true
 ·rcases ((Qbj.1 hp).2.2.1 _ (Qey h)).1.2.2.2 with ⟨_,h1,_⟩ | ⟨_,h1,_⟩
  ·rw [h1];decide
  ·exact h1
 ·rw [(Qtq (Qgr (by simpa using h))).2];decide
theorem Qkh {f:Fsy} (hp:Qal f) {n:Nod} (hn:n∈f.l):n.text.length≤4096:=by
 rcases ((Qbj.1 hp).2.2.1 _ hn).1.2.2.2 with ⟨_,h1,_⟩ | ⟨_,h1,_⟩
 ·rw [h1];decide
 ·exact h1
theorem Qoo (f:Fsy) (i k:Int) (hp:Qal f):Qaj Tryz.prog 147 [.agg (fsyA f),aI i,aI k] (.tup [.agg (nodA (ofN f i k)),aI (ofE f i k)]):=by
 have hl:=hp.1
 have hr:=Qad hp
 exact Qac (F:=Tryz.f147) 400 (
 .new fun b1=>.new fun b2=>.r 1<|.run 2 [b1=b1] rt1<|
 .call (Qce f i (by omega) hr)<|
 .r 3<|.new fun b3=>.run 2 [b3=b3] rt1<|
 .r 2<|.br 17 (!(Qar f i)) (fun q1=>have q1:=notT q1;have p1:=booF q1;.run 3 [b2=b2] rt1<|
 .fin (x:=.tup [.agg [aI 0,aI 0,aI 0,aS ([]),aN],aI 6]) (r:=.tup [.agg (nodA (ofN f i k)),aI (ofE f i k)]) [b2=b2] rt1 (by
  obtain ⟨e1,e2⟩:=Qzx (k:=k) q1
  exact Sub.tups ⟨Qdj e2,Sub.of_eq (congrArg aI e1.symm),trivial⟩))
 <| fun q1=>have q1:=notF q1;have p1:=booT q1;.run 4 [b3=b3] rt1<|
 .br 22 (((Qaa f i).kind) != k) (fun q2=>have p2:=bneT q2;.run 3 [b2=b2] rt1<|
 .fin (x:=.tup [.agg [aI 0,aI 0,aI 0,aS ([]),aN],aI 14]) (r:=.tup [.agg (nodA (ofN f i k)),aI (ofE f i k)]) [b2=b2] rt1 (by
  obtain ⟨e1,e2⟩:=Qqf q1 (bneT q2)
  exact Sub.tups ⟨Qdj e2,Sub.of_eq (congrArg aI e1.symm),trivial⟩))
 <| fun q2=>have p2:=bneF q2;.run 3 [b3=b3,b2=b2] rt2<|
 .fin (x:=.tup [.agg [aI ((Qaa f i).ino),aI ((Qaa f i).kind),aI ((Qaa f i).links),aS ((Qaa f i).text),.sl 2 false ((Qaa f i).l.map entA)],aI 0]) (r:=.tup [.agg (nodA (ofN f i k)),aI (ofE f i k)]) [b2=b2] rt1 (by
  obtain ⟨e1,e2⟩:=Qst q1 (bneF q2)
  rw [e1,e2]
  exact sR)) Tryz.func147 rfl (by kernel_rfl) (by kernel_rfl)
theorem Qxb (f:Fsy) (c:Cal) (okf:OkF f) (okc:OkCal c) (hp:Qal f):Qaj Tryz.prog 130 [.agg (fsyA f),.agg [aI c.kind,aI c.ino,aI c.to,aI c.at_,aI c.many,aS c.name,aS c.name2,aS c.text]] (.tup [.agg (fsyA (Qea f c).1),.agg (repA (Qea f c).2)]):=by
 have hl:=hp.1
 have hr:=Qad hp
 have hcn:=okc.name
 have hcn2:=okc.name2
 have hct:=okc.text
 exact Qac (F:=Tryz.f130) 400 (
 .new fun b1=>.new fun b2=>.new fun b3=>.new fun b4=>.run 5 [b1=b1,b2=b2,b2=b2] rt3<|
 .call (Qim f c.ino c.name hp hcn)<|
 .r 3<|.new fun b5=>.run 2 [b5=b5] rt1<|
 let J1:Jn (Unit):=⟨fun j1=>⟨[(4,.ptr 4 b3 0),(5,.ptr 5 b4 0)],[(4,.box b3 28 (fsyA f)),(5,.box b4 45 [aI (Qaz f c.ino c.name),aI ((lookN f c.ino c.name).ino),aI 0,aI 0,aS ([]),aN])]⟩,fun _=>True⟩
 .cut J1 (.pick [0,1,2]<|.run 3 [b1=b1] rt1<|
 .fork<|.alt (.run 1 [b5=b5] rt1<|
 .pick [4,5,6]<|.run 3 [b3=b3,b4=b4] rt2<|
 .join J1 () trivial ⟨[(4,.ptr 4 b3 0),(5,.ptr 5 b4 0)],[(4,.box b3 28 (fsyA f)),(5,.box b4 45 [aI (Qaz f c.ino c.name),aI ((lookN f c.ino c.name).ino),aI 0,aI 0,aS ([]),aN])]⟩ sr2 ⟨⟨_,rfl,SubB.refl _⟩,⟨_,rfl,SubB.refl _⟩,trivial⟩)
 <| .run 1 [b3=b3] rt1<|
 .pick [3,4,6]<|.run 3 [b5=b5,b4=b4] rt2<|
 .join J1 () trivial ⟨[(4,.ptr 4 b3 0),(5,.ptr 5 b4 0)],[(4,.box b3 28 (fsyA f)),(5,.box b4 45 [aI (Qaz f c.ino c.name),aI ((lookN f c.ino c.name).ino),aI 0,aI 0,aS ([]),aN])]⟩ sr2 ⟨⟨_,rfl,SubB.refl _⟩,⟨_,rfl,SubB.refl _⟩,trivial⟩)
 <| fun _ _=>.fin (x:=.tup [.agg (fsyA f),.agg [aI (Qaz f c.ino c.name),aI ((lookN f c.ino c.name).ino),aI 0,aI 0,aS ([]),aN]]) (r:=.tup [.agg (fsyA (Qea f c).1),.agg (repA (Qea f c).2)]) [b3=b3,b4=b4] rt2 (by exact Sub.tups ⟨sR,(Qaw _ _ _ _ _),trivial⟩)) Tryz.func130 rfl (by kernel_rfl) (by kernel_rfl)
theorem Qw9 (f:Fsy) (c:Cal) (okf:OkF f) (okc:OkCal c) (hp:Qal f):Qaj Tryz.prog 131 [.agg (fsyA f),.agg [aI c.kind,aI c.ino,aI c.to,aI c.at_,aI c.many,aS c.name,aS c.name2,aS c.text]] (.tup [.agg (fsyA (Qcz f c).1),.agg (repA (Qcz f c).2)]):=by
 have hl:=hp.1
 have hr:=Qad hp
 have hcn:=okc.name
 have hcn2:=okc.name2
 have hct:=okc.text
 exact Qac (F:=Tryz.f131) 400 (
 .new fun b1=>.new fun b2=>.new fun b3=>.new fun b4=>.run 3 [b1=b1,b2=b2] rt2<|
 .call (Qce f c.ino (by omega) hr)<|
 .r 3<|.new fun b5=>.run 2 [b5=b5] rt1<|
 .r 2<|.br 16 (!(Qar f c.ino)) (fun q1=>have q1:=notT q1;have p1:=booF q1;.run 4 [b1=b1,b3=b3,b4=b4] rt3<|
 .fin (x:=.tup [.agg (fsyA f),.agg [aI 6,aI 0,aI 0,aI 0,aS ([]),aN]]) (r:=.tup [.agg (fsyA (Qcz f c).1),.agg (repA (Qcz f c).2)]) [b3=b3,b4=b4] rt2 (by
  have e:Qcz f c=_:=if_neg (by rw [q1];decide)
  rw [e]
  exact Sub.tups ⟨sR,(Qaw _ _ _ _ _),trivial⟩))
 <| fun q1=>have q1:=notF q1;have p1:=booT q1;let J1:Jn (Unit):=⟨fun j1=>⟨[(4,.ptr 4 b3 0),(5,.ptr 5 b4 0)],[(4,.box b3 28 (fsyA f)),(5,.box b4 45 [aI 0,aI ((Qaa f c.ino).kind),aI ((Qaa f c.ino).links),aI (Qcl (Qaa f c.ino)),aS ([]),aN])]⟩,fun _=>True⟩
 .cut J1 (.pick [0,1,3,5]<|.run 4 [b1=b1,b5=b5] rt2<|
 .fork<|.alt (.run 1 [b5=b5] rt1<|
 .fork<|.alt (.run 1 [b5=b5] rt1<|
 .pick [6,7,8,9]<|.call (Qgd (Qaa f c.ino))<|
 .run 3 [b3=b3,b4=b4] rt2<|
 .join J1 () trivial ⟨[(4,.ptr 4 b3 0),(5,.ptr 5 b4 0)],[(4,.box b3 28 (fsyA f)),(5,.box b4 45 [aI 0,aI ((Qaa f c.ino).kind),aI ((Qaa f c.ino).links),aI (Qcl (Qaa f c.ino)),aS ([]),aN])]⟩ sr2 ⟨⟨_,rfl,SubB.refl _⟩,⟨_,rfl,SubB.refl _⟩,trivial⟩)
 <| .call (Qgd (Qaa f c.ino))<|
 .fork<|.alt (.run 1 [b5=b5] rt1<|
 .pick [7,8,9]<|.run 3 [b3=b3,b4=b4] rt2<|
 .join J1 () trivial ⟨[(4,.ptr 4 b3 0),(5,.ptr 5 b4 0)],[(4,.box b3 28 (fsyA f)),(5,.box b4 45 [aI 0,aI ((Qaa f c.ino).kind),aI ((Qaa f c.ino).links),aI (Qcl (Qaa f c.ino)),aS ([]),aN])]⟩ sr2 ⟨⟨_,rfl,SubB.refl _⟩,⟨_,rfl,SubB.refl _⟩,trivial⟩)
 <| .run 1 [b3=b3] rt1<|
 .pick [4,7,9]<|.run 3 [b5=b5,b4=b4] rt2<|
 .join J1 () trivial ⟨[(4,.ptr 4 b3 0),(5,.ptr 5 b4 0)],[(4,.box b3 28 (fsyA f)),(5,.box b4 45 [aI 0,aI ((Qaa f c.ino).kind),aI ((Qaa f c.ino).links),aI (Qcl (Qaa f c.ino)),aS ([]),aN])]⟩ sr2 ⟨⟨_,rfl,SubB.refl _⟩,⟨_,rfl,SubB.refl _⟩,trivial⟩)
 <| .alt (.run 1 [b5=b5] rt1<|
 .fork<|.alt (.run 1 [b5=b5] rt1<|
 .pick [6,7,8,9]<|.call (Qgd (Qaa f c.ino))<|
 .run 3 [b3=b3,b4=b4] rt2<|
 .join J1 () trivial ⟨[(4,.ptr 4 b3 0),(5,.ptr 5 b4 0)],[(4,.box b3 28 (fsyA f)),(5,.box b4 45 [aI 0,aI ((Qaa f c.ino).kind),aI ((Qaa f c.ino).links),aI (Qcl (Qaa f c.ino)),aS ([]),aN])]⟩ sr2 ⟨⟨_,rfl,SubB.refl _⟩,⟨_,rfl,SubB.refl _⟩,trivial⟩)
 <| .call (Qgd (Qaa f c.ino))<|
 .fork<|.alt (.run 1 [b5=b5] rt1<|
 .pick [7,8,9]<|.run 3 [b3=b3,b4=b4] rt2<|
 .join J1 () trivial ⟨[(4,.ptr 4 b3 0),(5,.ptr 5 b4 0)],[(4,.box b3 28 (fsyA f)),(5,.box b4 45 [aI 0,aI ((Qaa f c.ino).kind),aI ((Qaa f c.ino).links),aI (Qcl (Qaa f c.ino)),aS ([]),aN])]⟩ sr2 ⟨⟨_,rfl,SubB.refl _⟩,⟨_,rfl,SubB.refl _⟩,trivial⟩)
 <| .run 1 [b3=b3] rt1<|
 .pick [2,7,9]<|.run 3 [b5=b5,b4=b4] rt2<|
 .join J1 () trivial ⟨[(4,.ptr 4 b3 0),(5,.ptr 5 b4 0)],[(4,.box b3 28 (fsyA f)),(5,.box b4 45 [aI 0,aI ((Qaa f c.ino).kind),aI ((Qaa f c.ino).links),aI (Qcl (Qaa f c.ino)),aS ([]),aN])]⟩ sr2 ⟨⟨_,rfl,SubB.refl _⟩,⟨_,rfl,SubB.refl _⟩,trivial⟩)
 <| .call (Qgd (Qaa f c.ino))<|
 .fork<|.alt (.run 1 [b5=b5] rt1<|
 .fork<|.alt (.run 1 [b5=b5] rt1<|
 .pick [7,8,9]<|.run 3 [b3=b3,b4=b4] rt2<|
 .join J1 () trivial ⟨[(4,.ptr 4 b3 0),(5,.ptr 5 b4 0)],[(4,.box b3 28 (fsyA f)),(5,.box b4 45 [aI 0,aI ((Qaa f c.ino).kind),aI ((Qaa f c.ino).links),aI (Qcl (Qaa f c.ino)),aS ([]),aN])]⟩ sr2 ⟨⟨_,rfl,SubB.refl _⟩,⟨_,rfl,SubB.refl _⟩,trivial⟩)
 <| .run 1 [b3=b3] rt1<|
 .pick [4,7,9]<|.run 3 [b5=b5,b4=b4] rt2<|
 .join J1 () trivial ⟨[(4,.ptr 4 b3 0),(5,.ptr 5 b4 0)],[(4,.box b3 28 (fsyA f)),(5,.box b4 45 [aI 0,aI ((Qaa f c.ino).kind),aI ((Qaa f c.ino).links),aI (Qcl (Qaa f c.ino)),aS ([]),aN])]⟩ sr2 ⟨⟨_,rfl,SubB.refl _⟩,⟨_,rfl,SubB.refl _⟩,trivial⟩)
 <| .alt (.run 1 [b5=b5] rt1<|
 .fork<|.alt (.run 1 [b5=b5] rt1<|
 .pick [7,8,9]<|.run 3 [b3=b3,b4=b4] rt2<|
 .join J1 () trivial ⟨[(4,.ptr 4 b3 0),(5,.ptr 5 b4 0)],[(4,.box b3 28 (fsyA f)),(5,.box b4 45 [aI 0,aI ((Qaa f c.ino).kind),aI ((Qaa f c.ino).links),aI (Qcl (Qaa f c.ino)),aS ([]),aN])]⟩ sr2 ⟨⟨_,rfl,SubB.refl _⟩,⟨_,rfl,SubB.refl _⟩,trivial⟩)
 <| .run 1 [b3=b3] rt1<|
 .pick [2,7,9]<|.run 3 [b5=b5,b4=b4] rt2<|
 .join J1 () trivial ⟨[(4,.ptr 4 b3 0),(5,.ptr 5 b4 0)],[(4,.box b3 28 (fsyA f)),(5,.box b4 45 [aI 0,aI ((Qaa f c.ino).kind),aI ((Qaa f c.ino).links),aI (Qcl (Qaa f c.ino)),aS ([]),aN])]⟩ sr2 ⟨⟨_,rfl,SubB.refl _⟩,⟨_,rfl,SubB.refl _⟩,trivial⟩)
 <| .run 1 [b3=b3] rt1<|
 .pick [2,4,7,9]<|.run 4 [b5=b5,b5=b5,b4=b4] rt3<|
 .join J1 () trivial ⟨[(4,.ptr 4 b3 0),(5,.ptr 5 b4 0)],[(4,.box b3 28 (fsyA f)),(5,.box b4 45 [aI 0,aI ((Qaa f c.ino).kind),aI ((Qaa f c.ino).links),aI (Qcl (Qaa f c.ino)),aS ([]),aN])]⟩ sr2 ⟨⟨_,rfl,SubB.refl _⟩,⟨_,rfl,SubB.refl _⟩,trivial⟩)
 <| fun _ _=>.fin (x:=.tup [.agg (fsyA f),.agg [aI 0,aI ((Qaa f c.ino).kind),aI ((Qaa f c.ino).links),aI (Qcl (Qaa f c.ino)),aS ([]),aN]]) (r:=.tup [.agg (fsyA (Qcz f c).1),.agg (repA (Qcz f c).2)]) [b3=b3,b4=b4] rt2 (by
  have e:Qcz f c=_:=if_pos q1
  rw [e]
  exact Sub.tups ⟨sR,(Qaw _ _ _ _ _),trivial⟩)) Tryz.func131 rfl (by kernel_rfl) (by kernel_rfl)
theorem Ziw (f:Fsy) (c:Cal) (okf:OkF f) (okc:OkCal c) (hp:Qal f):Qaj Tryz.prog 132 [.agg (fsyA f),.agg [aI c.kind,aI c.ino,aI c.to,aI c.at_,aI c.many,aS c.name,aS c.name2,aS c.text]] (.tup [.agg (fsyA (Qc0 f c).1),.agg (repA (Qc0 f c).2)]):=by
 have hl:=hp.1
 have hr:=Qad hp
 have hcn:=okc.name
 have hcn2:=okc.name2
 have hct:=okc.text
 exact Qac (F:=Tryz.f132) 400 (
 .new fun b1=>.new fun b2=>.new fun b3=>.new fun b4=>.run 3 [b1=b1,b2=b2] rt2<|
 .call (Qoo f c.ino 1 hp)<|
 .r 3<|.new fun b5=>.run 2 [b5=b5] rt1<|
 .r 2<|.br 17 ((ofE f c.ino 1) != 0) (fun q1=>have p1:=bneT q1;.run 5 [b1=b1,b3=b3,b4=b4] rt3<|
 .fin (x:=.tup [.agg (fsyA f),.agg [aI (ofE f c.ino 1),aI 0,aI 0,aI 0,aS ([]),aN]]) (r:=.tup [.agg (fsyA (Qc0 f c).1),.agg (repA (Qc0 f c).2)]) [b3=b3,b4=b4] rt2 (by
  have e:Qc0 f c=_:=if_neg (bneT q1)
  rw [e]
  exact Sub.tups ⟨sR,(Qaw _ _ _ _ _),trivial⟩))
 <| fun q1=>have p1:=bneF q1;have eo:=Quh (show ofE f c.ino 1=0 from bneF q1);.run 6 [b5=b5,b2=b2,b2=b2] rt3<|
 .callS (args0:=[aS ((ofN f c.ino 1).text),aI c.at_,aI c.many]) (args:=[aS ((Qaa f c.ino).text),aI c.at_,aI c.many]) ⟨by rw [eo];exact sR,sR,sR,trivial⟩ (Qxa (Qaa f c.ino).text c.at_ c.many (by have:=Qe1 hp c.ino;omega) okc.at_ okc.many)<|
 .r 5<|.run 6 [b1=b1,b3=b3,b4=b4] rt3<|
 .fin (x:=.tup [.agg (fsyA f),.agg [aI ((Qdz (Qaa f c.ino).text c.at_ c.many).2),aI 0,aI 0,aI 0,aS ((Qdz (Qaa f c.ino).text c.at_ c.many).1),aN]]) (r:=.tup [.agg (fsyA (Qc0 f c).1),.agg (repA (Qc0 f c).2)]) [b3=b3,b4=b4] rt2 (by
  have e0:ofE f c.ino 1=0:=bneF q1
  have e:Qc0 f c=_:=if_pos e0
  rw [e]
  exact Sub.tups ⟨sR,(Qaw _ _ _ _ _),trivial⟩)) Tryz.func132 rfl (by kernel_rfl) (by kernel_rfl)
theorem Ze8 (f:Fsy) (c:Cal) (okf:OkF f) (okc:OkCal c) (hp:Qal f):Qaj Tryz.prog 133 [.agg (fsyA f),.agg [aI c.kind,aI c.ino,aI c.to,aI c.at_,aI c.many,aS c.name,aS c.name2,aS c.text]] (.tup [.agg (fsyA (Qb2 f c).1),.agg (repA (Qb2 f c).2)]):=by
 have hl:=hp.1
 have hr:=Qad hp
 have hcn:=okc.name
 have hcn2:=okc.name2
 have hct:=okc.text
 exact Qac (F:=Tryz.f133) 400 (
 .new fun b1=>.new fun b2=>.new fun b3=>.new fun b4=>.run 3 [b1=b1,b2=b2] rt2<|
 .call (Qoo f c.ino 1 hp)<|
 .r 3<|.new fun b5=>.run 2 [b5=b5] rt1<|
 .r 2<|.br 16 ((ofE f c.ino 1) != 0) (fun q1=>have p1:=bneT q1;.run 5 [b1=b1,b3=b3,b4=b4] rt3<|
 .fin (x:=.tup [.agg (fsyA f),.agg [aI (ofE f c.ino 1),aI 0,aI 0,aI 0,aS ([]),aN]]) (r:=.tup [.agg (fsyA (Qb2 f c).1),.agg (repA (Qb2 f c).2)]) [b3=b3,b4=b4] rt2 (by
  have e:Qb2 f c=_:=if_neg (bneT q1)
  rw [e]
  exact Sub.tups ⟨sR,(Qaw _ _ _ _ _),trivial⟩))
 <| fun q1=>have p1:=bneF q1;have eo:=Quh (show ofE f c.ino 1=0 from bneF q1);.run 6 [b5=b5,b2=b2,b2=b2] rt3<|
 .callS (args0:=[aS ((ofN f c.ino 1).text),aI c.at_,aS c.text]) (args:=[aS ((Qaa f c.ino).text),aI c.at_,aS c.text]) ⟨by rw [eo];exact sR,sR,sR,trivial⟩ (Qs9 (Qaa f c.ino).text c.at_ c.text (by have:=Qe1 hp c.ino;omega) okc.at_ hct)<|
 .run 6 [b5=b5] rt1<|
 let J1:Jn (Unit):=⟨fun j1=>⟨[(4,.ptr 4 b3 0),(5,.ptr 5 b4 0)],[(4,.box b3 28 [.sl 5 false ((putF f (Qbg (Qaa f c.ino) (Qat (Qaa f c.ino).text c.at_ c.text).1)).l.map nodA),aI ((putF f (Qbg (Qaa f c.ino) (Qat (Qaa f c.ino).text c.at_ c.text).1)).next)]),(5,.box b4 45 [aI ((Qat (Qaa f c.ino).text c.at_ c.text).2),aI ((c.text).length:Int),aI 0,aI 0,aS ([]),aN])]⟩,fun _=>True⟩
 .cut J1 (.pick [0,1,3,4]<|.run 4 [b1=b1,b5=b5] rt2<|
 .fork<|.alt (.callS (args0:=[.agg (fsyA f),.agg [aI ((ofN f c.ino 1).ino),aI ((ofN f c.ino 1).kind),aI ((ofN f c.ino 1).links),aS ((Qat (Qaa f c.ino).text c.at_ c.text).1),.sl 2 false ((ofN f c.ino 1).l.map entA)]]) (args:=[.agg (fsyA f),.agg [aI ((Qbg (Qaa f c.ino) (Qat (Qaa f c.ino).text c.at_ c.text).1).ino),aI ((Qbg (Qaa f c.ino) (Qat (Qaa f c.ino).text c.at_ c.text).1).kind),aI ((Qbg (Qaa f c.ino) (Qat (Qaa f c.ino).text c.at_ c.text).1).links),aS ((Qbg (Qaa f c.ino) (Qat (Qaa f c.ino).text c.at_ c.text).1).text),.sl 2 false ((Qbg (Qaa f c.ino) (Qat (Qaa f c.ino).text c.at_ c.text).1).l.map entA)]]) ⟨sR,by rw [eo];exact sR,trivial⟩ (Qes f (Qbg (Qaa f c.ino) (Qat (Qaa f c.ino).text c.at_ c.text).1) (Qb4 okf hp c.ino) (by omega) hr)<|
 .fork<|.alt (.run 1 [b2=b2] rt1<|
 .pick [6,7,8,9]<|.run 4 [b3=b3,b4=b4] rt2<|
 .join J1 () trivial ⟨[(4,.ptr 4 b3 0),(5,.ptr 5 b4 0)],[(4,.box b3 28 [.sl 5 false ((putF f (Qbg (Qaa f c.ino) (Qat (Qaa f c.ino).text c.at_ c.text).1)).l.map nodA),aI ((putF f (Qbg (Qaa f c.ino) (Qat (Qaa f c.ino).text c.at_ c.text).1)).next)]),(5,.box b4 45 [aI ((Qat (Qaa f c.ino).text c.at_ c.text).2),aI ((c.text).length:Int),aI 0,aI 0,aS ([]),aN])]⟩ sr2 ⟨⟨_,rfl,SubB.refl _⟩,⟨_,rfl,SubB.refl _⟩,trivial⟩)
 <| .run 1 [b3=b3] rt1<|
 .pick [5,6,7,9]<|.run 4 [b2=b2,b4=b4] rt2<|
 .join J1 () trivial ⟨[(4,.ptr 4 b3 0),(5,.ptr 5 b4 0)],[(4,.box b3 28 [.sl 5 false ((putF f (Qbg (Qaa f c.ino) (Qat (Qaa f c.ino).text c.at_ c.text).1)).l.map nodA),aI ((putF f (Qbg (Qaa f c.ino) (Qat (Qaa f c.ino).text c.at_ c.text).1)).next)]),(5,.box b4 45 [aI ((Qat (Qaa f c.ino).text c.at_ c.text).2),aI ((c.text).length:Int),aI 0,aI 0,aS ([]),aN])]⟩ sr2 ⟨⟨_,rfl,SubB.refl _⟩,⟨_,rfl,SubB.refl _⟩,trivial⟩)
 <| .run 1 [b2=b2] rt1<|
 .pick [6,7,2,8,9]<|.r 2<|.callS (args0:=[.agg (fsyA f),.agg [aI ((ofN f c.ino 1).ino),aI ((ofN f c.ino 1).kind),aI ((ofN f c.ino 1).links),aS ((Qat (Qaa f c.ino).text c.at_ c.text).1),.sl 2 false ((ofN f c.ino 1).l.map entA)]]) (args:=[.agg (fsyA f),.agg [aI ((Qbg (Qaa f c.ino) (Qat (Qaa f c.ino).text c.at_ c.text).1).ino),aI ((Qbg (Qaa f c.ino) (Qat (Qaa f c.ino).text c.at_ c.text).1).kind),aI ((Qbg (Qaa f c.ino) (Qat (Qaa f c.ino).text c.at_ c.text).1).links),aS ((Qbg (Qaa f c.ino) (Qat (Qaa f c.ino).text c.at_ c.text).1).text),.sl 2 false ((Qbg (Qaa f c.ino) (Qat (Qaa f c.ino).text c.at_ c.text).1).l.map entA)]]) ⟨sR,by rw [eo];exact sR,trivial⟩ (Qes f (Qbg (Qaa f c.ino) (Qat (Qaa f c.ino).text c.at_ c.text).1) (Qb4 okf hp c.ino) (by omega) hr)<|
 .run 2 [b3=b3,b4=b4] rt2<|
 .join J1 () trivial ⟨[(4,.ptr 4 b3 0),(5,.ptr 5 b4 0)],[(4,.box b3 28 [.sl 5 false ((putF f (Qbg (Qaa f c.ino) (Qat (Qaa f c.ino).text c.at_ c.text).1)).l.map nodA),aI ((putF f (Qbg (Qaa f c.ino) (Qat (Qaa f c.ino).text c.at_ c.text).1)).next)]),(5,.box b4 45 [aI ((Qat (Qaa f c.ino).text c.at_ c.text).2),aI ((c.text).length:Int),aI 0,aI 0,aS ([]),aN])]⟩ sr2 ⟨⟨_,rfl,SubB.refl _⟩,⟨_,rfl,SubB.refl _⟩,trivial⟩)
 <| fun _ _=>.fin (x:=.tup [.agg [.sl 5 false ((putF f (Qbg (Qaa f c.ino) (Qat (Qaa f c.ino).text c.at_ c.text).1)).l.map nodA),aI ((putF f (Qbg (Qaa f c.ino) (Qat (Qaa f c.ino).text c.at_ c.text).1)).next)],.agg [aI ((Qat (Qaa f c.ino).text c.at_ c.text).2),aI ((c.text).length:Int),aI 0,aI 0,aS ([]),aN]]) (r:=.tup [.agg (fsyA (Qb2 f c).1),.agg (repA (Qb2 f c).2)]) [b3=b3,b4=b4] rt2 (by
  have e0:ofE f c.ino 1=0:=bneF q1
  have e:Qb2 f c=_:=if_pos e0
  rw [e]
  exact Sub.tups ⟨sR,(Qaw _ _ _ _ _),trivial⟩)) Tryz.func133 rfl (by kernel_rfl) (by kernel_rfl)
theorem dcut_o (f:Fsy) (c:Cal) (okf:OkF f) (okc:OkCal c) (hp:Qal f):Qaj Tryz.prog 134 [.agg (fsyA f),.agg [aI c.kind,aI c.ino,aI c.to,aI c.at_,aI c.many,aS c.name,aS c.name2,aS c.text]] (.tup [.agg (fsyA (cutO f c).1),.agg (repA (cutO f c).2)]):=by
 have hl:=hp.1
 have hr:=Qad hp
 have hcn:=okc.name
 have hcn2:=okc.name2
 have hct:=okc.text
 exact Qac (F:=Tryz.f134) 400 (
 .new fun b1=>.new fun b2=>.new fun b3=>.new fun b4=>.run 3 [b1=b1,b2=b2] rt2<|
 .call (Qoo f c.ino 1 hp)<|
 .r 3<|.new fun b5=>.run 2 [b5=b5] rt1<|
 .r 2<|.br 16 ((ofE f c.ino 1) != 0) (fun q1=>have p1:=bneT q1;.run 5 [b1=b1,b3=b3,b4=b4] rt3<|
 .fin (x:=.tup [.agg (fsyA f),.agg [aI (ofE f c.ino 1),aI 0,aI 0,aI 0,aS ([]),aN]]) (r:=.tup [.agg (fsyA (cutO f c).1),.agg (repA (cutO f c).2)]) [b3=b3,b4=b4] rt2 (by
  have e:cutO f c=_:=if_neg (bneT q1)
  rw [e]
  exact Sub.tups ⟨sR,(Qaw _ _ _ _ _),trivial⟩))
 <| fun q1=>have p1:=bneF q1;have eo:=Quh (show ofE f c.ino 1=0 from bneF q1);.run 4 [b5=b5,b2=b2] rt2<|
 .callS (args0:=[aS ((ofN f c.ino 1).text),aI c.many]) (args:=[aS ((Qaa f c.ino).text),aI c.many]) ⟨by rw [eo];exact sR,sR,trivial⟩ (Zbz (Qaa f c.ino).text c.many (by have:=Qe1 hp c.ino;omega) okc.many)<|
 .run 6 [b5=b5] rt1<|
 .run 2 [b1=b1,b5=b5] rt2<|
 .callS (args0:=[.agg (fsyA f),.agg [aI ((ofN f c.ino 1).ino),aI ((ofN f c.ino 1).kind),aI ((ofN f c.ino 1).links),aS ((cutD (Qaa f c.ino).text c.many).1),.sl 2 false ((ofN f c.ino 1).l.map entA)]]) (args:=[.agg (fsyA f),.agg [aI ((Qbg (Qaa f c.ino) (cutD (Qaa f c.ino).text c.many).1).ino),aI ((Qbg (Qaa f c.ino) (cutD (Qaa f c.ino).text c.many).1).kind),aI ((Qbg (Qaa f c.ino) (cutD (Qaa f c.ino).text c.many).1).links),aS ((Qbg (Qaa f c.ino) (cutD (Qaa f c.ino).text c.many).1).text),.sl 2 false ((Qbg (Qaa f c.ino) (cutD (Qaa f c.ino).text c.many).1).l.map entA)]]) ⟨sR,by rw [eo];exact sR,trivial⟩ (Qes f (Qbg (Qaa f c.ino) (cutD (Qaa f c.ino).text c.many).1) (Qb4 okf hp c.ino) (by omega) hr)<|
 .run 4 [b3=b3,b4=b4] rt2<|
 .fin (x:=.tup [.agg [.sl 5 false ((putF f (Qbg (Qaa f c.ino) (cutD (Qaa f c.ino).text c.many).1)).l.map nodA),aI ((putF f (Qbg (Qaa f c.ino) (cutD (Qaa f c.ino).text c.many).1)).next)],.agg [aI ((cutD (Qaa f c.ino).text c.many).2),aI 0,aI 0,aI 0,aS ([]),aN]]) (r:=.tup [.agg (fsyA (cutO f c).1),.agg (repA (cutO f c).2)]) [b3=b3,b4=b4] rt2 (by
  have e0:ofE f c.ino 1=0:=bneF q1
  have e:cutO f c=_:=if_pos e0
  rw [e]
  exact Sub.tups ⟨sR,(Qaw _ _ _ _ _),trivial⟩)) Tryz.func134 rfl (by kernel_rfl) (by kernel_rfl)
end Go.Proofs.YtahlldgocpabjaaGreat
