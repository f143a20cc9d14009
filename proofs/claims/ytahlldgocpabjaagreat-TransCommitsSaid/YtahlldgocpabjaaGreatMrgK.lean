import Derived.Test.YtahlldgocpabjaaGreatMrgA
import Derived.Test.YtahlldgocpabjaaGreatRows
import Derived.Test.YtahlldgocpabjaaGreatMrgH
import Derived.Laws.Externs
import Derived.Lib.Bytealg
set_option linter.unusedVariables false
namespace Copyhold.Name
abbrev Ent:=List UInt8 × Int
def okN (s:List UInt8):Bool:=!(s==[])&&!(s==[46])&&!(s==[46,46])&&decide (s.length≤32)&&!s.contains 47&&!s.contains 0
def okE (x:Ent):Bool:=okN x.1&&decide (1≤x.2)
def upAt (l:List Ent) (i:Nat) (x:Ent):Bool:=i==0||(match l[i-1]? with | some y=>decide (y.1<x.1) | none=>true)
def okAt (l:List Ent) (i:Nat):Bool:=match l[i]? with | none=>true | some x=>okE x&&upAt l i x
def rightE (l:List Ent):Bool:=decide (l.length≤256)&&(List.range l.length).all (okAt l)
def Srt (l:List Ent):Prop:=l.Pairwise (fun a b=>a.1<b.1)
theorem ltT {a b c:List UInt8} (h:a<b) (h2:b<c):a<c:=List.lt_trans h h2
theorem ltI {a:List UInt8} (h:a<a):False:=List.lt_irrefl a h
theorem ltA {a b:List UInt8} (h:¬ a<b) (h2:¬ b<a):a=b:=List.le_antisymm (List.not_lt.mp h2) (List.not_lt.mp h)
theorem rightE_iff (l:List Ent):rightE l=true↔l.length≤256∧(∀ x∈l,okE x=true)∧Srt l:=by
 constructor
 ·intro h;simp only [rightE,Bool.and_eq_true,decide_eq_true_eq,List.all_eq_true,List.mem_range] at h;obtain ⟨h1,h2⟩:=h;have ha:∀ i (hi:i<l.length),okE l[i]=true∧(∀ j (hj:j<l.length),j+1=i→l[j].1<l[i].1):=by
   intro i hi;have:=h2 i hi;simp only [okAt,List.getElem?_eq_getElem hi,Bool.and_eq_true,upAt,Bool.or_eq_true,beq_iff_eq] at this;refine ⟨this.1,fun j hj e=>?_⟩;rcases this.2 with h0 | h0
   ·omega
   ·rw [show i-1=j from by omega,List.getElem?_eq_getElem hj] at h0;simpa using h0
  refine ⟨h1,fun x hx=>?_,?_⟩
  ·obtain ⟨i,hi,rfl⟩:=List.mem_iff_getElem.1 hx;exact (ha i hi).1
  ·refine List.pairwise_iff_getElem.2 fun i j hi hj hij=>?_;obtain ⟨d,rfl⟩:∃ d,j=i+1+d:=⟨j-i-1,by omega⟩
   clear hij
   induction d with
   | zero=>exact (ha (i+1) hj).2 i hi rfl
   | succ d ih=>exact ltT (ih (by omega)) ((ha (i+1+(d+1)) hj).2 (i+1+d) (by omega) rfl)
 ·rintro ⟨h1,h2,h3⟩;simp only [rightE,Bool.and_eq_true,decide_eq_true_eq,List.all_eq_true,List.mem_range];refine ⟨h1,fun i hi=>?_⟩;simp only [okAt,List.getElem?_eq_getElem hi,Bool.and_eq_true,upAt,Bool.or_eq_true,beq_iff_eq];refine ⟨h2 _ (List.getElem_mem _),?_⟩;by_cases h0:i=0
  ·exact .inl h0
  ·right;rw [List.getElem?_eq_getElem (by omega)];simp only [decide_eq_true_eq];exact List.pairwise_iff_getElem.1 h3 (i-1) i (by omega) hi (by omega)
def pos (l:List Ent) (s:List UInt8):Nat:=l.countP (fun x=>decide (x.1<s))
def isAt (l:List Ent) (s:List UInt8):Bool:=l.any (fun x=>x.1==s)
def getE (l:List Ent) (s:List UInt8):Option Int:=(l.find? (fun x=>x.1==s)).map (·.2)
def insE:List Ent→Ent→List Ent
 | [],x=>[x]
 | a :: l,x=>if a.1<x.1 then a :: insE l x else x :: a :: l
def delE (l:List Ent) (s:List UInt8):List Ent:=l.filter (fun x=>!(x.1==s))
theorem pos_le (l:List Ent) (s:List UInt8):pos l s≤l.length:=List.countP_le_length
theorem Srt.tail {a:Ent} {l:List Ent} (h:Srt (a :: l)):Srt l:=(List.pairwise_cons.1 h).2
theorem Srt.head {a:Ent} {l:List Ent} (h:Srt (a :: l)):∀ x∈l,a.1<x.1:=(List.pairwise_cons.1 h).1
theorem pos_lt {a:Ent} {l:List Ent} {s:List UInt8} (h:a.1<s):pos (a :: l) s=pos l s+1:=by
 simp [pos,h]
theorem pos_ge {a:Ent} {l:List Ent} {s:List UInt8} (hs:Srt (a :: l)) (h:¬ a.1<s):pos (a :: l) s=0:=by
 unfold pos;rw [List.countP_eq_zero];intro x hx;rcases List.mem_cons.1 hx with rfl | hx
 ·simpa using h
 ·simp only [decide_eq_true_eq];exact fun hxs=>h (ltT (hs.head x hx) hxs)
theorem take_ins {l:List Ent} (h:Srt l) (s:List UInt8) (n:Int):l.take (pos l s)++(s,n) :: l.drop (pos l s)=insE l (s,n):=by
 induction l with
 | nil=>rfl
 | cons a l ih=>
  by_cases ha:a.1<s
  ·rw [pos_lt ha];simp only [List.take_succ_cons,List.drop_succ_cons,List.cons_append,insE,ha,if_true];rw [ih h.tail]
  ·rw [pos_ge h ha];simp [insE,ha]
theorem Qd1 (a:Ent) (l:List Ent) (s:List UInt8):isAt (a :: l) s=(a.1==s||isAt l s):=rfl
theorem Qkg {l:List Ent} {s:List UInt8}:isAt l s=true↔∃ x∈l,x.1=s:=by simp [isAt]
theorem Qnc {a:Ent} {l:List Ent} {s:List UInt8} (h:Srt (a :: l)) (ha:¬ a.1<s):isAt l s=false:=by
 rw [Bool.eq_false_iff];intro hi;obtain ⟨x,hx,rfl⟩:=Qkg.1 hi;exact ha (h.head x hx)
theorem del_none {l:List Ent} {s:List UInt8} (h:isAt l s=false):delE l s=l:=by
 unfold delE;rw [List.filter_eq_self];intro x hx;rw [Bool.eq_false_iff] at h;simp only [Bool.not_eq_true',beq_eq_false_iff_ne];exact fun e=>h (Qkg.2 ⟨x,hx,e⟩)
theorem take_del {l:List Ent} (h:Srt l) {s:List UInt8} (hi:isAt l s=true):l.take (pos l s)++l.drop (pos l s+1)=delE l s:=by
 induction l with
 | nil=>rfl
 | cons a l ih=>
  by_cases ha:a.1<s
  ·have hne:(a.1==s)=false:=by
    rw [beq_eq_false_iff_ne];rintro rfl;exact ltI ha
   rw [Qd1,hne,Bool.false_or] at hi;rw [pos_lt ha];simp only [List.take_succ_cons,List.drop_succ_cons,List.cons_append,delE,List.filter_cons,hne,Bool.not_false,if_true];rw [ih h.tail hi];rfl
  ·have hn:=Qnc h ha;rw [Qd1,hn,Bool.or_false] at hi;rw [pos_ge h ha];simp only [List.take_zero,List.nil_append,Nat.zero_add,List.drop_succ_cons,List.drop_zero,delE,List.filter_cons,hi,Bool.not_true];exact (del_none hn).symm
theorem at_pos {l:List Ent} (h:Srt l) (s:List UInt8):(l[pos l s]?.any (fun x=>x.1==s))=isAt l s:=by
 induction l with
 | nil=>rfl
 | cons a l ih=>
  by_cases ha:a.1<s
  ·have hne:(a.1==s)=false:=by
    rw [beq_eq_false_iff_ne];rintro rfl;exact ltI ha
   rw [pos_lt ha,List.getElem?_cons_succ,ih h.tail,Qd1,hne,Bool.false_or]
  ·rw [pos_ge h ha,Qd1,Qnc h ha,Bool.or_false];rfl
theorem get_pos {l:List Ent} (h:Srt l) {s:List UInt8} (hi:isAt l s=true):∃ x,l[pos l s]?=some x∧x.1=s∧getE l s=some x.2:=by
 induction l with
 | nil=>cases hi
 | cons a l ih=>
  by_cases ha:a.1<s
  ·have hne:(a.1==s)=false:=by
    rw [beq_eq_false_iff_ne];rintro rfl;exact ltI ha
   rw [Qd1,hne,Bool.false_or] at hi;obtain ⟨x,h1,h2,h3⟩:=ih h.tail hi;refine ⟨x,by rw [pos_lt ha,List.getElem?_cons_succ,h1],h2,?_⟩;unfold getE at h3 ⊢;rw [List.find?_cons,hne];exact h3
  ·rw [Qd1,Qnc h ha,Bool.or_false] at hi;refine ⟨a,by rw [pos_ge h ha];rfl,by simpa using hi,?_⟩;unfold getE;rw [List.find?_cons,hi];rfl
theorem Qq0 {l:List Ent} {s:List UInt8} (hi:isAt l s=false):getE l s=none:=by
 unfold getE;rw [Option.map_eq_none_iff,List.find?_eq_none];intro x hx e;rw [Bool.eq_false_iff] at hi;exact hi (Qkg.2 ⟨x,hx,by simpa using e⟩)
theorem get_some {l:List Ent} {s:List UInt8}:isAt l s=(getE l s).isSome:=by
 by_cases h:isAt l s=true
 ·obtain ⟨x,hx,e⟩:=Qkg.1 h;rw [h];unfold getE;rw [Option.isSome_map];symm;rw [List.find?_isSome];exact ⟨x,hx,by simpa using e⟩
 ·have h:isAt l s=false:=by simpa using h
  rw [h,Qq0 h];rfl
theorem Zd8 (l:List Ent) (x y:Ent):y∈insE l x↔y=x∨y∈l:=by
 induction l with
 | nil=>simp [insE]
 | cons a l ih=>
  unfold insE
  split
  ·simp only [List.mem_cons,ih];constructor
   ·rintro (h | h | h)<;>simp [h]
   ·rintro (h | h | h)<;>simp [h]
  ·simp
theorem Zm1 (l:List Ent) (x:Ent):(insE l x).length=l.length+1:=by
 induction l with
 | nil=>rfl
 | cons a l ih=>
  unfold insE
  split<;>simp [ih]
theorem srt_ins {l:List Ent} (h:Srt l) {x:Ent} (hi:isAt l x.1=false):Srt (insE l x):=by
 induction l with
 | nil=>exact List.pairwise_singleton _ _
 | cons a l ih=>
  rw [Qd1,Bool.or_eq_false_iff] at hi;unfold insE
  split
  ·rename_i ha;refine List.pairwise_cons.2 ⟨fun y hy=>?_,ih h.tail hi.2⟩;rcases (Zd8 l x y).1 hy with rfl | hy
   ·exact ha
   ·exact h.head y hy
  ·rename_i ha;have hax:x.1<a.1:=Classical.byContradiction fun hn=>(beq_eq_false_iff_ne.1 hi.1) (ltA ha hn)
   refine List.pairwise_cons.2 ⟨fun y hy=>?_,h⟩;rcases List.mem_cons.1 hy with rfl | hy
   ·exact hax
   ·exact ltT hax (h.head y hy)
theorem get_ins {l:List Ent} {s t:List UInt8} {n:Int} (hi:isAt l s=false):getE (insE l (s,n)) t=if t=s then some n else getE l t:=by
 induction l with
 | nil=>
  by_cases h:t=s
  ·subst h;simp [getE,insE]
  ·simp [getE,insE,h,Ne.symm h]
 | cons a l ih=>
  rw [Qd1,Bool.or_eq_false_iff] at hi;have has:a.1 ≠ s:=beq_eq_false_iff_ne.1 hi.1;have ih:=ih hi.2;unfold insE
  split
  ·unfold getE at ih ⊢;by_cases hat:a.1=t
   ·have h1:(a.1==t)=true:=by simpa using hat
    have:t ≠ s:=hat ▸ has;simp [h1,this]
   ·have h1:(a.1==t)=false:=by simpa using hat
    rw [List.find?_cons,h1,List.find?_cons,h1];exact ih
  ·unfold getE;by_cases h:t=s
   ·subst h;simp
   ·have h1:(s==t)=false:=by simpa using Ne.symm h
    rw [List.find?_cons];simp [h1,h]
theorem del_ins {l:List Ent} {s:List UInt8} {n:Int} (hi:isAt l s=false):delE (insE l (s,n)) s=l:=by
 induction l with
 | nil=>simp [insE,delE]
 | cons a l ih=>
  have hd:=del_none hi;rw [Qd1,Bool.or_eq_false_iff] at hi;unfold insE
  split
  ·have h2:=ih hi.2;unfold delE at h2 ⊢;rw [List.filter_cons];simp only [hi.1,Bool.not_false,if_true,h2]
  ·unfold delE at hd ⊢;rw [List.filter_cons];simp only [beq_self_eq_true,Bool.not_true,Bool.false_eq_true,if_false];exact hd
theorem get_del {l:List Ent} {s t:List UInt8}:getE (delE l s) t=if t=s then none else getE l t:=by
 induction l with
 | nil=>simp [getE,delE]
 | cons a l ih=>
  unfold getE delE at ih ⊢;rw [List.filter_cons];by_cases has:a.1=s
  ·have h1:(a.1==s)=true:=by simpa using has
   simp only [h1,Bool.not_true,Bool.false_eq_true,if_false,ih];by_cases h:t=s
   ·simp [h]
   ·have h2:(a.1==t)=false:=by
     rw [beq_eq_false_iff_ne,has];exact Ne.symm h
    simp [h,h2]
  ·have h1:(a.1==s)=false:=by simpa using has
   simp only [h1,Bool.not_false,if_true];rw [List.find?_cons,List.find?_cons];by_cases hat:a.1=t
   ·have h2:(a.1==t)=true:=by simpa using hat
    have:t ≠ s:=hat ▸ has;simp [h2,this]
   ·have h2:(a.1==t)=false:=by simpa using hat
    simp only [h2];exact ih
theorem srt_del {l:List Ent} (h:Srt l) (s:List UInt8):Srt (delE l s):=List.Pairwise.filter _ h
theorem right_ins {l:List Ent} {s:List UInt8} {n:Int} (h:rightE l=true) (hs:okN s=true) (hn:1≤n) (hi:isAt l s=false) (hl:l.length<256):rightE (insE l (s,n))=true:=by
 rw [rightE_iff] at h ⊢;refine ⟨by rw [Zm1];omega,fun x hx=>?_,srt_ins h.2.2 hi⟩;rcases (Zd8 l _ x).1 hx with rfl | hx
 ·simp [okE,hs,hn]
 ·exact h.2.1 x hx
theorem Zcs {l:List Ent} (h:rightE l=true):Srt l:=((rightE_iff l).1 h).2.2
def enterF (l:List Ent) (s:List UInt8) (n:Int):List Ent × Int:=
 if okN s=false then (l,10) else if n<1 then (l,1) else if isAt l s=true then (l,7) else if 256≤l.length then (l,12) else (insE l (s,n),0)
def leaveF (l:List Ent) (s:List UInt8):List Ent × Int × Int:=if isAt l s=true then (delE l s,(getE l s).getD 0,0) else (l,0,6)
end Copyhold.Name

namespace Copyhold.Name
open Go Go.RowKit
def entC (x:Ent):List Value:=[strV x.1,.int .i64 x.2]
def Ents (w:World) (v:Value) (l:List Ent):Prop:=Sl w 2 v l.length (l.flatMap entC)
theorem Qym:∀ (l:List Ent) (i:Nat),(l.flatMap entC)[i*2]?=l[i]?.map (fun x=>strV x.1)∧(l.flatMap entC)[i*2+1]?=l[i]?.map (fun x=>.int .i64 x.2)
 | [],i=>by simp
 | x :: l,0=>by simp [entC]
 | x :: l,i+1=>by
  have h:=Qym l i;rw [List.flatMap_cons];constructor
  ·rw [List.getElem?_append_right (by simp [entC];omega)];simp only [entC,List.length_cons,List.length_nil];rw [show (i+1)*2-(0+1+1)=i*2 from by omega,h.1];simp
  ·rw [List.getElem?_append_right (by simp [entC];omega)];simp only [entC,List.length_cons,List.length_nil];rw [show (i+1)*2+1-(0+1+1)=i*2+1 from by omega,h.2];simp
theorem Qyl (l:List Ent):(l.flatMap entC).length=l.length*2:=by
 induction l with
 | nil=>rfl
 | cons x l ih=>rw [List.flatMap_cons,List.length_append,ih];simp [entC];omega
theorem Ents.shape {w:World} {v:Value} {l:List Ent} (h:Ents w v l):∃ A c,v=.slice A l.length c∧l.length≤c:=by
 obtain ⟨A,c,rfl,hc,_⟩:=Sl.shape h;exact ⟨A,c,rfl,hc⟩
theorem Ents.below {w w':World} {v:Value} {l:List Ent} (h:Ents w v l) (hb:Below w.heap.size w w'):Ents w' v l:=Sl.below h hb
theorem Ents.nil (w:World):Ents w (.slice none 0 0) []:=Sl.nil w 2
theorem Ents.at {w:World} {A:Option Addr} {c:Nat} {l:List Ent} (h:Ents w (.slice A l.length c) l) (k:Nat) (hk:k<l.length) :
  ∃ b off,A=some ⟨b,off,none⟩∧b<w.heap.size∧l.length≤c∧w.cell? ⟨b,off+k*2,none⟩=some (.string ⟨(l[k].1).toArray⟩)∧w.cell? ⟨b,off+k*2+1,none⟩=some (.int .i64 l[k].2):=by
 obtain ⟨b,off,rfl,hb,hc,_,hcell⟩:=Sl.at h (by omega);have hg:=Qym l k;rw [List.getElem?_eq_getElem hk] at hg;exact ⟨b,off,rfl,hb,hc,hcell _ _ hg.1,by rw [Nat.add_assoc];exact hcell _ _ hg.2⟩
theorem Qtr (l:List Ent) (i:Nat):(l.take i).flatMap entC=(l.flatMap entC).take (i*2):=by
 induction l generalizing i with
 | nil=>simp
 | cons x l ih=>
  cases i with
  | zero=>simp
  | succ i=>
   rw [List.take_succ_cons,List.flatMap_cons,List.flatMap_cons,ih i,List.take_append];have:(entC x).length=2:=rfl;rw [this,show (i+1)*2-2=i*2 from by omega,List.take_of_length_le (l:=entC x) (by rw [this];omega)]
theorem Qts (l:List Ent) (i:Nat):(l.drop i).flatMap entC=(l.flatMap entC).drop (i*2):=by
 induction l generalizing i with
 | nil=>simp
 | cons x l ih=>
  cases i with
  | zero=>simp
  | succ i=>
   rw [List.drop_succ_cons,List.flatMap_cons,ih i,List.drop_append];have:(entC x).length=2:=rfl;rw [this,show (i+1)*2-2=i*2 from by omega,List.drop_of_length_le (l:=entC x) (by rw [this];omega),List.nil_append]
theorem Ents.take {w:World} {A:Option Addr} {c:Nat} {l:List Ent} (h:Ents w (.slice A l.length c) l) (i:Nat) (hi:i≤l.length):Ents w (.slice A i c) (l.take i):=by
 obtain ⟨A',c',he,hc,hl,hh⟩:=h;simp only [Value.slice.injEq] at he;obtain ⟨rfl,_,rfl⟩:=he;refine ⟨A,c,by rw [List.length_take,Nat.min_eq_left hi],by rw [List.length_take];omega,Qyl _,fun h0=>?_⟩;rw [List.length_take] at h0;obtain ⟨b,off,rfl,hb,hcell⟩:=hh (by omega);refine ⟨b,off,rfl,hb,fun j x hx=>hcell j x ?_⟩;rw [Qtr] at hx;rw [List.getElem?_take] at hx
 split at hx
 ·exact hx
 ·cases hx
theorem Ents.drop {w:World} {A A':Option Addr} {c n c':Nat} {l:List Ent} (h:Ents w (.slice A l.length c) l) (i:Nat) (hi:i≤l.length) (hn:n=l.length-i) (hc':c'=c-i) (hA:i<l.length→∀ b off,A=some ⟨b,off,none⟩→A'=some ⟨b,off+i*2,none⟩):Ents w (.slice A' n c') (l.drop i):=by
 obtain ⟨A0,c0,he,hc,hl,hh⟩:=h;simp only [Value.slice.injEq] at he;obtain ⟨rfl,_,rfl⟩:=he;subst hn hc';refine ⟨A',c-i,by rw [List.length_drop],by rw [List.length_drop];omega,Qyl _,fun h0=>?_⟩;rw [List.length_drop] at h0;obtain ⟨b,off,rfl,hb,hcell⟩:=hh (by omega);refine ⟨b,off+i*2,hA (by omega) b off rfl,hb,fun j x hx=>?_⟩;rw [Qts,List.getElem?_drop] at hx;rw [Nat.add_assoc];exact hcell _ x hx
end Copyhold.Name
namespace Go.Proofs.YtahlldgocpabjaaGreat
open Go.RowKit Go.ChangeShapes Go.WideShapes Go.ChangeAt Copyhold Copyhold.Name
end Go.Proofs.YtahlldgocpabjaaGreat

namespace Copyhold.Name
end Copyhold.Name

namespace Go.Proofs.YtahlldgocpabjaaGreat
open Go.RowKit Copyhold Copyhold.Name
theorem Qp6 (s:List UInt8) (c:UInt8) (W:World):(callFunc 246 #[.string ⟨s.toArray⟩,.int .u8 (c.toNat:Int)]).run Tryz.prog W=.ok (.value (.int .i64 (Lib.indexByte s c))) W:=by
 rw [run_callFunc_extern (e:=Extern.BytealgIndexByte.indexByte) Tryz.func246 (by kernel_rfl) (by kernel_rfl) (by kernel_rfl) (by kernel_rfl),Lib.run_indexByteString];simp
theorem Qmv (s:List UInt8) (c:UInt8) (w:World):Calls Tryz.prog 242 #[.string ⟨s.toArray⟩,.int .u8 (c.toNat:Int)] w fun e w'=>e=.returned (.int .i64 (Lib.indexByte s c))∧w=w':=by
 have hr:=Qp6 s c
 go_enter Tryz.func242,Tryz.ntmps242
 go_wp2_with fail
 go_ret
 exact ⟨rfl,rfl⟩
theorem Quz (s:List UInt8) (c:UInt8) (w:World):Calls Tryz.prog 241 #[.string ⟨s.toArray⟩,.string ⟨#[c]⟩] w fun e w'=>e=.returned (.int .i64 (Lib.indexByte s c))∧w=w':=by
 by_cases he:s=[c]
 ·subst he;rw [show Lib.indexByte [c] c=0 from by simp [Lib.indexByte]]
  set_option maxRecDepth 100000 in
  go_enter Tryz.func241,Tryz.ntmps241
  go_wp2_with fail
  go_ret
  exact ⟨rfl,rfl⟩
 ·have hq:([c]==s)=false:=by simpa using Ne.symm he
  clear he
  set_option maxRecDepth 100000 in
  go_enter Tryz.func241,Tryz.ntmps241
  go_wp2_with fail
  refine (Qmv s c _).mono ?_;rintro e w1 ⟨rfl,rfl⟩
  go_wp2_with fail
  go_ret
  exact ⟨rfl,rfl⟩
theorem Qk1 (s:List UInt8) (c:UInt8) (w:World):Calls Tryz.prog 236 #[.string ⟨s.toArray⟩,.string ⟨#[c]⟩] w fun e w'=>e=.returned (.int .i64 (Lib.indexByte s c))∧w=w':=by
 go_enter Tryz.func236,Tryz.ntmps236
 go_wp2_with fail
 refine (Quz s c _).mono ?_;rintro e w1 ⟨rfl,rfl⟩
 go_wp2_with fail
 go_ret
 exact ⟨rfl,rfl⟩
theorem Qqy (s:List UInt8) (c:UInt8):decide (0≤Lib.indexByte s c)=s.contains c:=by
 induction s with
 | nil=>simp [Lib.indexByte]
 | cons b l ih=>
  have hg:=Lib.indexByte_ge l c;rw [Lib.indexByte,List.contains_cons,← ih];by_cases hb:b=c
  ·subst hb;simp
  ·have h1:(b==c)=false:=by simpa using hb
   have h2:(c==b)=false:=by simpa using Ne.symm hb
   rw [h1,h2];by_cases h:Lib.indexByte l c = -1
   ·rw [h];simp
   ·have h3:(Lib.indexByte l c==-1)=false:=by simpa using h
    rw [h3];simp;omega
theorem Qi2 (s:List UInt8) (c:UInt8) (w:World):Calls Tryz.prog 220 #[.string ⟨s.toArray⟩,.string ⟨#[c]⟩] w fun e w'=>e=.returned (.bool (s.contains c))∧w=w':=by
 have hm:=Lib.hid (Qqy s c);have hge:=Lib.indexByte_ge s c;generalize hx:Lib.indexByte s c=x at *;have HX:=Lib.hid hx;clear hx
 go_enter Tryz.func220,Tryz.ntmps220
 go_wp2_with fail
 refine (Qk1 s c _).mono ?_;rintro e w1 ⟨rfl,rfl⟩;rw [HX.out]
 go_wp2_with fail
 go_ret
 exact ⟨by rw [← hm.out];rfl,rfl⟩
theorem Qnk:∀ (x y:List UInt8),Op.bytesLess x y=decide (x<y)
 | [],[]=>by simp [Op.bytesLess]
 | a :: x,[]=>by simp [Op.bytesLess]
 | [],b :: y=>by simp [Op.bytesLess]
 | a :: x,b :: y=>by
  rw [Op.bytesLess,Qnk x y,Bool.eq_iff_iff];simp only [Bool.or_eq_true,Bool.and_eq_true,decide_eq_true_eq,beq_iff_eq,List.cons_lt_cons_iff]
theorem gete (l:List Name.Ent) (i:Nat) (h:i<l.length):l.getD i ([],0)=l[i]:=by simp [List.getD,h]
end Go.Proofs.YtahlldgocpabjaaGreat
