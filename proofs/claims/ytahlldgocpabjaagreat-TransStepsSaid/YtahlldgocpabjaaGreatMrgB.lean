import Derived.Test.YtahlldgocpabjaaGreatRows
import Derived.Test.YtahlldgocpabjaaGreatMrgA
import Derived.Laws.Externs
import Derived.Lib.Bytealg
import Derived.Deep.QuietTactic
import Derived.BigQuiet
import Derived.IntWalk
import Derived.RangeFuncNested
import Derived.RangeFuncBound
import Derived.RangeFuncCalls
import Derived.RangeFuncLeaves
import Derived.RangeFuncBox
import Derived.Shelf.Abstract
import Derived.Shelf.RegionOpen
import Derived.OwnWalkIn
import Derived.TacticsInMore
import Derived.LoopNIn
import Derived.LoopIn
set_option maxRecDepth 100000
set_option maxHeartbeats 8000000
set_option linter.unusedVariables false
namespace Copyhold.Name
open Go Go.RowKit
def entC (x:Ent):List Value:=[strV x.1,.int .i64 x.2]
def Ents (w:World) (v:Value) (l:List Ent):Prop:=Sl w 2 v l.length (l.flatMap entC)
theorem Qxb:∀ (l:List Ent) (i:Nat),(l.flatMap entC)[i*2]?=l[i]?.map (fun x=>strV x.1)∧(l.flatMap entC)[i*2+1]?=l[i]?.map (fun x=>.int .i64 x.2)
 | [],i=>by simp
 | x :: l,0=>by simp [entC]
 | x :: l,i+1=>by
  have h:=Qxb l i;rw [List.flatMap_cons];constructor
  ·rw [List.getElem?_append_right (by simp [entC];omega)];simp only [entC,List.length_cons,List.length_nil];rw [show (i+1)*2-(0+1+1)=i*2 from by omega,h.1];simp
  ·rw [List.getElem?_append_right (by simp [entC];omega)];simp only [entC,List.length_cons,List.length_nil];rw [show (i+1)*2+1-(0+1+1)=i*2+1 from by omega,h.2];simp
theorem Qxa (l:List Ent):(l.flatMap entC).length=l.length*2:=by
 induction l with
 | nil=>rfl
 | cons x l ih=>rw [List.flatMap_cons,List.length_append,ih];simp [entC];omega
theorem Ents.shape {w:World} {v:Value} {l:List Ent} (h:Ents w v l):∃ A c,v=.slice A l.length c∧l.length≤c:=by
 obtain ⟨A,c,rfl,hc,_⟩:=Sl.shape h;exact ⟨A,c,rfl,hc⟩
theorem Ents.below {w w':World} {v:Value} {l:List Ent} (h:Ents w v l) (hb:Below w.heap.size w w'):Ents w' v l:=Sl.below h hb
theorem Ents.nil (w:World):Ents w (.slice none 0 0) []:=Sl.nil w 2
theorem Ents.at {w:World} {A:Option Addr} {c:Nat} {l:List Ent} (h:Ents w (.slice A l.length c) l) (k:Nat) (hk:k<l.length) :
  ∃ b off,A=some ⟨b,off,none⟩∧b<w.heap.size∧l.length≤c∧w.cell? ⟨b,off+k*2,none⟩=some (.string ⟨(l[k].1).toArray⟩)∧w.cell? ⟨b,off+k*2+1,none⟩=some (.int .i64 l[k].2):=by
 obtain ⟨b,off,rfl,hb,hc,_,hcell⟩:=Sl.at h (by omega);have hg:=Qxb l k;rw [List.getElem?_eq_getElem hk] at hg;exact ⟨b,off,rfl,hb,hc,hcell _ _ hg.1,by rw [Nat.add_assoc];exact hcell _ _ hg.2⟩
theorem Qsm (l:List Ent) (i:Nat):(l.take i).flatMap entC=(l.flatMap entC).take (i*2):=by
 induction l generalizing i with
 | nil=>simp
 | cons x l ih=>
  cases i with
  | zero=>simp
  | succ i=>
   rw [List.take_succ_cons,List.flatMap_cons,List.flatMap_cons,ih i,List.take_append];have:(entC x).length=2:=rfl;rw [this,show (i+1)*2-2=i*2 from by omega,List.take_of_length_le (l:=entC x) (by rw [this];omega)]
theorem Qsn (l:List Ent) (i:Nat):(l.drop i).flatMap entC=(l.flatMap entC).drop (i*2):=by
 induction l generalizing i with
 | nil=>simp
 | cons x l ih=>
  cases i with
  | zero=>simp
  | succ i=>
   rw [List.drop_succ_cons,List.flatMap_cons,ih i,List.drop_append];have:(entC x).length=2:=rfl;rw [this,show (i+1)*2-2=i*2 from by omega,List.drop_of_length_le (l:=entC x) (by rw [this];omega),List.nil_append]
theorem Ents.take {w:World} {A:Option Addr} {c:Nat} {l:List Ent} (h:Ents w (.slice A l.length c) l) (i:Nat) (hi:i≤l.length):Ents w (.slice A i c) (l.take i):=by
 obtain ⟨A',c',he,hc,hl,hh⟩:=h;simp only [Value.slice.injEq] at he;obtain ⟨rfl,_,rfl⟩:=he;refine ⟨A,c,by rw [List.length_take,Nat.min_eq_left hi],by rw [List.length_take];omega,Qxa _,fun h0=>?_⟩;rw [List.length_take] at h0;obtain ⟨b,off,rfl,hb,hcell⟩:=hh (by omega);refine ⟨b,off,rfl,hb,fun j x hx=>hcell j x ?_⟩;rw [Qsm] at hx;rw [List.getElem?_take] at hx
 split at hx
 ·exact hx
 ·cases hx
theorem Ents.drop {w:World} {A A':Option Addr} {c n c':Nat} {l:List Ent} (h:Ents w (.slice A l.length c) l) (i:Nat) (hi:i≤l.length) (hn:n=l.length-i) (hc':c'=c-i) (hA:i<l.length→∀ b off,A=some ⟨b,off,none⟩→A'=some ⟨b,off+i*2,none⟩):Ents w (.slice A' n c') (l.drop i):=by
 obtain ⟨A0,c0,he,hc,hl,hh⟩:=h;simp only [Value.slice.injEq] at he;obtain ⟨rfl,_,rfl⟩:=he;subst hn hc';refine ⟨A',c-i,by rw [List.length_drop],by rw [List.length_drop];omega,Qxa _,fun h0=>?_⟩;rw [List.length_drop] at h0;obtain ⟨b,off,rfl,hb,hcell⟩:=hh (by omega);refine ⟨b,off+i*2,hA (by omega) b off rfl,hb,fun j x hx=>?_⟩;rw [Qsn,List.getElem?_drop] at hx;rw [Nat.add_assoc];exact hcell _ x hx
end Copyhold.Name
namespace Go.Proofs.YtahlldgocpabjaaGreat
open Go.RowKit Go.ChangeShapes Go.WideShapes Go.ChangeAt Copyhold Copyhold.Name
end Go.Proofs.YtahlldgocpabjaaGreat

namespace Copyhold.Name
end Copyhold.Name

namespace Go.Proofs.YtahlldgocpabjaaGreat
open Go.RowKit Copyhold Copyhold.Name
theorem Qpk (s:List UInt8) (c:UInt8) (W:World):(callFunc 246 #[.string ⟨s.toArray⟩,.int .u8 (c.toNat:Int)]).run Tryz.prog W=.ok (.value (.int .i64 (Lib.indexByte s c))) W:=by
 rw [run_callFunc_extern (e:=Extern.BytealgIndexByte.indexByte) Tryz.func246 (by kernel_rfl) (by kernel_rfl) (by kernel_rfl) (by kernel_rfl),Lib.run_indexByteString];simp
theorem Ql8 (s:List UInt8) (c:UInt8) (w:World):Calls Tryz.prog 242 #[.string ⟨s.toArray⟩,.int .u8 (c.toNat:Int)] w fun e w'=>e=.returned (.int .i64 (Lib.indexByte s c))∧w=w':=by
 have hr:=Qpk s c
 go_enter Tryz.func242,Tryz.ntmps242
 go_wp2_with fail
 go_ret
 exact ⟨rfl,rfl⟩
theorem Qtx (s:List UInt8) (c:UInt8) (w:World):Calls Tryz.prog 241 #[.string ⟨s.toArray⟩,.string ⟨#[c]⟩] w fun e w'=>e=.returned (.int .i64 (Lib.indexByte s c))∧w=w':=by
 by_cases he:s=[c]
 ·subst he;rw [show Lib.indexByte [c] c=0 from by simp [Lib.indexByte]]
  set_option maxRecDepth 100000 in
  go_enter Tryz.func241,Tryz.ntmps241
  go_wp2_with fail
  go_ret
  exact ⟨rfl,rfl⟩
 ·have hq:([c]==s)=false:=by simpa using Ne.symm he
  clear he
  set_option maxRecDepth 100000 in
  go_enter Tryz.func241,Tryz.ntmps241
  go_wp2_with fail
  refine (Ql8 s c _).mono ?_;rintro e w1 ⟨rfl,rfl⟩
  go_wp2_with fail
  go_ret
  exact ⟨rfl,rfl⟩
theorem Qj9 (s:List UInt8) (c:UInt8) (w:World):Calls Tryz.prog 236 #[.string ⟨s.toArray⟩,.string ⟨#[c]⟩] w fun e w'=>e=.returned (.int .i64 (Lib.indexByte s c))∧w=w':=by
 go_enter Tryz.func236,Tryz.ntmps236
 go_wp2_with fail
 refine (Qtx s c _).mono ?_;rintro e w1 ⟨rfl,rfl⟩
 go_wp2_with fail
 go_ret
 exact ⟨rfl,rfl⟩
theorem Qp9 (s:List UInt8) (c:UInt8):decide (0≤Lib.indexByte s c)=s.contains c:=by
 induction s with
 | nil=>simp [Lib.indexByte]
 | cons b l ih=>
  have hg:=Lib.indexByte_ge l c;rw [Lib.indexByte,List.contains_cons,← ih];by_cases hb:b=c
  ·subst hb;simp
  ·have h1:(b==c)=false:=by simpa using hb
   have h2:(c==b)=false:=by simpa using Ne.symm hb
   rw [h1,h2];by_cases h:Lib.indexByte l c = -1
   ·rw [h];simp
   ·have h3:(Lib.indexByte l c==-1)=false:=by simpa using h
    rw [h3];simp;omega
theorem Qh3 (s:List UInt8) (c:UInt8) (w:World):Calls Tryz.prog 220 #[.string ⟨s.toArray⟩,.string ⟨#[c]⟩] w fun e w'=>e=.returned (.bool (s.contains c))∧w=w':=by
 have hm:=Lib.hid (Qp9 s c);have hge:=Lib.indexByte_ge s c;generalize hx:Lib.indexByte s c=x at *;have HX:=Lib.hid hx;clear hx
 go_enter Tryz.func220,Tryz.ntmps220
 go_wp2_with fail
 refine (Qj9 s c _).mono ?_;rintro e w1 ⟨rfl,rfl⟩;rw [HX.out]
 go_wp2_with fail
 go_ret
 exact ⟨by rw [← hm.out];rfl,rfl⟩
theorem Qms:∀ (x y:List UInt8),Op.bytesLess x y=decide (x<y)
 | [],[]=>by simp [Op.bytesLess]
 | a :: x,[]=>by simp [Op.bytesLess]
 | [],b :: y=>by simp [Op.bytesLess]
 | a :: x,b :: y=>by
  rw [Op.bytesLess,Qms x y,Bool.eq_iff_iff];simp only [Bool.or_eq_true,Bool.and_eq_true,decide_eq_true_eq,beq_iff_eq,List.cons_lt_cons_iff]
theorem gete (l:List Name.Ent) (i:Nat) (h:i<l.length):l.getD i ([],0)=l[i]:=by simp [List.getD,h]
end Go.Proofs.YtahlldgocpabjaaGreat

namespace Go.Proofs.YtahlldgocpabjaaGreat
open Go.RowKit Copyhold Copyhold.Name
def geAt (l:List Name.Ent) (s:List UInt8) (i:Nat):Bool:=!decide ((l.getD i ([],0)).1<s)
theorem Zlx {l:List Name.Ent} {s:List UInt8} (h:Srt l) (i:Nat) (hi:i<l.length):geAt l s i=decide (pos l s≤i):=by
 induction l generalizing i with
 | nil=>simp at hi
 | cons a l ih=>
  by_cases ha:a.1<s
  ·rw [pos_lt ha];cases i with
   | zero=>simp [geAt,ha]
   | succ i=>
    have:=ih h.tail i (by simpa using hi);unfold geAt at this ⊢;rw [List.getD_cons_succ,this];simp
  ·rw [pos_ge h ha];cases i with
   | zero=>simp [geAt,ha]
   | succ i=>
    have hx:¬ ((a :: l).getD (i+1) ([],0)).1<s:=by
     rw [List.getD_cons_succ,gete l i (by simpa using hi)];exact fun hxs=>ha (ltT (h.head _ (List.getElem_mem _)) hxs)
    unfold geAt;rw [decide_eq_false hx];simp
theorem Qyr (l:List Name.Ent) (s:List UInt8) (A:Option Addr) (c i ba bs:Nat) (w:World) (hl:Ents w (.slice A l.length c) l) (hi:i<l.length) (hn:l.length≤1000000)
  (ha:w.cell? ⟨ba,0,none⟩=some (.slice A l.length c)) (hs:w.cell? ⟨bs,0,none⟩=some (.string ⟨s.toArray⟩)) :
  Calls Tryz.prog 205 #[.int .i64 (i:Int),.pointer (some ⟨ba,0,none⟩),.pointer (some ⟨bs,0,none⟩)] w fun e w'=>e=.returned (.bool (geAt l s i))∧∃ n,w'=w.drewN n:=by
 obtain ⟨b,off,rfl,hb,hc,hc1,hc2⟩:=hl.at i hi;have hg:l[i]=l.getD i ([],0):=(gete l i hi).symm;rw [hg] at hc1 hc2;unfold geAt;generalize l.getD i ([],0)=x at *;clear hg hl;have hi1:(i:Int)<(l.length:Int):=by omega
 have hi0:(0:Int)≤(i:Int):=by omega
 go_enter Tryz.func205,Tryz.ntmps205
 go_wp2_with fail
 go_quiet (fail)
 go_wp2_with fail
 go_ret
 exact ⟨by rw [← Qms];rfl,_,rfl⟩
theorem Qtw (l:List Name.Ent) (s:List UInt8) (A:Option Addr) (c ba bs:Nat) (w:World) (hl:Ents w (.slice A l.length c) l) (hn:l.length≤1000000) (hsrt:Srt l)
  (ha:w.cell? ⟨ba,0,none⟩=some (.slice A l.length c)) (hs:w.cell? ⟨bs,0,none⟩=some (.string ⟨s.toArray⟩)) :
  Calls Tryz.prog 204 #[.int .i64 (l.length:Int),.func (.func 205) #[] #[.pointer (some ⟨ba,0,none⟩),.pointer (some ⟨bs,0,none⟩)]] w fun e w'=>e=.returned (.int .i64 (pos l s:Int))∧∃ n,w'=w.drewN n:=by
 have hp:=pos_le l s;have HG:=Lib.hid (Zlx (s:=s) hsrt);have HT:=Lib.hid (fun (i m:Nat) (hi:i<l.length)=>Qyr l s A c i ba bs (w.drewN m) hl hi hn ha hs);clear hl hsrt ha hs
 go_enter Tryz.func204,Tryz.ntmps204
 go_wp2_with fail
 go_loopw [5,6] (fun si sj wr=>∃ i j n:Nat,si=.int .i64 i∧sj=.int .i64 j∧i≤pos l s∧pos l s≤j∧j≤l.length∧wr=w.drewN n) (fun si sj _=>(intOf sj).toNat-(intOf si).toNat)
 case atStart=>exact ⟨0,l.length,0,rfl,rfl,Nat.zero_le _,hp,Nat.le_refl _,rfl⟩
 case round=>
  obtain ⟨i,j,n,rfl,rfl,hi,hj,hjl,rfl⟩:=hrel;by_cases hlt:i<j
  ·have hmid:((i:Int)+j) / 2=(((i+j) / 2:Nat):Int):=by omega
   obtain ⟨m,hm⟩:∃ m,m=(i+j) / 2:=⟨_,rfl⟩
   have hm1:i≤m:=by omega
   have hm2:m<j:=by omega
   rw [← hm] at hmid;have hC:=HT.out m n (by omega);rw [HG.out m (by omega)] at hC;have HC:=Lib.hid hC;clear hC hm;by_cases hge:pos l s≤m
   ·have hd:decide (pos l s≤m)=true:=by simpa using hge
    rw [hd] at HC;clear hd
    go_wp2_with fail
    refine HC.out.mono ?_;rintro e w1 ⟨rfl,n1,rfl⟩
    go_wp2_with fail
    go_roundw
    case rel=>exact ⟨i,m,_,rfl,rfl,hi,hge,by omega,rfl⟩
    case measure=>simp [intOf];omega
   ·have hd:decide (pos l s≤m)=false:=by simpa using hge
    rw [hd] at HC;clear hd
    go_wp2_with fail
    refine HC.out.mono ?_;rintro e w1 ⟨rfl,n1,rfl⟩
    go_wp2_with fail
    go_roundw
    case rel=>exact ⟨m+1,j,_,by go_num,rfl,by omega,hj,hjl,rfl⟩
    case measure=>simp [intOf];omega
  ·obtain rfl:i=pos l s:=by omega
   go_wp2_with fail
   go_ret
   exact ⟨rfl,_,rfl⟩
theorem Qov (l:List Name.Ent) (s:List UInt8) (A:Option Addr) (c:Nat) (w:World) (hl:Ents w (.slice A l.length c) l) (hn:l.length≤1000000) (hsrt:Srt l) :
  Calls Tryz.prog 156 #[.slice A l.length c,.string ⟨s.toArray⟩] w fun e w'=>e=.returned (.tuple #[.int .i64 (pos l s:Int),.bool (isAt l s)])∧Below w.heap.size w w':=by
 obtain ⟨W,hW⟩:∃ W,W=(w.alloc (.cells #[.slice A l.length c] 82)).alloc (.cells #[.string ⟨s.toArray⟩] 9):=⟨_,rfl⟩
 have hb:Below w.heap.size w W:=by rw [hW];exact ((Below.refl _ _).alloc (Nat.le_refl _) _).alloc (by simp) _
 have c0:W.cell? ⟨w.heap.size,0,none⟩=some (.slice A l.length c):=by rw [hW];simp [go_sem]
 have c1:W.cell? ⟨w.heap.size+1,0,none⟩=some (.string ⟨s.toArray⟩):=by rw [hW];simp [go_sem]
 have HC:=Lib.hid (Qtw l s A c w.heap.size (w.heap.size+1) W (hl.below hb) hn hsrt c0 c1);have hat:=at_pos hsrt s;have hp:=pos_le l s;have HW:=Lib.hid hW;have HB:=Lib.hid hb;by_cases hlt:pos l s<l.length
 ·obtain ⟨b,off,rfl,hbk,hc,hc1,hc2⟩:=(hl.below hb).at (pos l s) hlt;rw [List.getElem?_eq_getElem hlt,Option.any_some] at hat;have HAT:=Lib.hid hat;have hi1:(pos l s:Int)<(l.length:Int):=by omega
  have hi0:(0:Int)≤(pos l s:Int):=by omega
  clear hl hsrt hat hW hb;generalize l[pos l s]=x at *;generalize isAt l s=q at *;generalize pos l s=k at *
  go_enter Tryz.func156,Tryz.ntmps156
  go_wp2_with fail
  rw [← HW.out];refine HC.out.mono ?_;rintro e w1 ⟨rfl,n1,rfl⟩
  go_wp2_with fail
  go_quiet (fail)
  go_wp2_with fail
  go_ret2
  exact ⟨by rw [← HAT.out];rfl,Qh0 (Qh0 HB.out _) _⟩
 ·rw [List.getElem?_eq_none (by omega),Option.any_none] at hat;have HAT:=Lib.hid hat;have hpl:pos l s=l.length:=by omega
  rw [hpl] at HC ⊢;have hd:decide ((l.length:Int)<(l.length:Int))=false:=by simp
  clear hl hsrt hat hb hlt hp hpl hW;generalize isAt l s=q at *
  go_enter Tryz.func156,Tryz.ntmps156
  go_wp2_with fail
  rw [← HW.out];refine HC.out.mono ?_;rintro e w1 ⟨rfl,n1,rfl⟩
  go_wp2_with fail
  go_quiet (fail)
  go_wp2_with fail
  go_ret2
  exact ⟨by rw [← HAT.out];rfl,Qh0 (Qh0 HB.out _) _⟩
def Qu5 (l:List Name.Ent) (s:List UInt8):Value:=.tuple #[.int .i64 ((getE l s).getD 0),.bool (isAt l s)]
theorem Zcg (l:List Name.Ent) (s:List UInt8) (A:Option Addr) (c:Nat) (w:World) (hl:Ents w (.slice A l.length c) l) (hn:l.length≤1000000) (hsrt:Srt l) :
  Calls Tryz.prog 96 #[.slice A l.length c,.string ⟨s.toArray⟩] w fun e w'=>e=.returned (Qu5 l s)∧Below w.heap.size w w':=by
 have HC:=Lib.hid (Qov l s A c w hl hn hsrt);unfold Qu5;cases hi:isAt l s with
 | true=>
  obtain ⟨x,hx1,hx2,hx3⟩:=get_pos hsrt hi;obtain ⟨hlt,hxe⟩:=List.getElem?_eq_some_iff.1 hx1;obtain ⟨b,off,rfl,hbk,hc,hc1,hc2⟩:=hl.at (pos l s) hlt;rw [hxe] at hc2;rw [hx3,Option.getD_some];rw [hi] at HC;have HC2:=Lib.hid hc2;have hi1:(pos l s:Int)<(l.length:Int):=by omega
  have hi0:(0:Int)≤(pos l s:Int):=by omega
  clear hl hsrt hc1 hc2 hx1 hx2 hx3 hxe hi;generalize pos l s=k at *
  go_enter Tryz.func96,Tryz.ntmps96
  go_wp2_with fail
  refine HC.out.mono ?_;rintro e w1 ⟨rfl,hb1⟩;have hc2:=Qjy hb1 HC2.out;have HB1:=Lib.hid hb1;clear hb1
  go_wp2_with fail
  go_ret2
  exact ⟨rfl,HB1.out⟩
 | false=>
  rw [Qqb hi,Option.getD_none];rw [hi] at HC;clear hl hsrt hi
  go_enter Tryz.func96,Tryz.ntmps96
  go_wp2_with fail
  refine HC.out.mono ?_;rintro e w1 ⟨rfl,hb1⟩;have HB1:=Lib.hid hb1;clear hb1
  go_wp2_with fail
  go_ret2
  exact ⟨rfl,HB1.out⟩
end Go.Proofs.YtahlldgocpabjaaGreat

namespace Go.Proofs.YtahlldgocpabjaaGreat
open Go.RowKit Copyhold Copyhold.Name
end Go.Proofs.YtahlldgocpabjaaGreat

namespace Go.Proofs.YtahlldgocpabjaaGreat
open Go.RowKit Copyhold Copyhold.Name
end Go.Proofs.YtahlldgocpabjaaGreat

namespace Go.Proofs.YtahlldgocpabjaaGreat
open Go.RowKit Copyhold Copyhold.Name
theorem Zfn:Elem Tryz.prog 43 9 (.string ⟨#[]⟩) 1 16:=
 ⟨Tryz.underlying43,by kernel_rfl,by kernel_rfl,by decide⟩
end Go.Proofs.YtahlldgocpabjaaGreat

namespace Go.Proofs.YtahlldgocpabjaaGreat
open Go.RowKit Copyhold
end Go.Proofs.YtahlldgocpabjaaGreat

namespace Go.Proofs.YtahlldgocpabjaaGreat
open Go.RowKit Copyhold Copyhold.Name
theorem Zda (l:List Name.Ent) (s:List UInt8) (k:Nat) (hk:k<l.length):isAt (l.take (k+1)) s=(isAt (l.take k) s||l[k].1==s):=by
 unfold isAt;rw [List.take_succ_eq_append_getElem hk,List.any_append];simp
theorem Zdl (l:List Name.Ent) (s:List UInt8) (k:Nat) (hk:k<l.length) (h:isAt (l.take k) s=false) (he:l[k].1=s):getE l s=some l[k].2∧isAt l s=true:=by
 have hg:getE l s=some l[k].2:=by
  unfold getE;have hs:l=l.take k++l[k] :: l.drop (k+1):=by rw [← List.drop_eq_getElem_cons hk,List.take_append_drop]
  have hn:(l.take k).find? (fun x=>x.1==s)=none:=by
   rw [List.find?_eq_none];intro x hx e;rw [Bool.eq_false_iff] at h;exact h (Qjl.2 ⟨x,hx,by simpa using e⟩)
  generalize l[k]=y at *;rw [hs,List.find?_append,hn];simp [he]
 exact ⟨hg,by rw [get_some,hg];rfl⟩
theorem Qyj (l:List Name.Ent) (s:List UInt8) (A:Option Addr) (c:Nat) (w:World) (hl:Ents w (.slice A l.length c) l) (hn:l.length≤1000000) :
  Calls Tryz.prog 115 #[.slice A l.length c,.string ⟨s.toArray⟩] w fun e w'=>e=.returned (Qu5 l s)∧w=w':=by
 have HL:=Lib.hid hl;clear hl
 go_enter Tryz.func115,Tryz.ntmps115
 go_wp2_with fail
 go_loop [6] (fun si=>∃ k:Nat,si=.int .i64 k∧k≤l.length∧isAt (l.take k) s=false) (fun si=>l.length-(intOf si).toNat)
 case atStart=>exact ⟨0,rfl,Nat.zero_le _,by simp [isAt]⟩
 case round=>
  obtain ⟨k,rfl,hk,hp⟩:=hrel;have HP:=Lib.hid hp;clear hp;by_cases hlt:k<l.length
  ·obtain ⟨b,off,rfl,hbk,hc,hc1,hc2⟩:=HL.out.at k hlt;have hst:=Zda l s k hlt;rw [HP.out,Bool.false_or] at hst;have HG:=Lib.hid (Zdl l s k hlt HP.out);have HST:=Lib.hid hst;clear hst;generalize l[k]=x at *;by_cases he:x.1=s
   ·obtain ⟨g1,g2⟩:=HG.out he;have HF:Hid (Qu5 l s=.tuple #[.int .i64 x.2,.bool true]):=Lib.hid (by rw [Qu5,g1,g2];rfl);rw [he] at hc1;clear g1 g2 he
    go_wp2_with fail
    go_ret2
    exact ⟨by rw [HF.out];rfl,rfl⟩
   ·have hq:(x.1==s)=false:=by simpa using he
    have HS:=Lib.hid (HST.out.trans hq);clear he
    go_wp2_with fail
    go_round
    case rel=>exact ⟨k+1,by go_num,by omega,HS.out⟩
    case measure=>simp [intOf];omega
  ·have hfin:isAt l s=false:=by have:=HP.out;rwa [List.take_of_length_le (by omega)] at this
   have HF:Hid (Qu5 l s=.tuple #[.int .i64 0,.bool false]):=Lib.hid (by rw [Qu5,hfin,Qqb hfin];rfl);clear hfin
   go_wp2_with fail
   go_ret2
   exact ⟨by rw [HF.out];rfl,rfl⟩
end Go.Proofs.YtahlldgocpabjaaGreat

namespace Copyhold
open Go Go.RowKit
def cutA (A:Option Addr) (c i size:Nat):Option Addr:=if c=i then A else A.map (·.add (i*size))
theorem Ze9 (a:Addr):a.add 0=a:=by unfold Addr.add;simp
theorem Sl.pre {w:World} {k:Nat} {A:Option Addr} {n c:Nat} {xs:List Value} (h:Sl w k (.slice A n c) n xs) (i:Nat) (hi:i≤n):Sl w k (.slice A i c) i (xs.take (i*k)):=by
 obtain ⟨A',c',he,hc,hl,hh⟩:=h;simp only [Value.slice.injEq] at he;obtain ⟨rfl,_,rfl⟩:=he;have hik:i*k≤n*k:=Nat.mul_le_mul_right _ hi;refine ⟨A,c,rfl,by omega,by rw [List.length_take];omega,fun h0=>?_⟩;obtain ⟨b,off,rfl,hb,hcell⟩:=hh (by omega);refine ⟨b,off,rfl,hb,fun j x hx=>hcell j x ?_⟩;rw [List.getElem?_take] at hx
 split at hx
 ·exact hx
 ·cases hx
theorem Sl.post {w:World} {k:Nat} {A:Option Addr} {n c:Nat} {xs:List Value} (h:Sl w k (.slice A n c) n xs) (i:Nat) (hi:i≤n):Sl w k (.slice (cutA A c i k) (n-i) (c-i)) (n-i) (xs.drop (i*k)):=by
 obtain ⟨A',c',he,hc,hl,hh⟩:=h;simp only [Value.slice.injEq] at he;obtain ⟨rfl,_,rfl⟩:=he;refine ⟨_,_,rfl,by omega,by rw [List.length_drop,hl,Nat.sub_mul],fun h0=>?_⟩;obtain ⟨b,off,rfl,hb,hcell⟩:=hh (by omega);refine ⟨b,off+i*k,?_,hb,fun j x hx=>?_⟩
 ·rw [cutA,if_neg (by omega),Option.map_some,Qbj]
 ·rw [Nat.add_assoc];refine hcell _ _ ?_;rw [← hx,List.getElem?_drop]
theorem Qyz {P:Program} {t e:TypeId} {z:Value} {size bytes:Nat} (E:Elem P t e z size bytes) (w:World) (base c:Nat) (hb:bytes*c≤281474976710656) (hm:c≤maxLen) (hbase:base≤w.heap.size) :
  ∃ w',(Instr.makeSlice t (.int .i64 0) (.int .i64 (c:Int))).run P w=.ok (.slice (some ⟨w.heap.size,0,none⟩) 0 c) w'∧w'.ownsRow base e size (.slice (some ⟨w.heap.size,0,none⟩) 0 c) 0 []∧w.grownBy w' none:=by
 obtain ⟨ht,hinf,hzs,hsz⟩:=E;obtain ⟨i,hi,hz,hsize,hby⟩:=Qf5 hinf;exact run_make_own (P:=P) w base t e i z size ht hi hz hsize .i64 .i64 c (by rw [hby];exact hb) hm hbase
end Copyhold

namespace Go.Proofs.YtahlldgocpabjaaGreat
open Go.RowKit Go.Shelf Copyhold Copyhold.Name
attribute [local go_sem] Oper.semAt_some
theorem Zh2 (n:Nat) (hn:1≤n) (l Bs n₀ c:Nat) (A:Option Addr) (es:List Name.Ent) (hlen:es.length≤1000000) (J Jx:List (List UInt8)→World→Prop)
  (hY:∀ pre x W,J pre W→pre.length<es.length→YieldAt Fence.wide (n-1) Tryz.prog l #[.string ⟨x.toArray⟩] W fun e W'=>
   (e=.returned (.bool true)∧J (pre++[x]) W'∧Below n₀ W W')∨(e=.returned (.bool false)∧Jx (pre++[x]) W'))
  (hJa:∀ pre W o,J pre W→J pre (W.alloc o))
  (W:World) (hn0:n₀≤W.heap.size) (hBs:W.cell? ⟨Bs,0,none⟩=some (.slice A es.length c)) (hE:Ents W (.slice A es.length c) es) (hat:At (·<n₀) (.slice A es.length c)) (h0:J [] W) :
  CallsIn Fence.wide n Tryz.prog 225 #[.func (.yield l) #[] #[],.pointer (some ⟨Bs,0,none⟩)] W fun e W'=>(∃ v,e=.returned v) ∧
   ((∃ ys,ys=es.map (·.1)∧J ys W')∨(∃ pre,pre <+: es.map (·.1)∧Jx pre W')):=by
 have HE:=Lib.hid hE;have HAT:=Lib.hid hat;clear hE hat;refine callsIn_of_wp Tryz.func225 rfl trivial ?_ rfl;simp only [Tryz.ntmps225,List.size_toArray,List.length_cons,List.length_nil,Nat.reduceAdd,Nat.reduceSub,Array.replicate_succ,Array.replicate_zero,List.push_toArray,List.append_toArray,List.nil_append,List.cons_append]
 gi_wp2
 gi_loopw [7] (fun i wr=>∃ k:Nat,k≤es.length∧i=.int .i64 k∧J ((es.take k).map (·.1)) wr∧Below n₀ W wr∧W.heap.size≤wr.heap.size)
  (fun i _=>es.length-(intOf i).toNat)
 case atStart=>exact ⟨0,Nat.zero_le _,rfl,by simpa using h0,Below.refl _ _,Nat.le_refl _⟩
 case round=>
  obtain ⟨k,hk,rfl,hJs,hnx,hsz⟩:=hrel;by_cases hlt:k<es.length
  ·have hE':Ents wr (.slice A es.length c) es:=Sl.frame HE.out HAT.out (fun b hb _=>hnx.block b hb) hsz;obtain ⟨b,off,hA,hbk,hc,hc1,hc2⟩:=hE'.at k hlt;subst hA;have hst:(es.take (k+1)).map (·.1)=(es.take k).map (·.1)++[es[k].1]:=by
    rw [List.take_succ_eq_append_getElem hlt,List.map_append];rfl
   have HST:=Lib.hid hst;have hJa':=hJa _ _ (.cells #[strV es[k].1,.int .i64 es[k].2] 128) hJs;have hll:((es.take k).map (·.1)).length<es.length:=by simp;omega
   obtain ⟨fn,tmps,assign,body,hy,hR⟩:=hY _ es[k].1 _ hJa' hll;have HR:=Lib.hid hR;have HNX:=Lib.hid hnx;have HPP:Hid ((es.take (k+1)).map (·.1) <+: es.map (·.1)):=Lib.hid ((List.take_prefix _ _).map _);clear hE' hst hJa' hll hR hnx hJs hY;unfold strV at hy HR;generalize es[k]=x at *
   gi_wp2
   refine HR.out.mono ?_;rintro e W3 (⟨rfl,hJ3,hk3⟩ | ⟨rfl,hJx3⟩)
   ·have hn3:Below n₀ W W3:=(HNX.out.alloc (by omega) _).trans hk3;have hs3:=hk3.size
    gi_wp2
    go_roundw
    case rel=>exact ⟨k+1,by omega,by go_num,by rw [HST.out];exact hJ3,hn3,by simp at hs3;omega⟩
    case measure=>simp [intOf];omega
   ·gi_wp2
    refine bodyPost_ret (results_none rfl _ _ _) rfl ?_;exact ⟨⟨_,rfl⟩,.inr ⟨_,by rw [← HST.out];exact HPP.out,hJx3⟩⟩
  ·obtain rfl:k=es.length:=by omega
   have hfin:(es.take es.length).map (·.1)=es.map (·.1):=by rw [List.take_length]
   have HF:=Lib.hid hfin;clear hfin
   gi_wp2
   go_end0
   exact ⟨⟨_,rfl⟩,.inl (by rw [← HF.out];exact hJs)⟩
theorem Qtj {β:Type} {B:Nat} {J:β→World→Prop} (h:AbidesFrom B J) {s:β} {W:World} (o:Obj) (hs:J s W):J s (W.alloc o):=
 h s W _ none hs (World.grownBy_alloc W o none) (fun r e=>by cases e)
theorem Zl0 (n:Nat) (A:Option Addr) (m c:Nat) (w:World) :
  CallsIn Fence.wide n Tryz.prog 192 #[.slice A m c] w fun e w'=>e=.returned (.func (.func 225) #[] #[.pointer (some ⟨w.heap.size,0,none⟩)])∧w'=w.alloc (.cells #[.slice A m c] 82):=by
 refine callsIn_of_wp Tryz.func192 rfl trivial ?_ rfl;simp only [Tryz.ntmps192,List.size_toArray,List.length_cons,List.length_nil,Nat.reduceAdd,Nat.reduceSub,Array.replicate_succ,Array.replicate_zero,List.push_toArray,List.append_toArray,List.nil_append,List.cons_append]
 gi_wp2
 go_ret
 exact ⟨rfl,rfl⟩
theorem Qzd (n:Nat) (hn:1≤n) (Bs n₀ c:Nat) (A:Option Addr) (es:List Name.Ent) (hlen:es.length≤1000000) (w:World) (hBs:Bs<w.heap.size) (hn₀:n₀≤w.heap.size)
  (hc:w.cell? ⟨Bs,0,none⟩=some (.slice A es.length c)) (hE:Ents w (.slice A es.length c) es) (hat:At (·<n₀) (.slice A es.length c)) :
  SeqStopsK Fence.wide n Tryz.prog 225 #[.pointer (some ⟨Bs,0,none⟩)] (fun x:List UInt8=>#[Value.string ⟨x.toArray⟩]) (Below n₀) (fun ys=>ys=es.map (·.1)) (fun pre=>pre <+: es.map (·.1)) es.length w:=fun l J Jx W hW hJ _ hY h0=>
 Zh2 n hn l Bs n₀ c A es hlen J Jx hY (fun pre W o h=>Qtj hJ o h) W (Nat.le_trans hn₀ hW.size) ((hW.cell (p:=⟨Bs,0,none⟩) hBs).trans hc) (hE.below hW) hat h0
theorem Zhl:(Tryz.prog.info? 9).map (fun i=>(i.zero,i.size,i.bytes))=some (some (.string ⟨#[]⟩),1,16):=by kernel_rfl
theorem Zja (n:Nat) (hn:3≤n) (A:Option Addr) (c:Nat) (es:List Name.Ent) (hlen:es.length≤1000000) (w:World) (hE:Ents w (.slice A es.length c) es) :
  CallsIn Fence.wide n Tryz.prog 149 #[.slice A es.length c] w fun e W'=>∃ v,e=.returned v∧W'.ownsRow w.heap.size 9 1 v es.length (es.map fun x=>strV x.1)∧Below w.heap.size w W':=by
 have h1:1≤n:=by omega
 obtain ⟨i0,hi,hz0,hz1,hz2⟩:=info_parts Zhl;obtain ⟨w1,hmk,hown1,hgr1⟩:=Qyz Zfn w w.heap.size es.length (by omega) (by unfold maxLen;omega) (Nat.le_refl _);have hb1:=(Below.refl w.heap.size w).grown hgr1 (Nat.le_refl _) (fun g hg=>by cases hg);refine callsIn_of_wp_marks Tryz.func149 rfl trivial ?_ rfl;simp only [Tryz.ntmps149,List.size_toArray,List.length_cons,List.length_nil,Nat.reduceAdd,Nat.reduceSub,Array.replicate_succ,Array.replicate_zero,List.push_toArray,List.append_toArray,List.nil_append,List.cons_append]
 gi_wp2_with (refine ⟨trivial,?_⟩;gi_at_call 192;refine (Zl0 (n-1) A es.length c _).mono ?_;rintro e w' ⟨rfl,rfl⟩)
 obtain ⟨v1,hv1⟩:∃ v,v=Value.slice (some ⟨w.heap.size,0,none⟩) 0 es.length:=⟨_,rfl⟩
 rw [← hv1] at hown1 ⊢;clear hv1 hmk hgr1;have bO:=Boxed.new w1 43 v1;have bN:=Boxed.new (w1.alloc (.cells #[v1] 43)) 82 (.slice A es.length c);rw [World.size_alloc] at bN;have hB0:Below w.heap.size w ((w1.alloc (.cells #[v1] 43)).alloc (.cells #[.slice A es.length c] 82)):=(hb1.alloc hb1.size _).alloc (by have:=hb1.size;simp;omega) _;have hE0:Ents ((w1.alloc (.cells #[v1] 43)).alloc (.cells #[.slice A es.length c] 82)) (.slice A es.length c) es:=hE.below hB0;refine wpIn_rangeFunc_ownG rfl h1 (gf:=225) (lb:=#[.pointer (some ⟨w1.heap.size+1,0,none⟩)]) rfl trivial (enters_of Tryz.func225 (by kernel_rfl) rfl)
  (Qzd (n-1) (by omega) (w1.heap.size+1) w.heap.size c A es hlen _ (by simp) (by have:=hb1.size;simp;omega) bN.cell hE0 hE.lies) belowK_t (belowK_b (by have:=hb1.size;simp;omega)) (Below.refl _ _) (fun _=>rfl)
  (fun (pre:List (List UInt8)) W=>(∃ v,Boxed W w1.heap.size 43 v∧W.ownsRow w.heap.size 9 1 v pre.length (pre.map strV)∧True)∧Below w.heap.size w W)
  (fun _ _ _=>False)
  (OwnFrom.and (Own.from (holdsRow_own w.heap.size w1.heap.size 43 9 1 (fun (pre:List (List UInt8))=>pre.length) (fun pre=>pre.map strV) (fun pre v=>True)) _) (ownFrom_below (Nat.le_refl _) (by have:=hb1.size;simp;omega)))
  (fun _ _ _ _ _ hs _ _=>hs)
  ⟨⟨_,bO.alloc _,(hown1.alloc _).alloc _,trivial⟩,hB0⟩
  (fun (x:List UInt8)=>{ tmps:=#[.slice A es.length c,undef,.slice none 0 0,.pointer (some ⟨w1.heap.size,0,none⟩),.string ⟨x.toArray⟩,.slice A es.length c,.int .i64 es.length,v1,.slice A es.length c,.func (.func 225) #[] #[.pointer (some ⟨w1.heap.size+1,0,none⟩)],.string ⟨x.toArray⟩,undef,undef,undef,undef,undef],defers:=[] }) ?assign ?body ?done ?stop
 case assign=>
  intro l x W K hK
  gi_wp2
  exact hK
 case body=>
  rintro l pre x W ⟨⟨v,hv,hrow,-⟩,hB⟩ hlt;have hc:=hv.cell
  gi_wp2_with (gi_at_builtin;refine wpListIn_append_own _ rfl _ _ 43 rfl w.heap.size 9 i0 (.string ⟨#[]⟩) 1 16 Tryz.underlying43 hi hz0 hz1 hz2 rfl (by decide) _ _ _ rfl (hrow.alloc _) ⟨W.heap.size,0,none⟩ 1 1 [.string ⟨x.toArray⟩] rfl rfl (cell_one_new _ _ _) (by simp [Value.oneCell']) (by unfold maxLen;omega) (by omega) (by have:=hB.size;simp;omega) ?_;intro v' w1' hown' hgrow _;obtain ⟨g',cap',rfl⟩:=ownsRow_succ hown';obtain ⟨hv1',hv2,hr2,hk2,hb2⟩:=hv.appended (by decide) hrow hB.size hb1.size hown' hgrow;have hc1:=hv1'.cell;have hf1:=hv1'.frozen)
  exact ⟨hk2.from _,hb2,⟨_,hv2,by simpa [strV] using hr2,trivial⟩,hB.trans hb2⟩
 case done=>
  rintro D ys W hD rfl ⟨⟨v,hv,hrow,-⟩,hB⟩ hK;have hc:=hv.cell
  gi_wp2
  refine ⟨by simp,.inl ⟨_,_,rfl,run_takeDeferred hK,?_⟩⟩;have hr:=ownsRow_putObj hrow (Obj.deferred none) hK rfl;rw [List.length_map,List.map_map] at hr;exact ⟨_,results_tmp rfl _ _ _,v,rfl,hr,hB.trans (belowK_b (w:=w) (Nat.le_refl _) W D _ _ (by have:=hb1.size;simp at hD;omega) hK rfl rfl)⟩
 case stop=>
  rintro D c pre W _ _ h _;exact h.elim
end Go.Proofs.YtahlldgocpabjaaGreat

namespace Copyhold
open Go Go.RowKit
def BoxT (w:World) (B:Nat) (s:List UInt8) (e:Int):Prop:=
 w.cell? ⟨B,0,none⟩=some (.string ⟨s.toArray⟩)∧w.cell? ⟨B,1,none⟩=some (.int .i64 e)∧w.frozen? ⟨B,0,none⟩=false∧w.frozen? ⟨B,1,none⟩=false
def Qha (w:World) (B:Nat) (s:List UInt8) (e:Int) (w':World):Prop:=
 ∃ w1,Below w.heap.size w w1∧w'=(w1.setCell ⟨B,0,none⟩ (.string ⟨s.toArray⟩)).setCell ⟨B,1,none⟩ (.int .i64 e)
theorem BoxT.below {w w':World} {B:Nat} {s:List UInt8} {e:Int} (h:BoxT w B s e) (hb:Below w.heap.size w w'):BoxT w' B s e:=by
 obtain ⟨h0,h1,h2,h3⟩:=h;have hB:=Qvk h0;exact ⟨Qjy hb h0,Qjy hb h1,(hb.frozen (p:=⟨B,0,none⟩) hB).trans h2,(hb.frozen (p:=⟨B,1,none⟩) hB).trans h3⟩
theorem Qha.box {w w':World} {B:Nat} {s s':List UInt8} {e e':Int} (h:Qha w B s e w') (hb:BoxT w B s' e'):BoxT w' B s e:=by
 obtain ⟨w1,hw,rfl⟩:=h;obtain ⟨h0,h1,h2,h3⟩:=hb.below hw;have hp:=put2 (w:=w1) (g:=B) (.string ⟨s.toArray⟩) (.int .i64 e) h0 h1;exact ⟨hp.1,hp.2.1,(hp.2.2.2.2 0).trans h2,(hp.2.2.2.2 1).trans h3⟩
theorem Qha.below {w w' a:World} {B base:Nat} {s:List UInt8} {e:Int} (h:Qha w B s e w') (hb:Below base a w) (hB:base≤B) (hs:base≤w.heap.size):Below base a w':=by
 obtain ⟨w1,hw,rfl⟩:=h;exact ((hb.trans (hw.mono hs)).setCell (p:=⟨B,0,none⟩) hB _).setCell (p:=⟨B,1,none⟩) hB _
theorem Qha.size {w w':World} {B:Nat} {s:List UInt8} {e:Int} (h:Qha w B s e w'):w.heap.size≤w'.heap.size:=by
 obtain ⟨w1,hw,rfl⟩:=h;have:=hw.size;simpa using this
theorem Qha.cell {w w':World} {B:Nat} {s:List UInt8} {e:Int} (h:Qha w B s e w') {b o:Nat} {v:Value} (hc:w.cell? ⟨b,o,none⟩=some v) (hne:b ≠ B∨2≤o):w'.cell? ⟨b,o,none⟩=some v:=by
 obtain ⟨w1,hw,rfl⟩:=h;rw [World.cell?_setCell_other _ _ _ _ (by intro h;simp at h;omega),World.cell?_setCell_other _ _ _ _ (by intro h;simp at h;omega)];exact Qjy hw hc
theorem Qha.frozen {w w':World} {B:Nat} {s:List UInt8} {e:Int} (h:Qha w B s e w') {b o:Nat} (hc:w.frozen? ⟨b,o,none⟩=false) (hb:b<w.heap.size):w'.frozen? ⟨b,o,none⟩=false:=by
 obtain ⟨w1,hw,rfl⟩:=h;have:=(hw.frozen (p:=⟨b,o,none⟩) hb).trans hc;simpa [go_sem] using this
theorem Qha.block {w w':World} {B:Nat} {s:List UInt8} {e:Int} (h:Qha w B s e w') {k:Nat} (hk:k ≠ B) (hs:k<w.heap.size):w'.heap[k]?=w.heap[k]?:=by
 obtain ⟨w1,hw,rfl⟩:=h;rw [Qge _ _ _ _ (by simpa using hk),Qge _ _ _ _ (by simpa using hk)];exact hw.block k hs
theorem Qha.trans {w w1 w2:World} {B:Nat} {s s1:List UInt8} {e e1:Int} (h:Qha w B s1 e1 w1) (k:Qha w1 B s e w2) (hB:B<w.heap.size) {s0:List UInt8} {e0:Int} (h0:BoxT w B s0 e0) :
  (∀ b o v,w.cell? ⟨b,o,none⟩=some v→(b ≠ B∨2≤o)→w2.cell? ⟨b,o,none⟩=some v)∧(∀ b o,b<w.heap.size→w.frozen? ⟨b,o,none⟩=false→w2.frozen? ⟨b,o,none⟩=false)∧w.heap.size≤w2.heap.size∧BoxT w2 B s e:=
 ⟨fun b o v hc hne=>k.cell (h.cell hc hne) hne,fun b o hb hc=>k.frozen (h.frozen hc hb) (Nat.lt_of_lt_of_le hb h.size),Nat.le_trans h.size k.size,k.box (h.box h0)⟩
def TBox (w:World) (B:Nat) (T:TypeId) (cs:Array Value):Prop:=w.heap[B]?=some (.cells cs T (0,0))
theorem TBox.lt {w:World} {B:Nat} {T:TypeId} {cs:Array Value} (h:TBox w B T cs):B<w.heap.size:=(Array.getElem?_eq_some_iff.1 h).1
theorem TBox.cell {w:World} {B:Nat} {T:TypeId} {cs:Array Value} (h:TBox w B T cs) (o:Nat):w.cell? ⟨B,o,none⟩=cs[o]?:=by
 unfold TBox at h;simp [World.cell?,h]
theorem TBox.set {w:World} {B:Nat} {T:TypeId} {cs:Array Value} (h:TBox w B T cs) (o:Nat) (v:Value):TBox (w.setCell ⟨B,o,none⟩ v) B T (cs.setIfInBounds o v):=by
 unfold TBox at h ⊢;have hB:=(Array.getElem?_eq_some_iff.1 h).1;simp [World.setCell,Array.getElem?_modify,h]
theorem TBox.below {w w':World} {B:Nat} {T:TypeId} {cs:Array Value} (h:TBox w B T cs) (hb:Below w.heap.size w w'):TBox w' B T cs:=by
 unfold TBox at h ⊢;rw [hb.block B (Array.getElem?_eq_some_iff.1 h).1];exact h
theorem TBox.new (w:World) (T:TypeId) (cs:Array Value):TBox (w.alloc (.cells cs T)) w.heap.size T cs:=heap_alloc_new w _
def Qvt (w:World) (B:Nat) (s:List UInt8) (e:Int) (w':World):Prop:=
 (∀ T cs,TBox w B T cs→TBox w' B T ((cs.setIfInBounds 0 (.string ⟨s.toArray⟩)).setIfInBounds 1 (.int .i64 e))) ∧
 (∀ k,k ≠ B→k<w.heap.size→w'.heap[k]?=w.heap[k]?)∧w.heap.size≤w'.heap.size ∧
 (∀ base a,Below base a w→base≤B→base≤w.heap.size→Below base a w')
theorem Qha.r {w w':World} {B:Nat} {s:List UInt8} {e:Int} (h:Qha w B s e w'):Qvt w B s e w':=by
 refine ⟨fun T cs hT=>?_,fun k hk hs=>h.block hk hs,h.size,fun base a hb hB hs=>h.below hb hB hs⟩;obtain ⟨w1,hw,rfl⟩:=h;exact ((hT.below hw).set 0 _).set 1 _
theorem Qvt.refl {w:World} {B:Nat} {T:TypeId} {s:List UInt8} {e:Int} {cs:Array Value} (h:TBox w B T cs) (h0:cs[0]?=some (.string ⟨s.toArray⟩)) (h1:cs[1]?=some (.int .i64 e)):Qvt w B s e w:=by
 refine ⟨fun T' cs' hT=>?_,fun k _ _=>rfl,Nat.le_refl _,fun base a hb _ _=>hb⟩;have he:Obj.cells cs' T' (0,0)=.cells cs T (0,0):=Option.some.inj (hT.symm.trans h);simp only [Obj.cells.injEq,and_true] at he;obtain ⟨rfl,rfl⟩:=he;have e0:cs'.setIfInBounds 0 (.string ⟨s.toArray⟩)=cs':=by
  apply Array.ext
  ·simp
  ·intro i h2 h3;rw [Array.getElem_setIfInBounds (by simpa using h3)]
   split
   ·rename_i hi;subst hi;rw [Array.getElem?_eq_getElem h3] at h0;exact (Option.some.inj h0).symm
   ·rfl
 have e1:cs'.setIfInBounds 1 (.int .i64 e)=cs':=by
  apply Array.ext
  ·simp
  ·intro i h2 h3;rw [Array.getElem_setIfInBounds (by simpa using h3)]
   split
   ·rename_i hi;subst hi;rw [Array.getElem?_eq_getElem h3] at h1;exact (Option.some.inj h1).symm
   ·rfl
 rw [e0,e1];exact hT
theorem Qvt.trans {w w1 w2:World} {B:Nat} {s s1:List UInt8} {e e1:Int} (h:Qvt w B s1 e1 w1) (k:Qvt w1 B s e w2):Qvt w B s e w2:=by
 refine ⟨fun T cs hT=>?_,fun j hj hs=>(k.2.1 j hj (Nat.lt_of_lt_of_le hs h.2.2.1)).trans (h.2.1 j hj hs),Nat.le_trans h.2.2.1 k.2.2.1,fun base a hb hB hs=>k.2.2.2 base a (h.2.2.2 base a hb hB hs) hB (Nat.le_trans hs h.2.2.1)⟩;have:=k.1 T _ (h.1 T cs hT);have e:(((cs.setIfInBounds 0 (.string ⟨s1.toArray⟩)).setIfInBounds 1 (.int .i64 e1)).setIfInBounds 0 (.string ⟨s.toArray⟩)).setIfInBounds 1 (.int .i64 e)=(cs.setIfInBounds 0 (.string ⟨s.toArray⟩)).setIfInBounds 1 (.int .i64 e):=by
  apply Array.ext_getElem?;intro i;simp only [Array.getElem?_setIfInBounds,Array.size_setIfInBounds]
  split
  ·rfl
  ·split
   ·rfl
   ·rfl
 rw [e] at this;exact this
end Copyhold
