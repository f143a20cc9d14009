import Derived.Test.YtahlldgocpabjaaGreatMrgP
import Derived.Laws.IdiomRangeMap
import Derived.Test.YtahlldgocpabjaaGreatMrgN
import Derived.Test.YtahlldgocpabjaaGreatMrgO
import Derived.Test.YtahlldgocpabjaaGreatMrgK
import Derived.Deep.QuietTactic
import Derived.BigQuiet
import Derived.IntWalk
import Derived.Test.YtahlldgocpabjaaGreatRows
import Derived.Test.YtahlldgocpabjaaGreatMrgA
import Derived.Test.YtahlldgocpabjaaGreatMrgI
import Derived.RangeFuncNested
import Derived.RangeFuncBound
import Derived.RangeFuncCalls
import Derived.RangeFuncLeaves
import Derived.RangeFuncBox
import Derived.Shelf.Abstract
import Derived.Shelf.RegionOpen
import Derived.OwnWalkIn
import Derived.TacticsInMore
import Derived.LoopNIn
import Derived.LoopIn
set_option maxRecDepth 100000
set_option maxHeartbeats 8000000
set_option linter.unusedVariables false
set_option linter.unusedSimpArgs false
namespace Go.Proofs.YtahlldgocpabjaaGreat
open Go Go.RowKit Copyhold Go.Proofs.Tryz
def nodeT (f:Fsy) (_:Nat) (n:Nod):Prop:=1≤n.links∧n.links=(cntG (Qhe f) n.ino:Int)∧(n.kind=2→n.links=1∧hasB (Qd7 f 1) n.ino=true)
def keyT (f:Fsy) (z:Int):Prop:=Qav f z=true∧¬ z=1
def rightT (f:Fsy):Prop:=Qar f∧(∃ n,f.l[0]?=some n∧n.ino=1∧n.kind=2∧n.links=0)∧(∀ p∈Qhe f,keyT f p.1)∧AllQ (nodeT f) (f.l.drop 1)
def Qw0 (f:Fsy) (sn:List Nat):Prop:=sn.Nodup∧(∀ j∈sn,j<(Qhe f).length)∧∀ j∈sn,∀ p,(Qhe f)[j]?=some p→keyT f p.1
theorem Qw0.nil (f:Fsy):Qw0 f []:=⟨List.nodup_nil,fun j h=>(by cases h),fun j h=>(by cases h)⟩
theorem Qw0.more {f:Fsy} {sn:List Nat} {j:Nat} {y:Int × Nat} (h:Qw0 f sn) (hl:j<(Qhe f).length) (hn:j ∉ sn) (hy:(Qhe f)[j]?=some y) (hk:keyT f y.1):Qw0 f (j :: sn):=by
 refine ⟨List.nodup_cons.2 ⟨hn,h.1⟩,fun k hk'=>?_,fun k hk' p hp=>?_⟩
 ·rcases List.mem_cons.1 hk' with rfl | hk'
  ·exact hl
  ·exact h.2.1 k hk'
 ·rcases List.mem_cons.1 hk' with rfl | hk'
  ·rw [hy] at hp;obtain rfl:=Option.some.inj hp;exact hk
  ·exact h.2.2 k hk' p hp
theorem Qw0.all {f:Fsy} {sn:List Nat} (h:Qw0 f sn) (ha:∀ j,j<(cntM (Qhe f)).length→j∈sn):∀ p∈Qhe f,keyT f p.1:=fun p hp=>by
 obtain ⟨j,hj⟩:=List.getElem?_of_mem hp;exact h.2.2 j (ha j (by have:=Qan hj;simpa [cntM] using this)) p hj
theorem Qkh (U:List Int) (i:Int) (hl:U.length≤100000):Qah prog 87 [.sl 1 false (U.map intA),aI i] (aB (hasB U i)):=by
 exact Qac func87 (
 .r 1<|.r 1<|let L1:Lp (Nat):=⟨fun a1=>⟨[(0,.sl 1 false (U.map intA)),(1,aI i),(5,aI (a1:Int))],[]⟩,fun a1=>U.length-a1,fun a1=>Qa3 (fun _ z=>(z==i)=false) U a1⟩
 .lp L1 0 (show Qa3 (fun _ z=>(z==i)=false) U 0 from Qa3.zero _ _) [(5,aI 0)] [] ⟨sR,sR,sO,trivial⟩ trivial fun a1 ha1=>
 (fun (k:Nat) (hH1:Qa3 (fun _ z=>(z==i)=false) U k)=>.r 3<|.lm 8 U intA<|.r 1<|.br 9 (decide ((k:Int)<(U.length:Int))) (fun q1=>have p1:=decT q1;.r 2<|.idxM U intA k (m:=(k:Int)) rfl (by omega) fun x1 hx1=>
 .r 3<|.br 17 (x1==i) (fun q2=>have p2:=beqT q2;.r 1<|.f (aB (hasB U i)) [] (aB true) (by exact Sub.of_eq (congrArg aB (Zm9 hx1 (by assumption)).symm)))
 <| fun q2=>have p2:=beqF q2;.run 3 [rng .i64 ((k:Int)+1)] ⟨Qai (by omega) (by omega),trivial⟩<|
 .bk L1 k (k+1) (show Qa3 (fun _ z=>(z==i)=false) U (k+1) from (hH1.step hx1 (by assumption))) (show U.length-(k+1)<U.length-k from (by omega)) [(5,aI ((k:Int)+1))] [] ⟨sR,sR,sO,trivial⟩ trivial)
 <| fun q1=>have p1:=decF q1;.r 1<|.f (aB (hasB U i)) [] (aB false) (by exact Sub.of_eq (congrArg aB (has_no (hH1.full (by omega))).symm))) a1 ha1)
end Go.Proofs.YtahlldgocpabjaaGreat

namespace Go.Proofs.YtahlldgocpabjaaGreat
open Go.RowKit Copyhold Copyhold.Name
def geAt (l:List Name.Ent) (s:List UInt8) (i:Nat):Bool:=!decide ((l.getD i ([],0)).1<s)
theorem Znd {l:List Name.Ent} {s:List UInt8} (h:Srt l) (i:Nat) (hi:i<l.length):geAt l s i=decide (pos l s≤i):=by
 induction l generalizing i with
 | nil=>simp at hi
 | cons a l ih=>
  by_cases ha:a.1<s
  ·rw [pos_lt ha];cases i with
   | zero=>simp [geAt,ha]
   | succ i=>
    have:=ih h.tail i (by simpa using hi);unfold geAt at this ⊢;rw [List.getD_cons_succ,this];simp
  ·rw [pos_ge h ha];cases i with
   | zero=>simp [geAt,ha]
   | succ i=>
    have hx:¬ ((a :: l).getD (i+1) ([],0)).1<s:=by
     rw [List.getD_cons_succ,gete l i (by simpa using hi)];exact fun hxs=>ha (ltT (h.head _ (List.getElem_mem _)) hxs)
    unfold geAt;rw [decide_eq_false hx];simp
theorem Qz8 (l:List Name.Ent) (s:List UInt8) (A:Option Addr) (c i ba bs:Nat) (w:World) (hl:Ents w (.slice A l.length c) l) (hi:i<l.length) (hn:l.length≤1000000)
  (ha:w.cell? ⟨ba,0,none⟩=some (.slice A l.length c)) (hs:w.cell? ⟨bs,0,none⟩=some (.string ⟨s.toArray⟩)) :
  Calls Tryz.prog 205 #[.int .i64 (i:Int),.pointer (some ⟨ba,0,none⟩),.pointer (some ⟨bs,0,none⟩)] w fun e w'=>e=.returned (.bool (geAt l s i))∧∃ n,w'=w.drewN n:=by
 obtain ⟨b,off,rfl,hb,hc,hc1,hc2⟩:=hl.at i hi;have hg:l[i]=l.getD i ([],0):=(gete l i hi).symm;rw [hg] at hc1 hc2;unfold geAt;generalize l.getD i ([],0)=x at *;clear hg hl;have hi1:(i:Int)<(l.length:Int):=by omega
 have hi0:(0:Int)≤(i:Int):=by omega
 go_enter Tryz.func205,Tryz.ntmps205
 go_wp2_with fail
 go_quiet (fail)
 go_wp2_with fail
 go_ret
 exact ⟨by rw [← Qnk];rfl,_,rfl⟩
theorem Quy (l:List Name.Ent) (s:List UInt8) (A:Option Addr) (c ba bs:Nat) (w:World) (hl:Ents w (.slice A l.length c) l) (hn:l.length≤1000000) (hsrt:Srt l)
  (ha:w.cell? ⟨ba,0,none⟩=some (.slice A l.length c)) (hs:w.cell? ⟨bs,0,none⟩=some (.string ⟨s.toArray⟩)) :
  Calls Tryz.prog 204 #[.int .i64 (l.length:Int),.func (.func 205) #[] #[.pointer (some ⟨ba,0,none⟩),.pointer (some ⟨bs,0,none⟩)]] w fun e w'=>e=.returned (.int .i64 (pos l s:Int))∧∃ n,w'=w.drewN n:=by
 have hp:=pos_le l s;have HG:=Lib.hid (Znd (s:=s) hsrt);have HT:=Lib.hid (fun (i m:Nat) (hi:i<l.length)=>Qz8 l s A c i ba bs (w.drewN m) hl hi hn ha hs);clear hl hsrt ha hs
 go_enter Tryz.func204,Tryz.ntmps204
 go_wp2_with fail
 go_loopw [5,6] (fun si sj wr=>∃ i j n:Nat,si=.int .i64 i∧sj=.int .i64 j∧i≤pos l s∧pos l s≤j∧j≤l.length∧wr=w.drewN n) (fun si sj _=>(intOf sj).toNat-(intOf si).toNat)
 case atStart=>exact ⟨0,l.length,0,rfl,rfl,Nat.zero_le _,hp,Nat.le_refl _,rfl⟩
 case round=>
  obtain ⟨i,j,n,rfl,rfl,hi,hj,hjl,rfl⟩:=hrel;by_cases hlt:i<j
  ·have hmid:((i:Int)+j) / 2=(((i+j) / 2:Nat):Int):=by omega
   obtain ⟨m,hm⟩:∃ m,m=(i+j) / 2:=⟨_,rfl⟩
   have hm1:i≤m:=by omega
   have hm2:m<j:=by omega
   rw [← hm] at hmid;have hC:=HT.out m n (by omega);rw [HG.out m (by omega)] at hC;have HC:=Lib.hid hC;clear hC hm;by_cases hge:pos l s≤m
   ·have hd:decide (pos l s≤m)=true:=by simpa using hge
    rw [hd] at HC;clear hd
    go_wp2_with fail
    refine HC.out.mono ?_;rintro e w1 ⟨rfl,n1,rfl⟩
    go_wp2_with fail
    go_roundw
    case rel=>exact ⟨i,m,_,rfl,rfl,hi,hge,by omega,rfl⟩
    case measure=>simp [intOf];omega
   ·have hd:decide (pos l s≤m)=false:=by simpa using hge
    rw [hd] at HC;clear hd
    go_wp2_with fail
    refine HC.out.mono ?_;rintro e w1 ⟨rfl,n1,rfl⟩
    go_wp2_with fail
    go_roundw
    case rel=>exact ⟨m+1,j,_,by go_num,rfl,by omega,hj,hjl,rfl⟩
    case measure=>simp [intOf];omega
  ·obtain rfl:i=pos l s:=by omega
   go_wp2_with fail
   go_ret
   exact ⟨rfl,_,rfl⟩
theorem Qpj (l:List Name.Ent) (s:List UInt8) (A:Option Addr) (c:Nat) (w:World) (hl:Ents w (.slice A l.length c) l) (hn:l.length≤1000000) (hsrt:Srt l) :
  Calls Tryz.prog 156 #[.slice A l.length c,.string ⟨s.toArray⟩] w fun e w'=>e=.returned (.tuple #[.int .i64 (pos l s:Int),.bool (isAt l s)])∧Below w.heap.size w w':=by
 obtain ⟨W,hW⟩:∃ W,W=(w.alloc (.cells #[.slice A l.length c] 82)).alloc (.cells #[.string ⟨s.toArray⟩] 9):=⟨_,rfl⟩
 have hb:Below w.heap.size w W:=by rw [hW];exact ((Below.refl _ _).alloc (Nat.le_refl _) _).alloc (by simp) _
 have c0:W.cell? ⟨w.heap.size,0,none⟩=some (.slice A l.length c):=by rw [hW];simp [go_sem]
 have c1:W.cell? ⟨w.heap.size+1,0,none⟩=some (.string ⟨s.toArray⟩):=by rw [hW];simp [go_sem]
 have HC:=Lib.hid (Quy l s A c w.heap.size (w.heap.size+1) W (hl.below hb) hn hsrt c0 c1);have hat:=at_pos hsrt s;have hp:=pos_le l s;have HW:=Lib.hid hW;have HB:=Lib.hid hb;by_cases hlt:pos l s<l.length
 ·obtain ⟨b,off,rfl,hbk,hc,hc1,hc2⟩:=(hl.below hb).at (pos l s) hlt;rw [List.getElem?_eq_getElem hlt,Option.any_some] at hat;have HAT:=Lib.hid hat;have hi1:(pos l s:Int)<(l.length:Int):=by omega
  have hi0:(0:Int)≤(pos l s:Int):=by omega
  clear hl hsrt hat hW hb;generalize l[pos l s]=x at *;generalize isAt l s=q at *;generalize pos l s=k at *
  go_enter Tryz.func156,Tryz.ntmps156
  go_wp2_with fail
  rw [← HW.out];refine HC.out.mono ?_;rintro e w1 ⟨rfl,n1,rfl⟩
  go_wp2_with fail
  go_quiet (fail)
  go_wp2_with fail
  go_ret2
  exact ⟨by rw [← HAT.out];rfl,Qiz (Qiz HB.out _) _⟩
 ·rw [List.getElem?_eq_none (by omega),Option.any_none] at hat;have HAT:=Lib.hid hat;have hpl:pos l s=l.length:=by omega
  rw [hpl] at HC ⊢;have hd:decide ((l.length:Int)<(l.length:Int))=false:=by simp
  clear hl hsrt hat hb hlt hp hpl hW;generalize isAt l s=q at *
  go_enter Tryz.func156,Tryz.ntmps156
  go_wp2_with fail
  rw [← HW.out];refine HC.out.mono ?_;rintro e w1 ⟨rfl,n1,rfl⟩
  go_wp2_with fail
  go_quiet (fail)
  go_wp2_with fail
  go_ret2
  exact ⟨by rw [← HAT.out];rfl,Qiz (Qiz HB.out _) _⟩
def Qwb (l:List Name.Ent) (s:List UInt8):Value:=.tuple #[.int .i64 ((getE l s).getD 0),.bool (isAt l s)]
theorem Zd3 (l:List Name.Ent) (s:List UInt8) (A:Option Addr) (c:Nat) (w:World) (hl:Ents w (.slice A l.length c) l) (hn:l.length≤1000000) (hsrt:Srt l) :
  Calls Tryz.prog 96 #[.slice A l.length c,.string ⟨s.toArray⟩] w fun e w'=>e=.returned (Qwb l s)∧Below w.heap.size w w':=by
 have HC:=Lib.hid (Qpj l s A c w hl hn hsrt);unfold Qwb;cases hi:isAt l s with
 | true=>
  obtain ⟨x,hx1,hx2,hx3⟩:=get_pos hsrt hi;obtain ⟨hlt,hxe⟩:=List.getElem?_eq_some_iff.1 hx1;obtain ⟨b,off,rfl,hbk,hc,hc1,hc2⟩:=hl.at (pos l s) hlt;rw [hxe] at hc2;rw [hx3,Option.getD_some];rw [hi] at HC;have HC2:=Lib.hid hc2;have hi1:(pos l s:Int)<(l.length:Int):=by omega
  have hi0:(0:Int)≤(pos l s:Int):=by omega
  clear hl hsrt hc1 hc2 hx1 hx2 hx3 hxe hi;generalize pos l s=k at *
  go_enter Tryz.func96,Tryz.ntmps96
  go_wp2_with fail
  refine HC.out.mono ?_;rintro e w1 ⟨rfl,hb1⟩;have hc2:=Qkr hb1 HC2.out;have HB1:=Lib.hid hb1;clear hb1
  go_wp2_with fail
  go_ret2
  exact ⟨rfl,HB1.out⟩
 | false=>
  rw [Qq0 hi,Option.getD_none];rw [hi] at HC;clear hl hsrt hi
  go_enter Tryz.func96,Tryz.ntmps96
  go_wp2_with fail
  refine HC.out.mono ?_;rintro e w1 ⟨rfl,hb1⟩;have HB1:=Lib.hid hb1;clear hb1
  go_wp2_with fail
  go_ret2
  exact ⟨rfl,HB1.out⟩
end Go.Proofs.YtahlldgocpabjaaGreat

namespace Go.Proofs.YtahlldgocpabjaaGreat
open Go.RowKit Copyhold Copyhold.Name
end Go.Proofs.YtahlldgocpabjaaGreat

namespace Go.Proofs.YtahlldgocpabjaaGreat
open Go.RowKit Copyhold Copyhold.Name
end Go.Proofs.YtahlldgocpabjaaGreat

namespace Go.Proofs.YtahlldgocpabjaaGreat
open Go.RowKit Copyhold Copyhold.Name
theorem Zhh:Elem Tryz.prog 43 9 (.string ⟨#[]⟩) 1 16:=
 ⟨Tryz.underlying43,by kernel_rfl,by kernel_rfl,by decide⟩
end Go.Proofs.YtahlldgocpabjaaGreat

namespace Go.Proofs.YtahlldgocpabjaaGreat
open Go.RowKit Copyhold
end Go.Proofs.YtahlldgocpabjaaGreat

namespace Go.Proofs.YtahlldgocpabjaaGreat
open Go.RowKit Copyhold Copyhold.Name
theorem Zez (l:List Name.Ent) (s:List UInt8) (k:Nat) (hk:k<l.length):isAt (l.take (k+1)) s=(isAt (l.take k) s||l[k].1==s):=by
 unfold isAt;rw [List.take_succ_eq_append_getElem hk,List.any_append];simp
theorem Zfd (l:List Name.Ent) (s:List UInt8) (k:Nat) (hk:k<l.length) (h:isAt (l.take k) s=false) (he:l[k].1=s):getE l s=some l[k].2∧isAt l s=true:=by
 have hg:getE l s=some l[k].2:=by
  unfold getE;have hs:l=l.take k++l[k] :: l.drop (k+1):=by rw [← List.drop_eq_getElem_cons hk,List.take_append_drop]
  have hn:(l.take k).find? (fun x=>x.1==s)=none:=by
   rw [List.find?_eq_none];intro x hx e;rw [Bool.eq_false_iff] at h;exact h (Qkg.2 ⟨x,hx,by simpa using e⟩)
  generalize l[k]=y at *;rw [hs,List.find?_append,hn];simp [he]
 exact ⟨hg,by rw [get_some,hg];rfl⟩
theorem Qzz (l:List Name.Ent) (s:List UInt8) (A:Option Addr) (c:Nat) (w:World) (hl:Ents w (.slice A l.length c) l) (hn:l.length≤1000000) :
  Calls Tryz.prog 115 #[.slice A l.length c,.string ⟨s.toArray⟩] w fun e w'=>e=.returned (Qwb l s)∧w=w':=by
 have HL:=Lib.hid hl;clear hl
 go_enter Tryz.func115,Tryz.ntmps115
 go_wp2_with fail
 go_loop [6] (fun si=>∃ k:Nat,si=.int .i64 k∧k≤l.length∧isAt (l.take k) s=false) (fun si=>l.length-(intOf si).toNat)
 case atStart=>exact ⟨0,rfl,Nat.zero_le _,by simp [isAt]⟩
 case round=>
  obtain ⟨k,rfl,hk,hp⟩:=hrel;have HP:=Lib.hid hp;clear hp;by_cases hlt:k<l.length
  ·obtain ⟨b,off,rfl,hbk,hc,hc1,hc2⟩:=HL.out.at k hlt;have hst:=Zez l s k hlt;rw [HP.out,Bool.false_or] at hst;have HG:=Lib.hid (Zfd l s k hlt HP.out);have HST:=Lib.hid hst;clear hst;generalize l[k]=x at *;by_cases he:x.1=s
   ·obtain ⟨g1,g2⟩:=HG.out he;have HF:Hid (Qwb l s=.tuple #[.int .i64 x.2,.bool true]):=Lib.hid (by rw [Qwb,g1,g2];rfl);rw [he] at hc1;clear g1 g2 he
    go_wp2_with fail
    go_ret2
    exact ⟨by rw [HF.out];rfl,rfl⟩
   ·have hq:(x.1==s)=false:=by simpa using he
    have HS:=Lib.hid (HST.out.trans hq);clear he
    go_wp2_with fail
    go_round
    case rel=>exact ⟨k+1,by go_num,by omega,HS.out⟩
    case measure=>simp [intOf];omega
  ·have hfin:isAt l s=false:=by have:=HP.out;rwa [List.take_of_length_le (by omega)] at this
   have HF:Hid (Qwb l s=.tuple #[.int .i64 0,.bool false]):=Lib.hid (by rw [Qwb,hfin,Qq0 hfin];rfl);clear hfin
   go_wp2_with fail
   go_ret2
   exact ⟨by rw [HF.out];rfl,rfl⟩
end Go.Proofs.YtahlldgocpabjaaGreat

namespace Go.Proofs.YtahlldgocpabjaaGreat
open Go.RowKit Go.Shelf Copyhold Copyhold.Name
attribute [local go_sem] Oper.semAt_some
theorem Zjn (n:Nat) (hn:1≤n) (l Bs n₀ c:Nat) (A:Option Addr) (es:List Name.Ent) (hlen:es.length≤1000000) (J Jx:List (List UInt8)→World→Prop)
  (hY:∀ pre x W,J pre W→pre.length<es.length→YieldAt Fence.wide (n-1) Tryz.prog l #[.string ⟨x.toArray⟩] W fun e W'=>
   (e=.returned (.bool true)∧J (pre++[x]) W'∧Below n₀ W W')∨(e=.returned (.bool false)∧Jx (pre++[x]) W'))
  (hJa:∀ pre W o,J pre W→J pre (W.alloc o))
  (W:World) (hn0:n₀≤W.heap.size) (hBs:W.cell? ⟨Bs,0,none⟩=some (.slice A es.length c)) (hE:Ents W (.slice A es.length c) es) (hat:At (·<n₀) (.slice A es.length c)) (h0:J [] W) :
  CallsIn Fence.wide n Tryz.prog 225 #[.func (.yield l) #[] #[],.pointer (some ⟨Bs,0,none⟩)] W fun e W'=>(∃ v,e=.returned v) ∧
   ((∃ ys,ys=es.map (·.1)∧J ys W')∨(∃ pre,pre <+: es.map (·.1)∧Jx pre W')):=by
 have HE:=Lib.hid hE;have HAT:=Lib.hid hat;clear hE hat;refine callsIn_of_wp Tryz.func225 rfl trivial ?_ rfl;simp only [Tryz.ntmps225,List.size_toArray,List.length_cons,List.length_nil,Nat.reduceAdd,Nat.reduceSub,Array.replicate_succ,Array.replicate_zero,List.push_toArray,List.append_toArray,List.nil_append,List.cons_append]
 gi_wp2
 gi_loopw [7] (fun i wr=>∃ k:Nat,k≤es.length∧i=.int .i64 k∧J ((es.take k).map (·.1)) wr∧Below n₀ W wr∧W.heap.size≤wr.heap.size)
  (fun i _=>es.length-(intOf i).toNat)
 case atStart=>exact ⟨0,Nat.zero_le _,rfl,by simpa using h0,Below.refl _ _,Nat.le_refl _⟩
 case round=>
  obtain ⟨k,hk,rfl,hJs,hnx,hsz⟩:=hrel;by_cases hlt:k<es.length
  ·have hE':Ents wr (.slice A es.length c) es:=Sl.frame HE.out HAT.out (fun b hb _=>hnx.block b hb) hsz;obtain ⟨b,off,hA,hbk,hc,hc1,hc2⟩:=hE'.at k hlt;subst hA;have hst:(es.take (k+1)).map (·.1)=(es.take k).map (·.1)++[es[k].1]:=by
    rw [List.take_succ_eq_append_getElem hlt,List.map_append];rfl
   have HST:=Lib.hid hst;have hJa':=hJa _ _ (.cells #[strV es[k].1,.int .i64 es[k].2] 128) hJs;have hll:((es.take k).map (·.1)).length<es.length:=by simp;omega
   obtain ⟨fn,tmps,assign,body,hy,hR⟩:=hY _ es[k].1 _ hJa' hll;have HR:=Lib.hid hR;have HNX:=Lib.hid hnx;have HPP:Hid ((es.take (k+1)).map (·.1) <+: es.map (·.1)):=Lib.hid ((List.take_prefix _ _).map _);clear hE' hst hJa' hll hR hnx hJs hY;unfold strV at hy HR;generalize es[k]=x at *
   gi_wp2
   refine HR.out.mono ?_;rintro e W3 (⟨rfl,hJ3,hk3⟩ | ⟨rfl,hJx3⟩)
   ·have hn3:Below n₀ W W3:=(HNX.out.alloc (by omega) _).trans hk3;have hs3:=hk3.size
    gi_wp2
    go_roundw
    case rel=>exact ⟨k+1,by omega,by go_num,by rw [HST.out];exact hJ3,hn3,by simp at hs3;omega⟩
    case measure=>simp [intOf];omega
   ·gi_wp2
    refine bodyPost_ret (results_none rfl _ _ _) rfl ?_;exact ⟨⟨_,rfl⟩,.inr ⟨_,by rw [← HST.out];exact HPP.out,hJx3⟩⟩
  ·obtain rfl:k=es.length:=by omega
   have hfin:(es.take es.length).map (·.1)=es.map (·.1):=by rw [List.take_length]
   have HF:=Lib.hid hfin;clear hfin
   gi_wp2
   go_end0
   exact ⟨⟨_,rfl⟩,.inl (by rw [← HF.out];exact hJs)⟩
theorem Qum {β:Type} {B:Nat} {J:β→World→Prop} (h:AbidesFrom B J) {s:β} {W:World} (o:Obj) (hs:J s W):J s (W.alloc o):=
 h s W _ none hs (World.grownBy_alloc W o none) (fun r e=>by cases e)
theorem Zng (n:Nat) (A:Option Addr) (m c:Nat) (w:World) :
  CallsIn Fence.wide n Tryz.prog 192 #[.slice A m c] w fun e w'=>e=.returned (.func (.func 225) #[] #[.pointer (some ⟨w.heap.size,0,none⟩)])∧w'=w.alloc (.cells #[.slice A m c] 82):=by
 refine callsIn_of_wp Tryz.func192 rfl trivial ?_ rfl;simp only [Tryz.ntmps192,List.size_toArray,List.length_cons,List.length_nil,Nat.reduceAdd,Nat.reduceSub,Array.replicate_succ,Array.replicate_zero,List.push_toArray,List.append_toArray,List.nil_append,List.cons_append]
 gi_wp2
 go_ret
 exact ⟨rfl,rfl⟩
theorem Zax (n:Nat) (hn:1≤n) (Bs n₀ c:Nat) (A:Option Addr) (es:List Name.Ent) (hlen:es.length≤1000000) (w:World) (hBs:Bs<w.heap.size) (hn₀:n₀≤w.heap.size)
  (hc:w.cell? ⟨Bs,0,none⟩=some (.slice A es.length c)) (hE:Ents w (.slice A es.length c) es) (hat:At (·<n₀) (.slice A es.length c)) :
  SeqStopsK Fence.wide n Tryz.prog 225 #[.pointer (some ⟨Bs,0,none⟩)] (fun x:List UInt8=>#[Value.string ⟨x.toArray⟩]) (Below n₀) (fun ys=>ys=es.map (·.1)) (fun pre=>pre <+: es.map (·.1)) es.length w:=fun l J Jx W hW hJ _ hY h0=>
 Zjn n hn l Bs n₀ c A es hlen J Jx hY (fun pre W o h=>Qum hJ o h) W (Nat.le_trans hn₀ hW.size) ((hW.cell (p:=⟨Bs,0,none⟩) hBs).trans hc) (hE.below hW) hat h0
theorem Zi8:(Tryz.prog.info? 9).map (fun i=>(i.zero,i.size,i.bytes))=some (some (.string ⟨#[]⟩),1,16):=by kernel_rfl
theorem Zkr (n:Nat) (hn:3≤n) (A:Option Addr) (c:Nat) (es:List Name.Ent) (hlen:es.length≤1000000) (w:World) (hE:Ents w (.slice A es.length c) es) :
  CallsIn Fence.wide n Tryz.prog 149 #[.slice A es.length c] w fun e W'=>∃ v,e=.returned v∧W'.ownsRow w.heap.size 9 1 v es.length (es.map fun x=>strV x.1)∧Below w.heap.size w W':=by
 have h1:1≤n:=by omega
 obtain ⟨i0,hi,hz0,hz1,hz2⟩:=info_parts Zi8;obtain ⟨w1,hmk,hown1,hgr1⟩:=Zai Zhh w w.heap.size es.length (by omega) (by unfold maxLen;omega) (Nat.le_refl _);have hb1:=(Below.refl w.heap.size w).grown hgr1 (Nat.le_refl _) (fun g hg=>by cases hg);refine callsIn_of_wp_marks Tryz.func149 rfl trivial ?_ rfl;simp only [Tryz.ntmps149,List.size_toArray,List.length_cons,List.length_nil,Nat.reduceAdd,Nat.reduceSub,Array.replicate_succ,Array.replicate_zero,List.push_toArray,List.append_toArray,List.nil_append,List.cons_append]
 gi_wp2_with (refine ⟨trivial,?_⟩;gi_at_call 192;refine (Zng (n-1) A es.length c _).mono ?_;rintro e w' ⟨rfl,rfl⟩)
 obtain ⟨v1,hv1⟩:∃ v,v=Value.slice (some ⟨w.heap.size,0,none⟩) 0 es.length:=⟨_,rfl⟩
 rw [← hv1] at hown1 ⊢;clear hv1 hmk hgr1;have bO:=Boxed.new w1 43 v1;have bN:=Boxed.new (w1.alloc (.cells #[v1] 43)) 82 (.slice A es.length c);rw [World.size_alloc] at bN;have hB0:Below w.heap.size w ((w1.alloc (.cells #[v1] 43)).alloc (.cells #[.slice A es.length c] 82)):=(hb1.alloc hb1.size _).alloc (by have:=hb1.size;simp;omega) _;have hE0:Ents ((w1.alloc (.cells #[v1] 43)).alloc (.cells #[.slice A es.length c] 82)) (.slice A es.length c) es:=hE.below hB0;refine wpIn_rangeFunc_ownG rfl h1 (gf:=225) (lb:=#[.pointer (some ⟨w1.heap.size+1,0,none⟩)]) rfl trivial (enters_of Tryz.func225 (by kernel_rfl) rfl)
  (Zax (n-1) (by omega) (w1.heap.size+1) w.heap.size c A es hlen _ (by simp) (by have:=hb1.size;simp;omega) bN.cell hE0 hE.lies) belowK_t (belowK_b (by have:=hb1.size;simp;omega)) (Below.refl _ _) (fun _=>rfl)
  (fun (pre:List (List UInt8)) W=>(∃ v,Boxed W w1.heap.size 43 v∧W.ownsRow w.heap.size 9 1 v pre.length (pre.map strV)∧True)∧Below w.heap.size w W)
  (fun _ _ _=>False)
  (OwnFrom.and (Own.from (holdsRow_own w.heap.size w1.heap.size 43 9 1 (fun (pre:List (List UInt8))=>pre.length) (fun pre=>pre.map strV) (fun pre v=>True)) _) (ownFrom_below (Nat.le_refl _) (by have:=hb1.size;simp;omega)))
  (fun _ _ _ _ _ hs _ _=>hs)
  ⟨⟨_,bO.alloc _,(hown1.alloc _).alloc _,trivial⟩,hB0⟩
  (fun (x:List UInt8)=>{ tmps:=#[.slice A es.length c,undef,.slice none 0 0,.pointer (some ⟨w1.heap.size,0,none⟩),.string ⟨x.toArray⟩,.slice A es.length c,.int .i64 es.length,v1,.slice A es.length c,.func (.func 225) #[] #[.pointer (some ⟨w1.heap.size+1,0,none⟩)],.string ⟨x.toArray⟩,undef,undef,undef,undef,undef],defers:=[] }) ?assign ?body ?done ?stop
 case assign=>
  intro l x W K hK
  gi_wp2
  exact hK
 case body=>
  rintro l pre x W ⟨⟨v,hv,hrow,-⟩,hB⟩ hlt;have hc:=hv.cell
  gi_wp2_with (gi_at_builtin;refine wpListIn_append_own _ rfl _ _ 43 rfl w.heap.size 9 i0 (.string ⟨#[]⟩) 1 16 Tryz.underlying43 hi hz0 hz1 hz2 rfl (by decide) _ _ _ rfl (hrow.alloc _) ⟨W.heap.size,0,none⟩ 1 1 [.string ⟨x.toArray⟩] rfl rfl (cell_one_new _ _ _) (by simp [Value.oneCell']) (by unfold maxLen;omega) (by omega) (by have:=hB.size;simp;omega) ?_;intro v' w1' hown' hgrow _;obtain ⟨g',cap',rfl⟩:=ownsRow_succ hown';obtain ⟨hv1',hv2,hr2,hk2,hb2⟩:=hv.appended (by decide) hrow hB.size hb1.size hown' hgrow;have hc1:=hv1'.cell;have hf1:=hv1'.frozen)
  exact ⟨hk2.from _,hb2,⟨_,hv2,by simpa [strV] using hr2,trivial⟩,hB.trans hb2⟩
 case done=>
  rintro D ys W hD rfl ⟨⟨v,hv,hrow,-⟩,hB⟩ hK;have hc:=hv.cell
  gi_wp2
  refine ⟨by simp,.inl ⟨_,_,rfl,run_takeDeferred hK,?_⟩⟩;have hr:=ownsRow_putObj hrow (Obj.deferred none) hK rfl;rw [List.length_map,List.map_map] at hr;exact ⟨_,results_tmp rfl _ _ _,v,rfl,hr,hB.trans (belowK_b (w:=w) (Nat.le_refl _) W D _ _ (by have:=hb1.size;simp at hD;omega) hK rfl rfl)⟩
 case stop=>
  rintro D c pre W _ _ h _;exact h.elim
end Go.Proofs.YtahlldgocpabjaaGreat

namespace Go.Proofs.YtahlldgocpabjaaGreat
open Go Go.RowKit Copyhold Copyhold.Name
abbrev NEnt:=Copyhold.Name.Ent
def entO (x:NEnt):Ent:=⟨x.1,x.2⟩
def lI (l:List Ent):List NEnt:=l.map fun e=>((e.name,e.ino):NEnt)
theorem lI_O (l:List Ent):(lI l).map entO=l:=by
 unfold lI;rw [List.map_map];have:(entO ∘ fun e:Ent=>((e.name,e.ino):NEnt))=id:=by funext e;rfl
 rw [this,List.map_id]
theorem Qlj {s:Txt}:okN s=true↔Qn6 s:=by
 simp only [okN,Qn6,Bool.and_eq_true,Bool.not_eq_true',decide_eq_true_eq,beq_eq_false_iff_ne,ne_eq];constructor
 ·rintro ⟨⟨⟨⟨⟨h1,h2⟩,h3⟩,h4⟩,h5⟩,h6⟩;exact ⟨h1,h2,h3,h4,by simpa using h5,by simpa using h6⟩
 ·rintro ⟨h1,h2,h3,h4,h5,h6⟩;exact ⟨⟨⟨⟨⟨h1,h2⟩,h3⟩,h4⟩,by simpa using h5⟩,by simpa using h6⟩
theorem Qxc (l:List NEnt):rightE l=true↔rowP (l.map entO):=by
 simp only [rightE,rowP,Bool.and_eq_true,decide_eq_true_eq,List.all_eq_true,List.mem_range,List.length_map];refine and_congr_right fun _=>⟨fun h i e he=>?_,fun h i hi=>?_⟩
 ·rw [List.getElem?_map] at he;cases hx:l[i]? with
  | none=>rw [hx] at he;cases he
  | some x=>
   rw [hx] at he;obtain rfl:=Option.some.inj he;have:=h i (Qan hx);simp only [okAt,hx,Bool.and_eq_true,okE,decide_eq_true_eq] at this;refine ⟨Qlj.1 this.1.1,this.1.2,fun d h0 hd=>?_⟩;rw [List.getElem?_map] at hd;cases hy:l[i-1]? with
   | none=>rw [hy] at hd;cases hd
   | some y=>
    rw [hy] at hd;obtain rfl:=Option.some.inj hd;have hu:=this.2;simp only [upAt,hy,Bool.or_eq_true,beq_iff_eq,decide_eq_true_eq] at hu;show Op.bytesLess y.1 x.1=true;rw [Qnk];exact decide_eq_true (hu.resolve_left (by omega))
 ·have hx:=List.getElem?_eq_getElem hi;have:=h i (entO l[i]) (by rw [List.getElem?_map,hx];rfl);simp only [okAt,hx,Bool.and_eq_true,okE,decide_eq_true_eq];refine ⟨⟨Qlj.2 this.1,this.2.1⟩,?_⟩;simp only [upAt,Bool.or_eq_true,beq_iff_eq];by_cases h0:i=0
  ·exact .inl h0
  ·have hy:=List.getElem?_eq_getElem (l:=l) (i:=i-1) (by omega);right;rw [hy];have h2:=this.2.2 (entO l[i-1]) (by omega) (by rw [List.getElem?_map,hy];rfl);have h3:Op.bytesLess l[i-1].1 l[i].1=true:=h2;rw [Qnk] at h3;exact h3
theorem Zlr {D:Nat→Prop} {w:World} {vals us:List Value} (hl:us.length=vals.length) (h:∀ (j:Nat) (a:AV) (u:Value),(vals.map AV.val)[j]?=some a→us[j]?=some u→Ra D w a u):us=vals:=by
 apply List.ext_getElem?;intro j;by_cases hj:j<vals.length
 ·have h1:=List.getElem?_eq_getElem hj;have h2:=List.getElem?_eq_getElem (l:=us) (i:=j) (by omega);have:=h j (.val vals[j]) us[j] (by rw [List.getElem?_map,h1];rfl) h2;rw [h1,h2];generalize us[j]=u at this;cases this;rfl
 ·rw [List.getElem?_eq_none (by omega),List.getElem?_eq_none (by omega)]
theorem Zft (l:List Ent):(l.map entA).flatten=((l.map fun e=>((e.name,e.ino):NEnt)).flatMap Copyhold.Name.entC).map AV.val:=by
 induction l with
 | nil=>rfl
 | cons e r ih=>
  simp only [List.map_cons,List.flatten_cons,List.flatMap_cons,List.map_append,ih];rfl
theorem Qc4 {l:List Ent} (h:rowP l):Srt (lI l):=Zcs ((Qxc (lI l)).2 (by rw [lI_O];exact h))
def getI (l:List Ent) (s:Txt):Int:=(getE (lI l) s).getD 0
def isB (l:List Ent) (s:Txt):Bool:=isAt (lI l) s
theorem Qq3 {l:List Ent} {s:Txt} (h:isB l s=false):getI l s=0:=by
 unfold getI isB at *;unfold isAt at h;unfold getE;rw [List.find?_eq_none.2 fun x hx=>by simpa using List.any_eq_false.1 h x hx];rfl
theorem Qiv {D:Nat→Prop} {w:World} {t:Bool} {l:List Ent} {v:Value} (h:Ra D w (.sl 2 t (l.map entA)) v):∃ A c,v=.slice A (lI l).length c∧Ents w v (lI l):=by
 obtain ⟨us,hsl,hus,hru⟩:=Qgt h;rw [Zft] at hru;have hsl0:=hsl;obtain ⟨A,cc,rfl,hc,hl,hh⟩:=hsl0;have hlen:∀ l:List NEnt,(l.flatMap Copyhold.Name.entC).length=l.length*2:=fun l=>by
  induction l with
  | nil=>rfl
  | cons y r ih=>simp only [List.flatMap_cons,List.length_append,ih,List.length_cons];simp [Copyhold.Name.entC];omega
 have e:=Zlr (by rw [hlen,hl];simp) hru;subst e;simp only [List.length_map] at hsl ⊢;have hn:(lI l).length=l.length:=by simp [lI]
 refine ⟨A,cc,by rw [hn],?_⟩;show Sl w 2 _ (lI l).length _;rw [hn];exact hsl
theorem Qgr (a b:Value) (D:Nat→Prop) (w:World):Ra D w (.tup [.val a,.val b]) (.tuple #[a,b]):=.tup _ _ rfl fun j x v hx hv=>by
 match j,hx,hv with
 | 0,hx,hv=>cases hx;cases hv;exact .val _
 | 1,hx,hv=>cases hx;cases hv;exact .val _
 | j+2,hx,_=>simp at hx
theorem Qcj {P:Program} {f:FuncId} {args:List AV} {r:AV} {v:Value} (hr:∀ D w,Ra D w r v) (h:∀ D w vs,Qde D w args vs→Calls P f vs w (fun e w'=>e=.returned v∧Below w.heap.size w w')):Qah P f args r:=fun D w vs hD hv=>
 (h D w vs hv).mono fun e w' ⟨h1,h2⟩=>⟨v,D,h1,h2,fun _ h=>h,fun b hb=>⟨Nat.lt_of_lt_of_le (hD b hb) h2.size,.inl hb⟩,hr D w'⟩
theorem Qgh (l:List Ent) (s:Txt) (hl:l.length≤1000000) (hr:Srt (lI l)):Qah Tryz.prog 96 [.sl 2 false (l.map entA),aS s] (.tup [aI (getI l s),aB (isB l s)]):=Qcj (Qgr _ _) fun D w vs h=>by
 obtain ⟨u,v,rfl,hu,hv⟩:=Qde.two h;cases hv;obtain ⟨A,c,rfl,he⟩:=Qiv hu;exact Zd3 (lI l) s A c w he (by simp [lI];omega) hr
theorem Qeb (l:List Ent) (s:Txt) (hl:l.length≤1000000):Qah Tryz.prog 115 [.sl 2 false (l.map entA),aS s] (.tup [aI (getI l s),aB (isB l s)]):=Qcj (Qgr _ _) fun D w vs h=>by
 obtain ⟨u,v,rfl,hu,hv⟩:=Qde.two h;cases hv;obtain ⟨A,c,rfl,he⟩:=Qiv hu;exact (Qzz (lI l) s A c w he (by simp [lI];omega)).mono fun e w' ⟨g1,g2⟩=>⟨g1,g2 ▸ Below.refl _ _⟩
theorem Zhg {D:Nat→Prop} {w:World} {l:List Txt} {v:Value} (h:Row w v (l.map strV)) (hat:At D v):Ra D w (.sl 1 false (l.map txA)) v:=by
 rcases h with ⟨a,c,rfl,he⟩ | ⟨b,off,cap,rfl,h0,hc,hb,hcell⟩
 ·have:l=[]:=by simpa using he
  subst this;exact .sl 1 false [] a c 0 0 (fun _ _=>undef) (Nat.zero_le _) (fun h=>by cases h) (fun h=>absurd h (by simp)) (fun i e h=>by simp at h) (fun i e j x h=>by simp at h) (fun i e j x h=>by simp at h)
 ·have key:∀ (i:Nat) (e:List AV) (j:Nat) (x:AV),(l.map txA)[i]?=some e→e[j]?=some x→∃ y,l[i]?=some y∧j=0∧x=aS y:=by
   intro i e j x he hx;rw [List.getElem?_map] at he;cases hli:l[i]? with
   | none=>rw [hli] at he;cases he
   | some y=>
    rw [hli] at he;obtain rfl:=Option.some.inj he
    match j,hx with
    | 0,hx=>obtain rfl:=Option.some.inj hx;exact ⟨y,rfl,rfl,rfl⟩
    | j+1,hx=>simp [txA] at hx
  have:=Ra.sl (D:=D) (w:=w) 1 false (l.map txA) (some ⟨b,off,none⟩) cap b off (fun i _=>strV (l.getD i [])) (by simpa using hc) (fun h=>by cases h) (fun _=>⟨rfl,hat h0,hb⟩)
   (fun i e he=>by
    rw [List.getElem?_map] at he;cases hli:l[i]? with
    | none=>rw [hli] at he;cases he
    | some y=>rw [hli] at he;obtain rfl:=Option.some.inj he;rfl)
   (fun i e j x he hx=>by
    obtain ⟨y,h1,rfl,rfl⟩:=key i e j x he hx;simp only [List.getD,h1,Option.getD_some];refine ⟨?_,rfl⟩;have:=hcell i (strV y) (by rw [List.getElem?_map,h1];rfl);rw [show off+(i*1+0)=off+i from by omega];exact this)
   (fun i e j x he hx=>by
    obtain ⟨y,h1,rfl,rfl⟩:=key i e j x he hx;simp only [List.getD,h1,Option.getD_some];exact .val _)
  simp only [List.length_map] at this ⊢;exact this
theorem Znz {D1 D2 D3:Nat→Prop} {v:Value} (h1:At D1 v) (h2:At D2 v) (h:∀ b,D1 b→D2 b→D3 b):At D3 v:=by
 unfold At at h1 h2 ⊢
 split
 ·exact fun h0=>h _ (h1 h0) (h2 h0)
 ·trivial
end Go.Proofs.YtahlldgocpabjaaGreat
