import Derived.Test.YtahlldgocpabjaaGreatMrgV
import Derived.Test.YtahlldgocpabjaaGreatMrgZ
set_option maxRecDepth 100000
set_option maxHeartbeats 8000000
set_option linter.unusedVariables false
set_option linter.unusedSimpArgs false
set_option maxRecDepth 100000
namespace Go.Proofs.YtahlldgocpabjaaGreat.dataSplit
open Go.RowKit Copyhold
theorem writeD_ok (l:List UInt8) (a:Nat) (t:List UInt8) (h:a+t.length≤4096):Qat l a t=(if t=[] then l else putD l a t,0):=by
 have hr:Qba a t.length=0:=by
  unfold Qba
  rw [if_pos (by omega),if_neg (by omega)]
 unfold Qat
 rw [if_pos hr,Int.toNat_natCast]
theorem Qq0 (l:List UInt8) (n i:Nat):(Qe7 l n)[i]?=if i<n then some (l.getD i 0) else none:=by
 unfold Qe7
 rw [List.getElem?_append,List.length_take]
 by_cases h:i<n
 ·rw [if_pos h]
  by_cases h2:i<l.length
  ·rw [if_pos (by omega),List.getElem?_take,if_pos h]
   simp [List.getD,h2]
  ·rw [if_neg (by omega),List.getElem?_replicate,if_pos (by omega)]
   simp [List.getD,h2]
 ·rw [if_neg h,if_neg (by omega),List.getElem?_replicate,if_neg (by omega)]
theorem get_putD (l:List UInt8) (a:Nat) (t:List UInt8) (i:Nat):(putD l a t)[i]?=if i<max l.length (a+t.length) then some (if a≤i∧i<a+t.length then t.getD (i-a) 0 else l.getD i 0) else none:=by
 unfold putD
 generalize hm:max l.length (a+t.length)=m
 rw [List.append_assoc,List.getElem?_append,List.length_take,Qdd]
 by_cases h:i<a
 ·rw [if_pos (by omega),List.getElem?_take,if_pos h,Qq0,if_pos (by omega),if_pos (by omega),if_neg (by omega)]
 ·rw [if_neg (by omega),show min a m=a from by omega,List.getElem?_append]
  by_cases h2:i-a<t.length
  ·rw [if_pos h2,if_pos (by omega),if_pos (by omega)]
   simp [List.getD,h2]
  ·rw [if_neg h2,List.getElem?_drop,show a+t.length+(i-a-t.length)=i from by omega,Qq0]
   by_cases h3:i<m
   ·rw [if_pos h3,if_pos h3,if_neg (by omega)]
   ·rw [if_neg h3,if_neg h3]
end Go.Proofs.YtahlldgocpabjaaGreat.dataSplit

set_option maxRecDepth 100000
namespace Go.Proofs.YtahlldgocpabjaaGreat
open Go.RowKit Copyhold
attribute [local go_sem] Qwp
theorem Qxn (l:List UInt8) (n j:Nat) (h:n≤l.length+j):(l++List.replicate j 0).take n=Qe7 l n:=by
 unfold Qe7
 rw [List.take_append,List.take_replicate,show min (n-l.length) j=n-l.length from by omega]
theorem Qp8 (s:List UInt8) (n:Nat) (w:World) (hs:s.length≤1048576) (hn:n≤4096) :
  Calls Tryz.prog 117 #[.string ⟨s.toArray⟩,.int .i64 n] w fun e w'=>e=.returned (.tuple #[.string ⟨(Qe7 s n).toArray⟩,.int .i64 0])∧Below w.heap.size w w':=by
 have h0:(0:Int)≤(n:Int):=by omega
 go_enter Tryz.func117,Tryz.ntmps117
 go_wp2_with fail
 go_loopw [0] (fun so wr=>∃ (l:List UInt8) (j:Nat),so=.string ⟨l.toArray⟩∧l=s++List.replicate j 0∧l.length≤2097152∧Below w.heap.size w wr∧(j=0∨s.length+j≤n)) (fun so _=>n-(match so with | .string b=>b.size | _=>0))
 case atStart=>exact ⟨s,0,rfl,by simp,by omega,Below.refl _ _,.inl rfl⟩
 case round=>
  obtain ⟨l,j,rfl,hl,hll,hb,hj⟩:=hrel
  have HL:=Lib.hid hl
  have hlen:l.length=s.length+j:=by rw [hl];simp
  have HLEN:=Lib.hid hlen
  clear hl hlen
  by_cases hlt:l.length<n
  ·have hnext:l++[0]=s++List.replicate (j+1) 0:=by rw [HL.out,List.append_assoc,List.replicate_succ']
   have HN:=Lib.hid hnext
   clear hnext
   go_wp2_with fail
   go_roundw
   case rel=>exact ⟨l++[0],j+1,rfl,HN.out,by rw [List.length_append];simp;omega,hb,.inr (by have:=HLEN.out;omega)⟩
   case measure=>simp [ByteArray.size];omega
  ·have hfin:l.take n=Qe7 s n:=by rw [HL.out];exact Qxn s n j (by have:=HLEN.out;omega)
   have HF:=Lib.hid hfin
   have hle:(n:Int)≤(l.length:Int):=by omega
   clear hfin
   go_wp2_with fail
   go_ret2
   exact ⟨by rw [← HF.out];rfl,hb⟩
theorem Qyz (s:List UInt8) (n:Int) (w:World) (hs:s.length≤1048576) (h1:-9223372036854775808≤n) (h2:n≤9223372036854775807) :
  Calls Tryz.prog 117 #[.string ⟨s.toArray⟩,.int .i64 n] w fun e w'=>e=.returned (.tuple #[.string ⟨(cutD s n).1.toArray⟩,.int .i64 (cutD s n).2])∧Below w.heap.size w w':=by
 rcases (show n<0∨0≤n∧1099511627776<n∨0≤n∧n≤1099511627776∧4096<n∨0≤n∧n≤4096 from by omega) with h | ⟨h,h'⟩ | ⟨h,h',h''⟩ | ⟨h,h'⟩
 ·have hr:Qba 0 n=1:=by unfold Qba;rw [if_neg (by omega)]
  have hc:cutD s n=(s,1):=by unfold cutD;rw [hr];rfl
  rw [hc]
  clear hr hc
  go_enter Tryz.func117,Tryz.ntmps117
  go_wp2_with fail
  go_ret2
  exact ⟨rfl,Below.refl _ _⟩
 ·have hr:Qba 0 n=1:=by unfold Qba;rw [if_neg (by omega)]
  have hc:cutD s n=(s,1):=by unfold cutD;rw [hr];rfl
  rw [hc]
  clear hr hc
  go_enter Tryz.func117,Tryz.ntmps117
  go_wp2_with fail
  go_ret2
  exact ⟨rfl,Below.refl _ _⟩
 ·have hr:Qba 0 n=5:=by unfold Qba;rw [if_pos (by omega),if_pos (by omega)]
  have hc:cutD s n=(s,5):=by unfold cutD;rw [hr];rfl
  rw [hc]
  clear hr hc
  go_enter Tryz.func117,Tryz.ntmps117
  go_wp2_with fail
  go_ret2
  exact ⟨rfl,Below.refl _ _⟩
 ·obtain ⟨n,rfl⟩:=Int.eq_ofNat_of_zero_le h
  have hr:Qba 0 (n:Int)=0:=by unfold Qba;rw [if_pos (by omega),if_neg (by omega)]
  have hc:cutD s n=(Qe7 s n,0):=by unfold cutD;rw [if_pos hr,Int.toNat_natCast]
  rw [hc]
  exact Qp8 s n w hs (by omega)
end Go.Proofs.YtahlldgocpabjaaGreat

set_option maxRecDepth 100000
namespace Go.Proofs.YtahlldgocpabjaaGreat
open Go.RowKit Copyhold
attribute [local go_sem] Qwp
def Qgh (L:List UInt8) (a:Nat) (t:List UInt8) (i:Nat):List UInt8:=L.take a++t.take i++L.drop (a+i)
theorem Qlf (L:List UInt8) (a:Nat) (t:List UInt8) (i:Nat) (ha:a≤L.length) (hi:i≤t.length):(Qgh L a t i).length=max L.length (a+i):=by
 unfold Qgh
 simp
 omega
theorem Qzd (L:List UInt8) (a:Nat) (t:List UInt8) (i:Nat) (ha:a≤L.length) (hi:i<t.length) (h:a+i<(Qgh L a t i).length):(Qgh L a t i).set (a+i) t[i]=Qgh L a t (i+1):=by
 rw [Qlf L a t i ha (by omega)] at h
 have hA:(L.take a++t.take i).length=a+i:=by simp;omega
 unfold Qgh
 rw [List.set_append_right _ _ (by omega),hA,Nat.sub_self,List.drop_eq_getElem_cons (by omega),List.set_cons_zero,List.take_succ_eq_append_getElem hi,Nat.add_assoc,List.append_assoc,List.append_assoc,List.append_assoc,List.singleton_append]
theorem Qzf (L:List UInt8) (a:Nat) (t:List UInt8) (i:Nat) (ha:a≤L.length) (hi:i<t.length) (h:¬ a+i<(Qgh L a t i).length):Qgh L a t i++[t[i]]=Qgh L a t (i+1):=by
 rw [Qlf L a t i ha (by omega)] at h
 unfold Qgh
 rw [List.drop_eq_nil_of_le (by omega),List.drop_eq_nil_of_le (by omega),List.take_succ_eq_append_getElem hi]
 simp
theorem Qze (s:List UInt8) (a j:Nat) (t:List UInt8) (h:a≤s.length+j) (h':j=0∨s.length+j≤a):Qgh (s++List.replicate j 0) a t t.length=putD s a t:=by
 have hL:∀ i,(s++List.replicate j (0:UInt8))[i]?=if i<s.length+j then some (s.getD i 0) else none:=by
  intro i
  rw [List.getElem?_append]
  by_cases h1:i<s.length
  ·rw [if_pos h1,if_pos (by omega)]
   simp [List.getD,h1]
  ·rw [if_neg h1,List.getElem?_replicate]
   by_cases h2:i<s.length+j
   ·rw [if_pos (by omega),if_pos h2]
    simp [List.getD,h1]
   ·rw [if_neg (by omega),if_neg h2]
 apply List.ext_getElem?
 intro i
 rw [dataSplit.get_putD]
 unfold Qgh
 rw [List.append_assoc,List.getElem?_append,List.length_take,List.length_append,List.length_replicate,show min a (s.length+j)=a from by omega]
 by_cases hi:i<a
 ·rw [if_pos hi,List.getElem?_take,if_pos hi,hL,if_pos (by omega),if_pos (by omega),if_neg (by omega)]
 ·rw [if_neg hi,List.getElem?_append,List.length_take,Nat.min_self]
  by_cases h2:i-a<t.length
  ·rw [if_pos h2,if_pos (by omega),if_pos (by omega),List.take_length]
   simp [List.getD,h2]
  ·rw [if_neg h2,List.getElem?_drop,show a+t.length+(i-a-t.length)=i from by omega,hL]
   by_cases h3:i<s.length+j
   ·rw [if_pos h3,if_pos (by omega),if_neg (by omega)]
   ·rw [if_neg h3,if_neg (by omega)]
theorem Qms (s:List UInt8) (a:Nat) (t:List UInt8) (w:World) (hs:s.length≤524288) (ht:t ≠ []) (h:a+t.length≤4096) :
  Calls Tryz.prog 118 #[.string ⟨s.toArray⟩,.int .i64 a,.string ⟨t.toArray⟩] w fun e w'=>e=.returned (.tuple #[.string ⟨(putD s a t).toArray⟩,.int .i64 0])∧Below w.heap.size w w':=by
 have hte:t.isEmpty=false:=by simpa using ht
 have htl:0<t.length:=List.length_pos_iff.2 ht
 have hcv:=Lib.run_convert_string_bytes (P:=Tryz.prog) w 9 198 5 ⟨s.toArray⟩ Tryz.underlying9 Tryz.underlying198 Tryz.underlying5
 have hsz:(⟨s.toArray⟩:ByteArray).size=s.length:=by simp [ByteArray.size]
 rw [hsz] at hcv
 have HO:=Lib.hid (Brow.made w s (by omega))
 have HB:=Lib.hid (Qtk w 5 ⟨s.toArray⟩)
 generalize Lib.bytesWorld w 5 ⟨s.toArray⟩=W0 at *
 generalize grownCap w s.length 0 5=cap at *
 clear ht hsz
 go_enter Tryz.func118,Tryz.ntmps118
 go_wp2_with fail
 go_loopw [8] (fun sb wr=>∃ (l:List UInt8) (j c:Nat) (A:Option Addr),sb=.slice A l.length c∧l=s++List.replicate j 0∧(j=0∨s.length+j≤a)∧Brow wr w.heap.size sb l∧Below w.heap.size w wr) (fun sb _=>a-(match sb with | .slice _ n _=>n | _=>0))
 case atStart=>exact ⟨s,0,cap,some ⟨w.heap.size,0,none⟩,rfl,by simp,.inl rfl,HO.out,HB.out⟩
 case round=>
  obtain ⟨l,j,c,A,rfl,hl,hj,hown,hb⟩:=hrel
  have hlen:l.length=s.length+j:=by rw [hl];simp
  have hll:l.length≤1048576:=by omega
  have HL:=Lib.hid hl
  have HLEN:=Lib.hid hlen
  have HOWN:=Lib.hid hown
  clear hl hlen hown
  by_cases hlt:l.length<a
  ·obtain ⟨v',w',hrun,hown',hb'⟩:=HOWN.out.append 0 hll hb.size
   have hnext:l++[0]=s++List.replicate (j+1) 0:=by rw [HL.out,List.append_assoc,List.replicate_succ']
   obtain ⟨A',c',rfl⟩:=hown'.shape
   rw [List.length_append,List.length_singleton] at hrun hown'
   have HN:=Lib.hid hnext
   have HO':=Lib.hid hown'
   have HB':=Lib.hid (hb.trans hb')
   clear hnext hown' hb'
   have hrun:Sem.run Tryz.prog (Builtin.append_ #[198,198] 198 #[.slice A l.length c,.slice (some ⟨wr.heap.size,0,none⟩) 1 1]) (wr.alloc (.cells #[.int .u8 0] 5))=.ok (.slice A' (l.length+1) c') w':=hrun
   go_wp2_with (at_builtin;refine Qdp rfl _ _ _ rfl _ _ _ _ rfl rfl hrun ?_)
   go_roundw
   case rel=>exact ⟨l++[0],j+1,c',A',by rw [List.length_append];rfl,HN.out,.inr (by have:=HLEN.out;omega),HO'.out,HB'.out⟩
   case measure=>simp;omega
  ·have hal:a≤l.length:=by omega
   have hend:Qgh l a t t.length=putD s a t:=by rw [HL.out];exact Qze s a j t (by have:=HLEN.out;omega) hj
   have HEND:=Lib.hid hend
   clear hend
   go_wp2_with fail
   go_loopw [8,9] (fun sb si wr=>∃ (i c:Nat) (L:List UInt8) (A:Option Addr),si=.int .i64 i∧sb=.slice A L.length c∧L=Qgh l a t i∧i≤t.length∧Brow wr w.heap.size sb L∧Below w.heap.size w wr) (fun _ si _=>t.length-(intOf si).toNat)
   case atStart=>exact ⟨0,c,l,A,rfl,rfl,by simp [Qgh],Nat.zero_le _,HOWN.out,hb⟩
   case round=>
    obtain ⟨i,c2,L,A2,rfl,rfl,hL,hi,hown2,hb2⟩:=hrel
    have hLl:L.length=max l.length (a+i):=by rw [hL];exact Qlf l a t i hal hi
    have hl2:l.length≤528384:=by have:=HLEN.out;omega
    have hLb:L.length≤1048576:=by omega
    have HL2:=Lib.hid hL
    have HLL:=Lib.hid hLl
    have HO2:=Lib.hid hown2
    clear hL hLl hown2
    by_cases hit:i<t.length
    ·have hx:∃ x,x=t[i]:=⟨_,rfl⟩
     obtain ⟨x,hx⟩:=hx
     have hii:(i:Int)<(t.length:Int):=by omega
     by_cases hin:a+i<L.length
     ·have hnext:L.set (a+i) x=Qgh l a t (i+1):=by rw [HL2.out,hx];exact Qzd l a t i hal hit (by rw [← HL2.out];exact hin)
      have hsh:∃ g,A2=some ⟨g,0,none⟩:=by
       rcases HO2.out with ⟨he,hh⟩ | ⟨g,cap',he,_⟩
       ·rw [hh] at hin;simp at hin
       ·simp only [Value.slice.injEq] at he;exact ⟨g,he.1⟩
      obtain ⟨g,rfl⟩:=hsh
      obtain ⟨hbg,⟨u,hcu⟩,hfu,hst⟩:=HO2.out.store (a+i) x hin
      have HN:=Lib.hid hnext
      have HST:=Lib.hid hst
      have HB3:=Lib.hid (hb2.setCell (p:=⟨g,a+i,none⟩) hbg (Qcq x))
      have hain:(a:Int)+i<(L.length:Int):=by omega
      subst hx
      clear hnext hst
      go_wp2_with fail
      go_roundw
      case rel=>exact ⟨i+1,c2,L.set (a+i) t[i],_,by go_num,by rw [List.length_set],HN.out,by omega,HST.out,HB3.out⟩
      case measure=>simp [intOf];omega
     ·obtain ⟨v',w',hrun,hown',hb'⟩:=HO2.out.append x hLb hb2.size
      have hnext:L++[x]=Qgh l a t (i+1):=by rw [HL2.out,hx];exact Qzf l a t i hal hit (by rw [← HL2.out];exact hin)
      obtain ⟨A',c',rfl⟩:=hown'.shape
      rw [List.length_append,List.length_singleton] at hrun hown'
      have HN:=Lib.hid hnext
      have HO':=Lib.hid hown'
      have HB':=Lib.hid (hb2.trans hb')
      have hain:¬ (a:Int)+i<(L.length:Int):=by omega
      clear hnext hown' hb'
      rw [hx] at hrun
      unfold Qcq at hrun
      go_wp2_with (at_builtin;refine Qdp rfl _ _ _ rfl _ _ _ _ rfl rfl hrun ?_)
      go_roundw
      case rel=>exact ⟨i+1,c',L++[x],A',by go_num,by rw [List.length_append];rfl,HN.out,by omega,HO'.out,HB'.out⟩
      case measure=>simp [intOf];omega
    ·have hfin:L=putD s a t:=by rw [HL2.out,show i=t.length from by omega,HEND.out]
     have hbk:=HO2.out.back
     have HF:=Lib.hid hfin
     clear hfin
     go_wp2_with fail
     go_ret2
     exact ⟨by rw [← HF.out];rfl,hb2⟩
theorem Qsj (s:List UInt8) (a:Int) (t:List UInt8) (w:World) (hs:s.length≤524288) (ht:t.length≤524288) (h1:-9223372036854775808≤a) (h2:a≤9223372036854775807) :
  Calls Tryz.prog 118 #[.string ⟨s.toArray⟩,.int .i64 a,.string ⟨t.toArray⟩] w fun e w'=>e=.returned (.tuple #[.string ⟨(Qat s a t).1.toArray⟩,.int .i64 (Qat s a t).2])∧Below w.heap.size w w':=by
 rcases (show a<0∨0≤a∧1099511627776-(t.length:Int)<a∨0≤a∧a≤1099511627776-(t.length:Int)∧4096<a+t.length∨0≤a∧a+t.length≤4096 from by omega) with h | ⟨h,h'⟩ | ⟨h,h',h''⟩ | ⟨h,h'⟩
 ·have hr:Qba a t.length=1:=by unfold Qba;rw [if_neg (by omega)]
  have hc:Qat s a t=(s,1):=by unfold Qat;rw [hr];rfl
  rw [hc]
  clear hr hc
  go_enter Tryz.func118,Tryz.ntmps118
  go_wp2_with fail
  go_ret2
  exact ⟨rfl,Below.refl _ _⟩
 ·have hr:Qba a t.length=1:=by unfold Qba;rw [if_neg (by omega)]
  have hc:Qat s a t=(s,1):=by unfold Qat;rw [hr];rfl
  rw [hc]
  clear hr hc
  go_enter Tryz.func118,Tryz.ntmps118
  go_wp2_with fail
  go_ret2
  exact ⟨rfl,Below.refl _ _⟩
 ·have hr:Qba a t.length=5:=by unfold Qba;rw [if_pos (by omega),if_pos (by omega)]
  have hc:Qat s a t=(s,5):=by unfold Qat;rw [hr];rfl
  rw [hc]
  clear hr hc
  go_enter Tryz.func118,Tryz.ntmps118
  go_wp2_with fail
  go_ret2
  exact ⟨rfl,Below.refl _ _⟩
 ·obtain ⟨a,rfl⟩:=Int.eq_ofNat_of_zero_le h
  rw [dataSplit.writeD_ok s a t (by omega)]
  by_cases h0:t=[]
  ·subst h0
   rw [if_pos rfl]
   simp only
   have hlen:(a:Int)≤4096:=by simpa using h'
   clear h'
   go_enter Tryz.func118,Tryz.ntmps118
   go_wp2_with fail
   go_ret2
   exact ⟨rfl,Below.refl _ _⟩
  ·rw [if_neg h0]
   exact Qms s a t w hs h0 (by omega)
end Go.Proofs.YtahlldgocpabjaaGreat

namespace Go.Proofs.YtahlldgocpabjaaGreat
open Go Go.RowKit Copyhold
theorem Qsm (s:Txt) (a b:Int) (hs:s.length≤1000000) (ha:I64 a) (hb:I64 b):Qaj Tryz.prog 116 [aS s,aI a,aI b] (.tup [aS (Qdz s a b).1,aI (Qdz s a b).2]):=Qca (Qfq _ _) fun D w vs h=>by
 obtain ⟨u,v,t,rfl,hu,hv,ht⟩:=ra3 h
 cases hu;cases hv;cases ht
 exact Qwe s a b w (by omega) ha.1 ha.2 hb.1 hb.2
theorem Qp9 (s:Txt) (a:Int) (t:Txt) (hs:s.length≤500000) (ha:I64 a) (ht:t.length≤500000):Qaj Tryz.prog 118 [aS s,aI a,aS t] (.tup [aS (Qat s a t).1,aI (Qat s a t).2]):=Qca (Qfq _ _) fun D w vs h=>by
 obtain ⟨u,v,x,rfl,hu,hv,hx⟩:=ra3 h
 cases hu;cases hv;cases hx
 exact Qsj s a t w (by omega) (by omega) ha.1 ha.2
theorem Qng (s:Txt) (n:Int) (hs:s.length≤1000000) (hn:I64 n):Qaj Tryz.prog 117 [aS s,aI n] (.tup [aS (cutD s n).1,aI (cutD s n).2]):=Qca (Qfq _ _) fun D w vs h=>by
 obtain ⟨u,v,rfl,hu,hv⟩:=Qcx.two h
 cases hu;cases hv
 exact Qyz s n w (by omega) hn.1 hn.2
theorem Qfd (n:Nod):Qaj Tryz.prog 69 [.agg (nodA n)] (aI (Qcl n)):=by
 exact Qac (F:=Tryz.f69) 400 (
 .new fun b1=>.r 1<|.run 3 [b1=b1] rt1<|
 .br 5 (n.kind==2) (fun q1=>have p1:=beqT q1;.run 3 [b1=b1] rt1<|
 .val 8 (show (aI ((n.l.map entA).length:Int):AV)=aI (n.l.length:Int) from by rw [List.length_map])<|.r 1<|.fin (x:=aI (n.l.length:Int)) (r:=aI (Qcl n)) [] trivial (by exact Sub.of_eq (congrArg aI (by unfold Qcl;simp_all))))
 <| fun q1=>have p1:=beqF q1;.run 4 [b1=b1] rt1<|
 .fin (x:=aI ((n.text).length:Int)) (r:=aI (Qcl n)) [] trivial (by exact Sub.of_eq (congrArg aI (by unfold Qcl;simp_all)))) Tryz.func69 rfl (by kernel_rfl) (by kernel_rfl)
end Go.Proofs.YtahlldgocpabjaaGreat
